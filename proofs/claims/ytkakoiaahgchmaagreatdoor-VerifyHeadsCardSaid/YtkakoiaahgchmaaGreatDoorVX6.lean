/-
  Put together, as far as wanted: VLNFlowD VLLogR VLLogS VPtA VPtB VPtC VPtF VPrA VPrC VPrE VPrI VPrKM VCommit VWire1 VWire2 VWire3 VWire4 VhA VhB VhC VhD.
-/
import Derived.Test.YtkakoiaahgchmaaGreatDoorVX5
namespace Go.Proofs.YtkakoiaahgchmaaGreatDoor
set_option maxRecDepth 100000
open Go.RowKit
section
variable {P : Program} {ops : Array Oper} {md : Region.Mode}
/-- The walk, with the blocks that it has met. -/
def WalkD (P : Program) (ops : Array Oper) (R : World → World → Prop) (w : World) (Fin : Act → World → Prop) : List (Nd × List Nat × List Nat) → Pend → List Nat → Act → (World → Prop) → (World → Prop) → Prop
  | [], _, _, A, F, G => ∀ w1, R w w1 → F w1 → G w1 → Fin A w1
  | (.c j, lv, al) :: ph, pd, ks, A, F, G => ∃ o, ops[j]? = some o ∧ ∃ Fact Gact : Value → World → Prop, (∀ v w' w'', R w w' → Fact v w' → R w' w'' → Fact v w'') ∧ (∀ v w' w'', Gact v w' → Below w'.heap.size w' w'' → Gact v w'') ∧
      (∀ w1, R w w1 → F w1 → G w1 → NdOK P ops R A w1 (fun v w2 => Fact v w2 ∧ Gact v w2) o) ∧
      ∀ v w0, R w w0 → F w0 → Fact v w0 → After P ops R w (fun w1 => F w1 ∧ Fact v w1) (fun pd' A' => WalkD P ops R w Fin ph pd' ks A' (fun w1 => F w1 ∧ Fact v w1) (Gact v)) lv al pd (A.put o.dst v)
  | (.b j, lv, al) :: ph, pd, ks, A, F, G => ∃ o, ops[j]? = some o ∧ ∃ mk obj, (j, mk, obj) ∈ pd ∧
      ∀ b w0, R w w0 → F w0 → w.heap.size ≤ b → b ∉ ks → w0.heap[b]? = some obj → After P ops R w (fun w1 => F w1 ∧ w1.heap[b]? = some obj) (fun pd' A' => WalkD P ops R w Fin ph pd' (b :: ks) A' (fun w1 => F w1 ∧ w1.heap[b]? = some obj) G) lv al pd (A.put o.dst (mk b))
/-- The blocks of the operations that have come up are unlike. -/
structure DI (ops : Array Oper) (w : World) (from_ : List Nat) (pd : Pend) (listed : Array Bool) (a' : Act) (w' : World) (ks : List Nat) (β : Nat → Nat) : Prop where
  dl : ∀ p ∈ pd, p.1 ∈ from_ → listed.getD p.1 false = true
  lt : ∀ p ∈ pd, listed.getD p.1 false = true → β p.1 < w'.heap.size
  on : ∀ p ∈ pd, p.1 ∉ from_ → listed.getD p.1 false = true → w.heap.size ≤ β p.1 ∧ w'.heap[β p.1]? = some p.2.2 ∧ ∀ d, (ops[p.1]?).bind (·.dst) = some d → a'.tmps[d]? = slotV a'.tmps.size d (p.2.1 (β p.1))
  inj : ∀ p ∈ pd, ∀ q ∈ pd, listed.getD p.1 false = true → listed.getD q.1 false = true → p.1 ≠ q.1 → β p.1 ≠ β q.1
  kn : ∀ k ∈ ks, ∃ p ∈ pd, p.1 ∈ from_ ∧ β p.1 = k
theorem DI.step {w w' w'' : World} {from_ : List Nat} {pd : Pend} {listed listed' : Array Bool} {a' a'' : Act} {ks : List Nat} {β : Nat → Nat} {i : Nat} (h : DI ops w from_ pd listed a' w' ks β) (hni : ∀ p ∈ pd, p.1 ≠ i)
    (hset : ∀ j, listed'.getD j false = true → j = i ∨ listed.getD j false = true) (hset2 : ∀ j, listed.getD j false = true → listed'.getD j false = true) (hsz : a''.tmps.size = a'.tmps.size)
    (hput : ∀ p ∈ pd, ∀ d, (ops[p.1]?).bind (·.dst) = some d → a''.tmps[d]? = a'.tmps[d]?) (hm : w'.heap.size ≤ w''.heap.size) (hb : ∀ b o, w.heap.size ≤ b → w'.heap[b]? = some o → w''.heap[b]? = some o) : DI ops w from_ pd listed' a'' w'' ks β := by
  have hl : ∀ p ∈ pd, listed'.getD p.1 false = true → listed.getD p.1 false = true := fun p hp hj => (hset _ hj).resolve_left (hni p hp)
  refine ⟨fun p hp hf => hset2 _ (h.dl p hp hf), fun p hp hj => Nat.lt_of_lt_of_le (h.lt p hp (hl p hp hj)) hm, fun p hp hf hj => ?_, fun p hp q hq h1 h2 => h.inj p hp q hq (hl p hp h1) (hl q hq h2), h.kn⟩
  obtain ⟨h1, h2, h3⟩ := h.on p hp hf (hl p hp hj)
  refine ⟨h1, hb _ _ h1 h2, fun d hd => ?_⟩
  rw [hput p hp d hd, hsz]
  exact h3 d hd
theorem DI.enters {w w' : World} {from_ from2 : List Nat} {pd pd2 : Pend} {listed : Array Bool} {a' : Act} {ks ks2 : List Nat} {β : Nat → Nat} (h : DI ops w from_ pd listed a' w' ks β) (hp : ∀ p ∈ pd2, p ∈ pd ∨ (listed.getD p.1 false = false ∧ p.1 ∉ from2))
    (hf : ∀ k ∈ from_, k ∈ from2) (hdl : ∀ p ∈ pd, p.1 ∈ from2 → listed.getD p.1 false = true) (hks : ∀ k ∈ ks2, ∃ p ∈ pd2, p.1 ∈ from2 ∧ β p.1 = k) : DI ops w from2 pd2 listed a' w' ks2 β := by
  have hin : ∀ p ∈ pd2, listed.getD p.1 false = true → p ∈ pd := fun p hpp hl => by
    rcases hp p hpp with h | h
    · exact h
    · rw [h.1] at hl; cases hl
  refine ⟨fun p hpp hfp => ?_, fun p hpp hl => h.lt p (hin p hpp hl) hl, fun p hpp hfp hl => h.on p (hin p hpp hl) (fun k => hfp (hf _ k)) hl, fun p hpp q hq h1 h2 => h.inj p (hin p hpp h1) q (hin q hq h2) h1 h2, hks⟩
  rcases hp p hpp with h | h
  · exact hdl p h hfp
  · exact absurd hfp h.2
theorem advance_d {R : World → World → Prop} (_hR : Rel R) {N1 : Nat} {l : List Oper} {a0 a' A : Act} {w w' : World} {Fin : Act → World → Prop} (g : Fg md l.toArray N1)
    (hRb : ∀ w1 w2 b o, R w w1 → R w1 w2 → w.heap.size ≤ b → w1.heap[b]? = some o → w2.heap[b]? = some o) (_hRs : ∀ w1, R w w1 → w.heap.size ≤ w1.heap.size)
    {j : Nat} {lv al : List Nat} {ph : List (Nd × List Nat × List Nat)} {from_ pend : List Nat} {pd : Pend} {F G : World → Prop} {listed : Array Bool} {ks : List Nat} {β : Nat → Nat} {C : Prop}
    (hpe : ∀ j, (∃ p ∈ pd, p.1 = j) ↔ j ∈ pend) (hph : fB md l.toArray N1 from_ pend ((.b j, lv, al) :: ph) = true) (hcov : ∀ i, i < N1 → i ∈ from_ ∨ i ∈ pend ∨ i ∈ intro_ ((.b j, lv, al) :: ph))
    (hlex : WalkD P l.toArray R w Fin ((.b j, lv, al) :: ph) pd ks A F G) (hI : FInv R P md l.toArray N1 a0 w from_ pd A F G listed) (hA : FAt R l.toArray a0 w from_ pd A F G listed a' w') (hlj : listed.getD j false = true) (hD : DI l.toArray w from_ pd listed a' w' ks β)
    (next : ∀ (from2 pend2 : List Nat) (pd2 : Pend) (A2 : Act) (F2 G2 : World → Prop) (ks2 : List Nat), fB md l.toArray N1 from2 pend2 ph = true → (∀ j, (∃ p ∈ pd2, p.1 = j) ↔ j ∈ pend2) → (∀ i, i < N1 → i ∈ from2 ∨ i ∈ pend2 ∨ i ∈ intro_ ph) →
      WalkD P l.toArray R w Fin ph pd2 ks2 A2 F2 G2 → FInv R P md l.toArray N1 a0 w from2 pd2 A2 F2 G2 listed → FAt R l.toArray a0 w from2 pd2 A2 F2 G2 listed a' w' → DI l.toArray w from2 pd2 listed a' w' ks2 β → C) : C := by
  simp only [fB, Bool.and_eq_true, Bool.not_eq_true'] at hph
  obtain ⟨⟨⟨⟨⟨⟨h3, h2⟩, h5⟩, h6⟩, h7⟩, h8⟩, h9⟩ := hph
  have hjf : j ∉ from_ := by simpa using h2
  obtain ⟨o, ho, mk, obj, hmem, hnext⟩ := hlex
  obtain ⟨hb, hheap, hslot⟩ := hD.on _ hmem hjf hlj
  have hbk : β j ∉ ks := fun hk => by
    obtain ⟨p, hp, hpf, he⟩ := hD.kn _ hk
    have hne : p.1 ≠ j := fun e => hjf (e ▸ hpf)
    exact hD.inj p hp _ hmem (hD.dl p hp hpf) hlj hne he
  generalize hbe : β j = b at *
  obtain ⟨A', hq, hal⟩ := hnext b w' hA.rel hA.fact hb hbk hheap
  obtain ⟨pd', hK, hp1, hp2, hp3⟩ := hal.out
  have hE := enter (o := o) (v := mk b) (F2 := fun w1 => F w1 ∧ w1.heap[b]? = some obj) (G2 := G) (lv := lv) (al := al) (pd' := pd') g hI (hI.plt _ hmem) hjf (hI.plooks _ hmem) ho hlj hA.rel ⟨hA.fact, hheap⟩ hA.gact (fun _ h => h.1)
    (fun w1 w2 hr h hr2 => ⟨hI.stab _ _ hr h.1 hr2, hRb _ _ _ _ hr hr2 hb h.2⟩) hI.gstab hA.sz hA.df (fun i hi => .inr (hA.sub i hi)) hA.on (fun d hd => hslot d (by rw [ho]; exact hd)) (fun p hp _ => hA.onp p hp) hA.off hq h5
    (fun k hk p hp hpk => by
      have := List.all_eq_true.1 h6 k hk
      have h2 : k ∉ pend := by simpa using this
      exact h2 ((hpe k).1 ⟨p, hp, hpk⟩))
    (fun k hk => by
      obtain ⟨q1, q2, q3, q4⟩ := alB_at h7 k hk
      exact ⟨q1, q2, fun p hp hpk => q3 ((hpe k).1 ⟨p, hp, hpk⟩), q4⟩) hp1 hp2
  have hal0 : ∀ k ∈ al, listed.getD k false = false ∧ k ∉ from_ ++ [j] ++ lv := fun k hk => by
    obtain ⟨q1, q2, q3, q4⟩ := alB_at h7 k hk
    refine ⟨?_, q2⟩
    cases h : listed.getD k false
    · rfl
    · exfalso
      rcases hA.sub k h with h | h
      · exact q2 (by simp [h])
      · exact q3 ((hpe k).1 h)
  refine next _ _ pd' A' _ G _ h9 (fun i => ?_) (fun i hi => ?_) hK hE.1 hE.2 (hD.enters (fun p hp => (hp1 p hp).imp id fun h => hal0 _ h.1) (fun k hk => by simp [hk]) (fun p hp hpf => ?_) (fun k hk => ?_))
  · rw [hp3 i, hpe i, List.mem_append]
  · have := hcov i hi
    simp only [intro_, List.mem_append, List.mem_singleton] at this ⊢
    rcases this with h | h | (h | h) | h <;> simp [h]
  · have hpf : p.1 ∈ from_ ∨ p.1 = j ∨ p.1 ∈ lv := by simpa [or_assoc] using hpf
    rcases hpf with h | h | h
    · exact hD.dl p hp h
    · rw [h]; exact hlj
    · exfalso
      have := List.all_eq_true.1 h6 _ h
      have h2 : p.1 ∉ pend := by simpa using this
      exact h2 ((hpe _).1 ⟨p, hp, rfl⟩)
  · rcases List.mem_cons.1 hk with rfl | hk
    · exact ⟨_, hp2 _ hmem, by simp, hbe⟩
    · obtain ⟨p, hp, hpf, he⟩ := hD.kn _ hk
      exact ⟨p, hp2 p hp, by simp [hpf], he⟩
theorem flow_stepd {R : World → World → Prop} (hR : Rel R) {N1 : Nat} {Q : Exit → Act → World → Prop} {l : List Oper} {a0 a' A : Act} {w w' : World} {Fin : Act → World → Prop} (g : Fg md l.toArray N1)
    (hRb : ∀ w1 w2 b o, R w w1 → R w1 w2 → w.heap.size ≤ b → w1.heap[b]? = some o → w2.heap[b]? = some o) (hRs : ∀ w1, R w w1 → w.heap.size ≤ w1.heap.size) (hRm : ∀ w1 w2, R w1 w2 → w1.heap.size ≤ w2.heap.size)
    {k : Nat} {ph : List (Nd × List Nat × List Nat)} {from_ pend : List Nat} {pd : Pend} {F G : World → Prop} {listed : Array Bool} {ks : List Nat} {β : Nat → Nat}
    (hs : listed.size = l.length) (ht : ∀ t, N1 ≤ t → listed.getD t false = false) (hcl : ∀ j o, l.toArray[j]? = some o → listed.getD j false = true → ∀ e ∈ o.after, Region.binds md e = true → listed.getD e.on false = true) (hc : cnt N1 listed = k + 1) (hph : fB md l.toArray N1 from_ pend ph = true) (hpe : ∀ j, (∃ p ∈ pd, p.1 = j) ↔ j ∈ pend) (hcov : ∀ i, i < N1 → i ∈ from_ ∨ i ∈ pend ∨ i ∈ intro_ ph)
    (hlex : WalkD P l.toArray R w Fin ph pd ks A F G) (hI : FInv R P md l.toArray N1 a0 w from_ pd A F G listed) (hA : FAt R l.toArray a0 w from_ pd A F G listed a' w') (hD : DI l.toArray w from_ pd listed a' w' ks β)
    (hb : ∀ j lv al ph', ph = (.b j, lv, al) :: ph' → listed.getD j false = false)
    (ih : ∀ (ph : List (Nd × List Nat × List Nat)) (listed : Array Bool) (a' : Act) (w' : World) (from_ pend : List Nat) (pd : Pend) (A : Act) (F G : World → Prop) (ks : List Nat) (β : Nat → Nat), listed.size = l.length → (∀ t, N1 ≤ t → listed.getD t false = false) → (∀ j o, l.toArray[j]? = some o → listed.getD j false = true → ∀ e ∈ o.after, Region.binds md e = true → listed.getD e.on false = true) → cnt N1 listed = k →
      fB md l.toArray N1 from_ pend ph = true → (∀ j, (∃ p ∈ pd, p.1 = j) ↔ j ∈ pend) → (∀ i, i < N1 → i ∈ from_ ∨ i ∈ pend ∨ i ∈ intro_ ph) → WalkD P l.toArray R w Fin ph pd ks A F G →
      FInv R P md l.toArray N1 a0 w from_ pd A F G listed → FAt R l.toArray a0 w from_ pd A F G listed a' w' → DI l.toArray w from_ pd listed a' w' ks β → wpAny P md l.toArray Q (k + (l.length - N1)) listed a' w') : wpAny P md l.toArray Q (k + 1 + (l.length - N1)) listed a' w' := by
  have hle3 : N1 ≤ l.length := by simpa using g.le
  obtain ⟨i0, hi0, hu0⟩ := cnt_succ hc
  rw [show k + 1 + (l.length - N1) = (k + (l.length - N1)) + 1 by omega]
  refine ⟨fun h0 => ?_, fun i hi => ?_⟩
  · obtain ⟨j, hj⟩ := ready_of g.down (listed := listed) (by simpa using hs) i0 (by simp; omega) hu0
    rw [h0] at hj; cases hj
  obtain ⟨hiu, o, ho, hdeps⟩ := mem_ready.1 hi
  have ho' : l[i]? = some o := by simpa using ho
  have hil : i < l.length := (List.getElem?_eq_some_iff.1 ho').1
  have hi1 : i < N1 := by
    rcases Nat.lt_or_ge i N1 with h | h
    · exact h
    · have hdir : ∀ j, Region.waitsFor md l.toArray i j = true → listed.getD j false = true := fun j hwf => by
        obtain ⟨oj, hoj, e, he, hb, hon⟩ := Region.waitsFor_spec hwf
        have : oj = o := Option.some.inj (hoj.symm.trans ho)
        subst this
        have := hdeps e he hb
        rwa [hon] at this
      have hstep : ∀ j j', listed.getD j false = true → Region.waitsFor md l.toArray j j' = true → listed.getD j' false = true := fun j j' hj hwf2 => by
        obtain ⟨oj, hoj, e, he, hb, hon⟩ := Region.waitsFor_spec hwf2
        have := hcl j oj hoj hj e he hb
        rwa [hon] at this
      have := waitB_listed hstep 5 i i0 hdir (g.tail i i0 (by simpa using hil) h hi0)
      rw [hu0] at this; cases this
  have hfn : listed.getD i false = false := getD_both hiu
  have hcnt := cnt_set hi1 (by omega) hfn
  have hseti : (listed.setIfInBounds i true).getD i false = true := by simp [hs, hil]
  have hset : ∀ j, (listed.setIfInBounds i true).getD j false = true → j = i ∨ listed.getD j false = true := fun j hj => by
    by_cases h : j = i
    · exact .inl h
    · right; rw [getD_set_ne false (Ne.symm h)] at hj; exact hj
  have hset2 : ∀ j, listed.getD j false = true → (listed.setIfInBounds i true).getD j false = true := fun j hj => by
    by_cases h : j = i
    · subst h; exact hseti
    · rw [getD_set_ne false (Ne.symm h)]; exact hj
  have hset3 : ∀ j, (listed.setIfInBounds i true).getD j false = false → listed.getD j false = false := fun j hj => by
    cases h : listed.getD j false
    · rfl
    · rw [hset2 j h] at hj; cases hj
  have htail' : ∀ t, N1 ≤ t → (listed.setIfInBounds i true).getD t false = false := fun t htt => by rw [getD_set_ne false (by omega)]; exact ht t htt
  have hcl' : ∀ j o', l.toArray[j]? = some o' → (listed.setIfInBounds i true).getD j false = true → ∀ e ∈ o'.after, Region.binds md e = true → (listed.setIfInBounds i true).getD e.on false = true := fun j o' hj hl e he hb => by
    rcases hset j hl with rfl | hl
    · have : o' = o := Option.some.inj (hj.symm.trans ho)
      subst this
      exact hset2 _ (hdeps e he hb)
    · exact hset2 _ (hcl j o' hj hl e he hb)
  have hdone : ∀ kk, Region.waitsFor md l.toArray i kk = true → listed.getD kk false = true := fun kk hwf => by
    obtain ⟨oj, hoj, e, he, hb, hon⟩ := Region.waitsFor_spec hwf
    have : oj = o := Option.some.inj (hoj.symm.trans ho)
    subst this
    have := hdeps e he hb
    rwa [hon] at this
  -- slots of the others stay
  have hput : ∀ (v : Value) (d : Tmp) (j : Nat), j < N1 → j ≠ i → (l.toArray[j]?).bind (·.dst) = some d → (a'.put o.dst v).tmps[d]? = a'.tmps[d]? := fun v d j hj hne hjd =>
    put_get_ne _ _ _ _ fun he => g.apart j i hj hi1 hne d hjd (by rw [ho]; exact he)
  by_cases hif : i ∈ from_
  · -- an operation whose value is known
    have hsame := fsame_of hI hA (hI.looks i hif) ho hdeps
    obtain ⟨v, hy, hputv⟩ := hI.det i hif o ho hfn w' hA.rel hA.fact a' hA.sz hsame
    refine wpOp_of_qOp (C := fun w'' => ∃ x : Ext w', w'' = x.at_) (K := fun a'' => a'' = a'.put o.dst v) ⟨⟨w', Below.refl _ _⟩, rfl⟩ ?_ (hy.qOp ho rfl)
    rintro a'' w'' ⟨x, rfl⟩ rfl
    have hrx := hR.of x.same
    rw [hputv a' hA.sz]
    refine ih ph _ _ _ from_ pend pd A F G ks β (by simpa using hs) htail' hcl' (by omega) hph hpe hcov hlex ?_ ?_ (hD.step (i := i) (fun p hp he => by
      have := hD.dl p hp (by rw [he]; exact hif)
      rw [he, hfn] at this; cases this) hset hset2 (by rw [put_size]) (fun p hp d hd => hput _ d p.1 (hI.plt p hp) (fun he => by
      have := hD.dl p hp (by rw [he]; exact hif)
      rw [he, hfn] at this; cases this) hd) (hRm _ _ hrx) (fun b o hb ho => hRb _ _ _ _ hA.rel hrx hb ho))
    · exact ⟨hI.lt, hI.looks, fun j hj oj hoj hl => hI.det j hj oj hoj (hset3 j hl), hI.plt, hI.plooks, hI.pok, hI.old, hI.sz, hI.df, hI.stab, hI.gstab⟩
    · refine ⟨hR.trans hA.rel hrx, hI.stab _ _ hA.rel hA.fact hrx, hI.gstab _ _ hA.gact x.same, by rw [put_size]; exact hA.sz, by rw [put_defers]; exact hA.df, fun j hj => ?_, fun j d hjf hj hjd => ?_, fun p hp hpf hj => ?_, fun d hd => ?_⟩
      · rcases hset j hj with rfl | h
        · exact .inl hif
        · exact hA.sub j h
      · by_cases hod : o.dst = some d
        · rw [hod]; exact put_get_self a' A d hA.sz
        · rw [put_get_ne _ _ _ _ hod]
          rcases hset j hj with rfl | h
          · rw [ho] at hjd; exact absurd hjd hod
          · exact hA.on j d hjf h hjd
      · have hne : p.1 ≠ i := fun h => hpf (h ▸ hif)
        have hjl : listed.getD p.1 false = true := (hset _ hj).resolve_left hne
        obtain ⟨b, hb1, hb2, hb3⟩ := hA.onp p hp hpf hjl
        refine ⟨b, hb1, hRb _ _ _ _ hA.rel hrx hb1 hb2, fun d hd => ?_⟩
        rw [hput _ d p.1 (hI.plt p hp) hne hd, put_size]
        exact hb3 d hd
      · have hod : o.dst ≠ some d := fun he => hd i hseti (by rw [ho]; exact he)
        rw [put_get_ne _ _ _ _ hod]
        exact hA.off d fun j hj => hd j (hset2 j hj)
  · by_cases hip : ∃ p ∈ pd, p.1 = i
    · -- a block that is made
      obtain ⟨p, hp, rfl⟩ := hip
      have hsame := fsame_of hI hA (hI.plooks p hp) ho hdeps
      obtain ⟨hwant, hrun⟩ := hI.pok p hp o ho
      have hrun := hrun w' hA.rel hA.fact
      unfold wpOp
      simp only [ho]
      rw [if_pos (by rw [hsame.wanted]; exact hwant)]
      left
      unfold Oper.wp
      rw [hsame.exec (fun cs b => g.sel p.1 o cs b ho), hrun, Oper.upon_value]
      have hbel : Below w'.heap.size w' (w'.alloc p.2.2) := (Below.refl _ _).alloc (Nat.le_refl _) _
      have hrx := hR.of hbel
      have hnewb : (w'.alloc p.2.2).heap[w'.heap.size]? = some p.2.2 := by
        show (w'.heap.push _)[w'.heap.size]? = _
        simp
      have hDn : DI l.toArray w from_ pd (listed.setIfInBounds p.1 true) (a'.put o.dst (p.2.1 w'.heap.size)) (w'.alloc p.2.2) ks (fun x => if x = p.1 then w'.heap.size else β x) := by
        have hl : ∀ q ∈ pd, q.1 ≠ p.1 → (listed.setIfInBounds p.1 true).getD q.1 false = true → listed.getD q.1 false = true := fun q hq hne hj => (hset _ hj).resolve_left hne
        refine ⟨fun q hq hf => hset2 _ (hD.dl q hq hf), fun q hq hj => ?_, fun q hq hqf hj => ?_, fun q hq r hr h1 h2 hne => ?_, fun k hk => ?_⟩
        · show (if q.1 = p.1 then w'.heap.size else β q.1) < (w'.heap.push _).size
          rw [Array.size_push]
          split
          · omega
          · rename_i hne
            have := hD.lt q hq (hl q hq hne hj); omega
        · by_cases hqp : q.1 = p.1
          · obtain ⟨_, hrun2⟩ := hI.pok q hq o (by rw [hqp]; exact ho)
            have hrun2 := hrun2 w' hA.rel hA.fact
            rw [← hsame.exec (fun cs b => g.sel p.1 o cs b ho)] at hrun hrun2
            rw [hrun] at hrun2
            simp only [Result.ok.injEq, Next.value.injEq] at hrun2
            obtain ⟨e1, e2⟩ := hrun2
            have e3 : p.2.2 = q.2.2 := by
              have := congrArg (fun x : World => x.heap[w'.heap.size]?) e2
              rw [hnewb, show (w'.alloc q.2.2).heap[w'.heap.size]? = some q.2.2 by show (w'.heap.push _)[w'.heap.size]? = _; simp] at this
              exact Option.some.inj this
            simp only [hqp, if_true]
            refine ⟨hRs _ hA.rel, by rw [hnewb, e3], fun d hd => ?_⟩
            rw [ho] at hd
            have hd : o.dst = some d := hd
            rw [hd, put_slotV, put_size, e1]
          · simp only [hqp, if_false]
            obtain ⟨hb1, hb2, hb3⟩ := hD.on q hq hqf (hl q hq hqp hj)
            refine ⟨hb1, hRb _ _ _ _ hA.rel hrx hb1 hb2, fun d hd => ?_⟩
            rw [hput _ d q.1 (hI.plt q hq) hqp hd, put_size]
            exact hb3 d hd
        · by_cases hqp : q.1 = p.1
          · have hrp : r.1 ≠ p.1 := fun h => hne (hqp.trans h.symm)
            simp only [hqp, if_true, hrp, if_false]
            have := hD.lt r hr (hl r hr hrp h2); omega
          · simp only [hqp, if_false]
            by_cases hrp : r.1 = p.1
            · simp only [hrp, if_true]
              have := hD.lt q hq (hl q hq hqp h1); omega
            · simp only [hrp, if_false]
              exact hD.inj q hq r hr (hl q hq hqp h1) (hl r hr hrp h2) hne
        · obtain ⟨q, hq, hqf, he⟩ := hD.kn k hk
          exact ⟨q, hq, hqf, by simp only [show q.1 ≠ p.1 from fun h => hif (h ▸ hqf), if_false]; exact he⟩
      refine ih ph _ _ _ from_ pend pd A F G ks _ (by simpa using hs) htail' hcl' (by omega) hph hpe hcov hlex ?_ ?_ hDn
      · exact ⟨hI.lt, hI.looks, fun j hj oj hoj hl => hI.det j hj oj hoj (hset3 j hl), hI.plt, hI.plooks, hI.pok, hI.old, hI.sz, hI.df, hI.stab, hI.gstab⟩
      · refine ⟨hR.trans hA.rel hrx, hI.stab _ _ hA.rel hA.fact hrx, hI.gstab _ _ hA.gact hbel, by rw [put_size]; exact hA.sz, by rw [put_defers]; exact hA.df, fun j hj => ?_, fun j d hjf hj hjd => ?_, fun q hq hqf hj => ?_, fun d hd => ?_⟩
        · rcases hset j hj with rfl | h
          · exact .inr ⟨p, hp, rfl⟩
          · exact hA.sub j h
        · have hne : j ≠ p.1 := fun h => hif (h ▸ hjf)
          rw [hput _ d j (hI.lt j hjf) hne hjd]
          exact hA.on j d hjf ((hset j hj).resolve_left hne) hjd
        · by_cases hqp : q.1 = p.1
          · obtain ⟨_, hrun2⟩ := hI.pok q hq o (by rw [hqp]; exact ho)
            have hrun2 := hrun2 w' hA.rel hA.fact
            rw [← hsame.exec (fun cs b => g.sel p.1 o cs b ho)] at hrun hrun2
            rw [hrun] at hrun2
            simp only [Result.ok.injEq, Next.value.injEq] at hrun2
            obtain ⟨e1, e2⟩ := hrun2
            have e3 : p.2.2 = q.2.2 := by
              have := congrArg (fun x : World => x.heap[w'.heap.size]?) e2
              rw [hnewb, show (w'.alloc q.2.2).heap[w'.heap.size]? = some q.2.2 by show (w'.heap.push _)[w'.heap.size]? = _; simp] at this
              exact Option.some.inj this
            refine ⟨w'.heap.size, hRs _ hA.rel, by rw [hnewb, e3], fun d hd => ?_⟩
            rw [hqp, ho] at hd
            have hd : o.dst = some d := hd
            rw [hd, put_slotV, put_size, e1]
          · have hjl : listed.getD q.1 false = true := (hset _ hj).resolve_left hqp
            obtain ⟨b, hb1, hb2, hb3⟩ := hA.onp q hq hqf hjl
            refine ⟨b, hb1, hRb _ _ _ _ hA.rel hrx hb1 hb2, fun d hd => ?_⟩
            rw [hput _ d q.1 (hI.plt q hq) hqp hd, put_size]
            exact hb3 d hd
        · have hod : o.dst ≠ some d := fun he => hd p.1 hseti (by rw [ho]; exact he)
          rw [put_get_ne _ _ _ _ hod]
          exact hA.off d fun j hj => hd j (hset2 j hj)
    · -- a call in its turn
      have hint : i ∈ intro_ ph := (hcov i hi1).resolve_left hif |>.resolve_left fun h => hip ((hpe i).2 h)
      have hoff := fB_off _ _ _ hph
      have hun : ∀ kk ∈ intro_ ph, listed.getD kk false = false := fun kk hk => by
        cases h : listed.getD kk false
        · rfl
        · exfalso
          rcases hA.sub kk h with h | h
          · exact (hoff kk hk).1 h
          · exact (hoff kk hk).2 ((hpe kk).1 h)
      cases ph with
      | nil => simp [intro_] at hint
      | cons x ph =>
      obtain ⟨nd, lv, al⟩ := x
      cases nd with
      | b j =>
        exfalso
        have huj := hb j lv al ph rfl
        simp only [fB, Bool.and_eq_true, Bool.not_eq_true'] at hph
        obtain ⟨⟨⟨⟨⟨⟨h3, h2⟩, h5⟩, h6⟩, h7⟩, h8⟩, h9⟩ := hph
        obtain ⟨kk, hk, hwf⟩ := waitB_at h8 i (by simpa [intro_] using hint)
        have := hdone kk hwf
        rcases hk with rfl | hk
        · rw [huj] at this; cases this
        · rw [hun kk (by simpa [intro_] using hk)] at this; cases this
      | c j =>
      have hph0 := hph
      simp only [fB, Bool.and_eq_true, decide_eq_true_eq, Bool.not_eq_true'] at hph0
      obtain ⟨⟨⟨⟨⟨⟨⟨⟨h1, h2⟩, h3⟩, h4⟩, h5⟩, h6⟩, h7⟩, h8⟩, h9⟩ := hph0
      have hij : i = j := by
        simp only [intro_, List.mem_cons] at hint
        rcases hint with h | h
        · exact h
        · exfalso
          obtain ⟨kk, hk, hwf⟩ := waitB_at h8 i h
          have := hdone kk hwf
          rw [hun kk (by simpa [intro_] using hk)] at this
          cases this
      subst hij
      obtain ⟨o2, ho2, Fact, Gact, hstab, hgstab, hnd, hnext⟩ := hlex
      have : o2 = o := Option.some.inj (ho2.symm.trans ho)
      subst this
      have hsame := fsame_of hI hA h4 ho hdeps
      have key : ∀ v w2, R w' w2 → (Fact v w2 ∧ Gact v w2) → wpAny P md l.toArray Q (k + (l.length - N1)) (listed.setIfInBounds i true) (a'.put o2.dst v) w2 := by
        intro v w2 hb2 hfg2
        obtain ⟨hf2, hg2⟩ := hfg2
        have hrel := hR.trans hA.rel hb2
        have hF' := hI.stab _ _ hA.rel hA.fact hb2
        obtain ⟨A', hq, hal⟩ := hnext v w2 hrel hF' hf2
        obtain ⟨pd', hK, hp1, hp2, hp3⟩ := hal.out
        have hI2 : FInv R P md l.toArray N1 a0 w from_ pd A F G (listed.setIfInBounds i true) := ⟨hI.lt, hI.looks, fun j hj oj hoj hl => hI.det j hj oj hoj (hset3 j hl), hI.plt, hI.plooks, hI.pok, hI.old, hI.sz, hI.df, hI.stab, hI.gstab⟩
        have hE := enter (o := o2) (v := v) (F2 := fun w1 => F w1 ∧ Fact v w1) (G2 := Gact v) (lv := lv) (al := al) (pd' := pd') (a' := a'.put o2.dst v) (w' := w2) g hI2 hi1 hif h4 ho hseti hrel ⟨hF', hf2⟩ hg2 (fun _ h => h.1)
          (fun w1 w2 hr h hr2 => ⟨hI.stab _ _ hr h.1 hr2, hstab _ _ _ hr h.2 hr2⟩) (fun w1 w2 => hgstab _ w1 w2) (by rw [put_size]; exact hA.sz) (by rw [put_defers]; exact hA.df)
          (fun kk hk => (hset kk hk).imp id (hA.sub kk))
          (fun kk d hkf hk hkd => by
            have hne : kk ≠ i := fun h => hif (h ▸ hkf)
            rw [hput _ d kk (hI.lt kk hkf) hne hkd]
            exact hA.on kk d hkf ((hset kk hk).resolve_left hne) hkd)
          (fun d hd => by rw [hd, put_slotV, put_size])
          (fun p hp hne hpf hl => by
            obtain ⟨b, hb1, hb2', hb3⟩ := hA.onp p hp hpf ((hset _ hl).resolve_left hne)
            refine ⟨b, hb1, hRb _ _ _ _ hA.rel hb2 hb1 hb2', fun d hd => ?_⟩
            rw [hput _ d p.1 (hI.plt p hp) hne hd, put_size]
            exact hb3 d hd)
          (fun d hd => by
            have hod : o2.dst ≠ some d := fun he => hd i hseti (by rw [ho]; exact he)
            rw [put_get_ne _ _ _ _ hod]
            exact hA.off d fun j hj => hd j (hset2 j hj))
          hq h5
          (fun kk hk p hp hpk => by
            have := List.all_eq_true.1 h6 kk hk
            have h2 : kk ∉ pend := by simpa using this
            exact h2 ((hpe kk).1 ⟨p, hp, hpk⟩))
          (fun kk hk => by
            obtain ⟨q1, q2, q3, q4⟩ := alB_at h7 kk hk
            exact ⟨q1, q2, fun p hp hpk => q3 ((hpe kk).1 ⟨p, hp, hpk⟩), q4⟩) hp1 hp2
        have hD2 : DI l.toArray w from_ pd (listed.setIfInBounds i true) (a'.put o2.dst v) w2 ks β := hD.step (i := i) (fun p hp he => hip ⟨p, hp, he⟩) hset hset2 (by rw [put_size]) (fun p hp d hd => hput _ d p.1 (hI.plt p hp) (fun he => hip ⟨p, hp, he⟩) hd) (hRm _ _ hb2) (fun b o hb ho => hRb _ _ _ _ hA.rel hb2 hb ho)
        have hDn := hD2.enters (from2 := from_ ++ [i] ++ lv) (pd2 := pd') (ks2 := ks) (fun p hp => (hp1 p hp).imp id fun h => by
          obtain ⟨q1, q2, q3, q4⟩ := alB_at h7 _ h.1
          refine ⟨?_, q2⟩
          cases hl : (listed.setIfInBounds i true).getD p.1 false
          · rfl
          · exfalso
            rcases hset _ hl with h | h
            · exact q2 (by simp [h])
            · rcases hA.sub _ h with h | h
              · exact q2 (by simp [h])
              · exact q3 ((hpe _).1 h)) (fun k hk => by simp [hk]) (fun p hp hpf => by
          have hpf : p.1 ∈ from_ ∨ p.1 = i ∨ p.1 ∈ lv := by simpa [or_assoc] using hpf
          rcases hpf with h | h | h
          · exact hset2 _ (hD.dl p hp h)
          · exact absurd ⟨p, hp, h⟩ hip
          · exfalso
            have := List.all_eq_true.1 h6 _ h
            have h2 : p.1 ∉ pend := by simpa using this
            exact h2 ((hpe _).1 ⟨p, hp, rfl⟩)) (fun k hk => by
          obtain ⟨p, hp, hpf, he⟩ := hD.kn k hk
          exact ⟨p, hp2 p hp, by simp [hpf], he⟩)
        refine ih ph _ _ _ _ _ pd' A' _ _ ks β (by simpa using hs) htail' hcl' (by omega) h9 (fun kk => ?_) (fun kk hk => ?_) hK hE.1 hE.2 hDn
        · rw [hp3 kk, hpe kk, List.mem_append]
        · have := hcov kk hk
          simp only [intro_, List.mem_append, List.mem_cons] at this ⊢
          rcases this with h | h | h | (h | h) | h <;> simp [h]
      obtain ⟨hwant, hrun⟩ := hnd w' hA.rel hA.fact hA.gact
      unfold wpOp
      simp only [ho]
      rw [if_pos (by rw [hsame.wanted]; exact hwant)]
      left
      unfold Oper.wp
      rw [hsame.exec (fun cs b => g.sel i o2 cs b ho)]
      rcases hrun with ⟨v, w2, hr, hb2, hf2⟩ | ⟨f, args, hr, hcall⟩
      · rw [hr, Oper.upon_value]
        exact key v w2 hb2 hf2
      · rw [hr, Oper.upon_enter]
        refine hcall.mono fun e w2 h => ?_
        obtain ⟨v, rfl, hb2, hf2⟩ := h
        exact key v w2 hb2 hf2
theorem wpAny_flowd {R : World → World → Prop} (hR : Rel R) {N1 : Nat} {Q : Exit → Act → World → Prop} {l : List Oper} {a0 : Act} {w : World} (g : Fg md l.toArray N1)
    (hRb : ∀ w1 w2 b o, R w w1 → R w1 w2 → w.heap.size ≤ b → w1.heap[b]? = some o → w2.heap[b]? = some o) (hRs : ∀ w1, R w w1 → w.heap.size ≤ w1.heap.size) (hRm : ∀ w1 w2, R w1 w2 → w1.heap.size ≤ w2.heap.size) :
    ∀ (k : Nat) (ph : List (Nd × List Nat × List Nat)) (listed : Array Bool) (a' : Act) (w' : World) (from_ pend : List Nat) (pd : Pend) (A : Act) (F G : World → Prop) (ks : List Nat) (β : Nat → Nat), listed.size = l.length → (∀ t, N1 ≤ t → listed.getD t false = false) → (∀ j o, l.toArray[j]? = some o → listed.getD j false = true → ∀ e ∈ o.after, Region.binds md e = true → listed.getD e.on false = true) → cnt N1 listed = k →
      fB md l.toArray N1 from_ pend ph = true → (∀ j, (∃ p ∈ pd, p.1 = j) ↔ j ∈ pend) → (∀ i, i < N1 → i ∈ from_ ∨ i ∈ pend ∨ i ∈ intro_ ph) → WalkD P l.toArray R w (fun A w1 => wpList P l.toArray Q (l.drop N1) A w1) ph pd ks A F G →
      FInv R P md l.toArray N1 a0 w from_ pd A F G listed → FAt R l.toArray a0 w from_ pd A F G listed a' w' → DI l.toArray w from_ pd listed a' w' ks β → wpAny P md l.toArray Q (k + (l.length - N1)) listed a' w' := by
  have hle3 : N1 ≤ l.length := by simpa using g.le
  intro k
  induction k with
  | zero =>
    intro ph
    induction ph with
    | nil =>
      intro listed a' w' from_ pend pd A F G ks β hs ht hcl hc hph hpe hcov hlex hI hA hD
      have hall := cnt_zero hc
      have hfull : listed = full l.length N1 := full_eq hs hall ht
      have hseq := g.seq
      have hdl : (l.drop N1).length = l.length - N1 := by simp
      have hbound : ∀ j ∈ pend, j ∈ from_ := fun j hj => by
        simp only [fB, List.all_eq_true] at hph
        simpa using hph j hj
      have haA : a' = A := by
        have e : a'.tmps = A.tmps := by
          apply Array.ext_getElem?
          intro d
          by_cases h : ∃ j, listed.getD j false = true ∧ ((l.toArray)[j]?).bind (·.dst) = some d
          · obtain ⟨j, h1, h2⟩ := h
            have hjf : j ∈ from_ := (hA.sub j h1).elim id fun ⟨p, hp, hpj⟩ => hbound j ((hpe j).1 ⟨p, hp, hpj⟩)
            exact hA.on j d hjf h1 h2
          · rw [hA.off d (fun j hj hjd => h ⟨j, hj, hjd⟩), hI.old d (fun k hk hkd => h ⟨k, hall k (hI.lt k hk), hkd⟩)]
        have e2 := hA.df
        cases a'; cases A
        simp only at e e2
        rw [e, e2]
      subst haA
      rw [Nat.zero_add, ← hdl]
      exact wpAny_of_seq (l.drop N1) N1 listed a' w' (fun j => by simp [List.getElem?_drop]) (by rw [hdl, hfull]; simpa using hseq) (hlex w' hA.rel hA.fact hA.gact)
    | cons x ph ihp =>
      intro listed a' w' from_ pend pd A F G ks β hs ht hcl hc hph hpe hcov hlex hI hA hD
      have hall := cnt_zero hc
      obtain ⟨nd, lv, al⟩ := x
      cases nd with
      | c j =>
        exfalso
        simp only [fB, Bool.and_eq_true, decide_eq_true_eq, Bool.not_eq_true'] at hph
        obtain ⟨⟨⟨⟨⟨⟨⟨⟨h1, h2⟩, h3⟩, h4⟩, h5⟩, h6⟩, h7⟩, h8⟩, h9⟩ := hph
        rcases hA.sub j (hall j h1) with h | ⟨p, hp, hpj⟩
        · have : j ∉ from_ := by simpa using h2
          exact this h
        · have : j ∉ pend := by simpa using h3
          exact this ((hpe j).1 ⟨p, hp, hpj⟩)
      | b j => exact advance_d hR g hRb hRs hpe hph hcov hlex hI hA (hD := hD) (hlj := by
          simp only [fB, Bool.and_eq_true, Bool.not_eq_true'] at hph
          have hj : j ∈ pend := by simpa using hph.1.1.1.1.1.1
          obtain ⟨p, hp, rfl⟩ := (hpe j).2 hj
          exact hall _ (hI.plt p hp)) (next := fun from2 pend2 pd2 A2 F2 G2 ks2 q1 q2 q3 q4 q5 q6 q7 => ihp listed a' w' from2 pend2 pd2 A2 F2 G2 ks2 β hs ht hcl hc q1 q2 q3 q4 q5 q6 q7)
  | succ k ih =>
    intro ph
    induction ph with
    | nil =>
      intro listed a' w' from_ pend pd A F G ks β hs ht hcl hc hph hpe hcov hlex hI hA hD
      exact flow_stepd hR g hRb hRs hRm hs ht hcl hc hph hpe hcov hlex hI hA hD (fun j lv al ph' h => by cases h) fun ph2 listed2 a2 w2 from2 pend2 pd2 A2 F2 G2 ks2 β2 => ih ph2 listed2 a2 w2 from2 pend2 pd2 A2 F2 G2 ks2 β2
    | cons x ph ihp =>
      intro listed a' w' from_ pend pd A F G ks β hs ht hcl hc hph hpe hcov hlex hI hA hD
      obtain ⟨nd, lv, al⟩ := x
      cases nd with
      | c j => exact flow_stepd hR g hRb hRs hRm hs ht hcl hc hph hpe hcov hlex hI hA hD (fun j lv al ph' h => by cases h) fun ph2 listed2 a2 w2 from2 pend2 pd2 A2 F2 G2 ks2 β2 => ih ph2 listed2 a2 w2 from2 pend2 pd2 A2 F2 G2 ks2 β2
      | b j =>
        cases hlj : listed.getD j false with
        | true => exact advance_d hR g hRb hRs hpe hph hcov hlex hI hA hlj hD fun from2 pend2 pd2 A2 F2 G2 ks2 q1 q2 q3 q4 q5 q6 q7 => ihp listed a' w' from2 pend2 pd2 A2 F2 G2 ks2 β hs ht hcl hc q1 q2 q3 q4 q5 q6 q7
        | false => exact flow_stepd hR g hRb hRs hRm hs ht hcl hc hph hpe hcov hlex hI hA hD (fun j2 lv2 al2 ph' h => by cases h; exact hlj) fun ph2 listed2 a2 w2 from2 pend2 pd2 A2 F2 G2 ks2 β2 => ih ph2 listed2 a2 w2 from2 pend2 pd2 A2 F2 G2 ks2 β2
variable {Q : Exit → Act → World → Prop}
theorem wp_region_late2d {id : Nat} (t j t2 j2 N1 : Nat) (lev al : List Nat) (ph : List (Nd × List Nat × List Nat)) {a : Act} {w : World} {l l' : List Oper} (hm : P.follows .mixedOrders = true) (hL : lateB t j l = true) (hL2 : lateB t2 j2 (late t j l) = true) (hl : l' = late t2 j2 (late t j l)) (hB : flowB .any l'.toArray N1 lev al ph = true)
    (hQ : ∀ c (a : Act) d v w, Q (.panic c) (a.put d v) w → Q (.panic c) a w)
    (h : After P l'.toArray (fun a b => Below a.heap.size a b) w (fun _ => True) (fun pd' A' => WalkD P l'.toArray (fun a b => Below a.heap.size a b) w (fun A w1 => wpList P l'.toArray Q (l'.drop N1) A w1) ph pd' [] A' (fun _ => True) (fun _ => True)) lev al [] a) : (Code.region id l.toArray true).wp P Q a w := by
  refine wp_region_any hm ?_
  have h0 : wpAny P .any l'.toArray Q l'.toArray.size (Array.replicate l'.toArray.size false) a w.drew := by
    have hR := rel_below
    obtain ⟨A, hlev, hal⟩ := h
    obtain ⟨g, hlB, haB, hpB, hcov⟩ := fgl_of hB
    have hle : N1 ≤ l'.length := by simpa using g.le
    have hlvl := g.level hlB
    have hrel : Below w.heap.size w w.drew := hR.of (Below.refl _ _).drew
    rw [← pick_eq] at hlev
    obtain ⟨r1, r2, r3⟩ := walk_rest (hlev w.drew hrel trivial)
    obtain ⟨pd', hK, hp1, hp2, hp3⟩ := hal.out
    have hno : ∀ j, (Array.replicate l'.length false).getD j false = false := fun j => getD_replicate_false _ _
    have hpa : ∀ p ∈ pd', p.1 ∈ al ∧ ∀ o, l'.toArray[p.1]? = some o → AlOK P l'.toArray (fun a b => Below a.heap.size a b) w A (fun _ => True) p.2.1 p.2.2 o := fun p hp => by
      rcases hp1 p hp with h | h
      · simp at h
      · exact h
    have hI : FInv (fun a b => Below a.heap.size a b) P .any l'.toArray N1 a w lev pd' A (fun _ => True) (fun _ => True) (Array.replicate l'.length false) := by
      refine ⟨fun j hj => (levB_mem hlB j hj).1, fun j hj => by simpa using (levB_mem hlB j hj).2.2, fun j hj o ho _ => ?_, fun p hp => (alB_at haB _ (hpa p hp).1).1, fun p hp => (alB_at haB _ (hpa p hp).1).2.2.2, fun p hp => (hpa p hp).2, fun d hd => ?_, r1, r2, fun _ _ _ _ _ => trivial, fun _ _ _ _ => trivial⟩
      · refine det_of_walk (fun oo hoo cs b => ?_) hlvl.2.1 hlvl.2.2 hlev o (List.mem_filterMap.2 ⟨j, hj, ho⟩)
        obtain ⟨j', _, hoj'⟩ := hlvl.1 oo hoo
        exact g.sel j' oo cs b hoj'
      · refine r3 d fun oo hoo he => ?_
        obtain ⟨j, hj, hoj⟩ := hlvl.1 oo hoo
        exact hd j hj (by rw [hoj]; exact he)
    have hA : FAt (fun a b => Below a.heap.size a b) l'.toArray a w lev pd' A (fun _ => True) (fun _ => True) (Array.replicate l'.length false) a w.drew := by
      refine ⟨hrel, trivial, trivial, r1.symm, r2.symm, fun j hj => ?_, fun j d _ hj => ?_, fun p _ _ hj => ?_, fun d _ => rfl⟩
      all_goals (rw [hno] at hj; cases hj)
    have := wpAny_flowd hR (Q := Q) (a0 := a) g (fun w1 w2 b o _ h2 _ ho => by
      have hlt : b < w1.heap.size := (Array.getElem?_eq_some_iff.1 ho).1
      rw [h2.block b hlt]; exact ho) (fun _ h => h.size) (fun _ _ h => h.size) N1 ph (Array.replicate l'.length false) a w.drew lev al pd' A (fun _ => True) (fun _ => True) [] (fun _ => 0) (by simp) (fun t _ => hno _) (fun j o _ hj => by rw [hno] at hj; cases hj) (cnt_start N1 _ hle) hpB (fun j => by rw [hp3 j]; simp) hcov hK hI hA ⟨fun p hp hf => absurd hf (alB_at haB _ (hpa p hp).1).2.1, fun p _ hj => (by rw [hno] at hj; cases hj), fun p _ _ hj => (by rw [hno] at hj; cases hj), fun p _ q _ hj => (by rw [hno] at hj; cases hj), fun k hk => (by cases hk)⟩
    rw [show N1 + (l'.length - N1) = l'.toArray.size by simp; omega] at this
    simpa using this
  subst hl
  have h1 := wpAny_late (Q := Q) hL2 hQ _ _ _ _ (by simp [late_length]) h0
  have h2 := wpAny_late (Q := Q) hL hQ _ _ _ _ (by simp [late_length]) h1
  simpa [late_length] using h2
theorem WalkD.blk {R : World → World → Prop} {w : World} {Fin : Act → World → Prop} {j : Nat} {lv al : List Nat} {ph : List (Nd × List Nat × List Nat)} {pd : Pend} {ks : List Nat} {A : Act} {F G : World → Prop} {l : List Oper} {o : Oper} (ho : l[j]? = some o) (mk : Nat → Value) (obj : Obj) (hmem : (j, mk, obj) ∈ pd)
    (hnext : ∀ b w0, R w w0 → F w0 → w.heap.size ≤ b → b ∉ ks → w0.heap[b]? = some obj → After P l.toArray R w (fun w1 => F w1 ∧ w1.heap[b]? = some obj) (fun pd' A' => WalkD P l.toArray R w Fin ph pd' (b :: ks) A' (fun w1 => F w1 ∧ w1.heap[b]? = some obj) G) lv al pd (A.put o.dst (mk b))) :
    WalkD P l.toArray R w Fin ((.b j, lv, al) :: ph) pd ks A F G := ⟨o, by simpa using ho, mk, obj, hmem, hnext⟩
theorem WalkD.fin {l : List Oper} {R : World → World → Prop} {w : World} {Fin : Act → World → Prop} {pd : Pend} {ks : List Nat} {A : Act} {F G : World → Prop} (h : ∀ w1, R w w1 → F w1 → G w1 → Fin A w1) : WalkD P l.toArray R w Fin [] pd ks A F G := h
end
end Go.Proofs.YtkakoiaahgchmaaGreatDoor
namespace Go.Proofs.YtkakoiaahgchmaaGreatDoor
set_option maxRecDepth 100000
open Go.ChangeShapes Go.WideShapes Go.ChangeAt Go.RowKit
set_option maxHeartbeats 4000000 in
theorem both_same (A : List Int) (m : Int) (len : Nat) (ya : Option Addr) (yc : Nat) (w : World) (hA : Dg A)  :
    Calls Tryz.prog 30 #[.agg (A.map (Value.int .u8)).toArray, .int .i64 m, .int .i64 m, .bool false, .slice ya len yc] w fun e w' => e = .returned (.tuple #[.agg (A.map (Value.int .u8)).toArray, .agg (A.map (Value.int .u8)).toArray, .bool ((len : Int) == 0)]) ∧ Below w.heap.size w w' := by
  have b1 := (Below.refl w.heap.size w).alloc (Nat.le_refl _) (.cells (A.map (Value.int .u8)).toArray 25 (0, 0))
  have b2 := b1.alloc b1.size (.cells (byteCells 32 []) 25 (0, 0))
  have b3 := b2.alloc b2.size (.cells (byteCells 32 []) 25 (0, 0))
  have Ka := hid (((Blk.new (w := w) (n := w.heap.size) rfl (A.map (Value.int .u8)).toArray 25).old (.cells (byteCells 32 []) 25 (0, 0))).old (.cells (byteCells 32 []) 25 (0, 0)))
  have Kr1 := hid ((Blk.new (w := (w.alloc (.cells (A.map (Value.int .u8)).toArray 25 (0, 0)))) (n := w.heap.size + 1) (by simp only [World.size_alloc]) (byteCells 32 []) 25).old (.cells (byteCells 32 []) 25 (0, 0)))
  have Kr2 := hid (Blk.new (w := ((w.alloc (.cells (A.map (Value.int .u8)).toArray 25 (0, 0))).alloc (.cells (byteCells 32 []) 25 (0, 0)))) (n := w.heap.size + 1 + 1) (by simp only [World.size_alloc]) (byteCells 32 []) 25)
  have Hb := hid b3
  have hbz := b3.size
  have Hbs := hid (show w.heap.size + 1 + 1 + 1 = (((w.alloc (.cells (A.map (Value.int .u8)).toArray 25 (0, 0))).alloc (.cells (byteCells 32 []) 25 (0, 0))).alloc (.cells (byteCells 32 []) 25 (0, 0))).heap.size by simp only [World.size_alloc])
  clear b1 b2 b3 
  go_enter Tryz.func30, Tryz.ntmps30
  go_wp2_with fail
  refine FlowB.wp_region_butIn [w.heap.size + 1, w.heap.size + 1 + 1] (fun wz => Blk wz (w.heap.size + 1) (byteCells 32 []) 25 ∧ Blk wz (w.heap.size + 1 + 1) (byteCells 32 []) 25) 7 [0, 1, 2, 3, 4] [] [(.c 5, [], []), (.c 6, [], [])] (by kernel_rfl) (by kernel_rfl) ⟨Kr1.out, Kr2.out⟩ (fun _ _ h hb => ⟨h.1.below hb, h.2.below hb⟩) ?_
  apply Exists.intro
  refine ⟨fun w0 hb0 hF0 => ?_, ?_⟩
  · skip
    have x0 : ∀ w', (∃ x : Ext w0, w' = x.at_) → ∃ T, Blk w' (w.heap.size) (A.map (Value.int .u8)).toArray T := fun w' ⟨x, hx⟩ => ⟨_, hx ▸ (hb0.blk Ka.out (by simp only [List.mem_cons, List.not_mem_nil, or_false]; omega)).below x.same⟩
    simp only [pick, List.getElem?_toArray, List.getElem?_cons_succ, List.getElem?_cons_zero, Option.toList_some, List.cons_append, List.nil_append]
    repeat (first | (go_big_quiet_want; refine quiet_load_blk 25 _ rfl (w.heap.size) rfl _ x0 _ Tryz.underlying25 rfl 32 size_digest hA.size ?_; go_big_quiet_on; simp only [Act.put, List.setIfInBounds_toArray, List.set_cons_zero, List.set_cons_succ]) | go_big_quiet_step (fail))
    exact wpQuiet_nil rfl
  refine FlowB.AlChk.nil ?_
  refine FlowB.Walk.skips rfl (fun wz => Blk wz (w.heap.size + 1) (A.map (Value.int .u8)).toArray 25 ∧ Blk wz (w.heap.size + 1 + 1) (byteCells 32 []) 25) (fun _ _ h hb => ⟨h.1.below hb, h.2.below hb⟩) rfl (fun w1 hb1 hF1 hG1 => ?_) ?_
  · exact FlowB.store_skips 25 _ _ rfl (w.heap.size + 1) (A.map (Value.int .u8)).toArray rfl rfl _ 25 hG1.1 32 size_digest zsize hA.size (ints_one _ _) (by simp) (fun w2 h2 h3 => ⟨h3, h2.blk hG1.2 (by omega)⟩)
  intro w1 hb1 hF1
  apply Exists.intro
  refine ⟨fun w2 hb2 hF2 => wpQuiet_nil rfl, ?_⟩
  refine FlowB.AlChk.nil ?_
  refine FlowB.Walk.skips rfl (fun wz => Blk wz (w.heap.size + 1) (A.map (Value.int .u8)).toArray 25 ∧ Blk wz (w.heap.size + 1 + 1) (A.map (Value.int .u8)).toArray 25) (fun _ _ h hb => ⟨h.1.below hb, h.2.below hb⟩) rfl (fun w1 hb1 hF1 hG1 => ?_) ?_
  · exact FlowB.store_skips 25 _ _ rfl (w.heap.size + 1 + 1) (A.map (Value.int .u8)).toArray rfl rfl _ 25 hG1.2 32 size_digest zsize hA.size (ints_one _ _) (by simp) (fun w2 h2 h3 => ⟨h2.blk hG1.1 (by omega), h3⟩)
  intro w1 hb1 hF1
  apply Exists.intro
  refine ⟨fun w2 hb2 hF2 => wpQuiet_nil rfl, ?_⟩
  refine FlowB.AlChk.nil ?_
  refine FlowB.Walk.fin fun w1 hw1 _ hGw1 => ?_
  simp only [List.drop_succ_cons, List.drop_zero]
  have HIw1 := hid hw1
  have HBw1 := hid (hw1.below Hb.out Hb.out.size (by simp only [List.mem_cons, List.not_mem_nil, or_false, forall_eq_or_imp, forall_eq]; omega))
  have HGw1 := hid hGw1
  clear hw1 hGw1
  go_wp2_with fail
  exact bodyPost_ret (v := .tuple #[.agg (A.map (Value.int .u8)).toArray, .agg (A.map (Value.int .u8)).toArray, .bool ((len : Int) == 0)]) (results_blk2_tmp Tryz.results30 _ (w.heap.size + 1) (w.heap.size + 1 + 1) rfl rfl _ rfl _ _ 25 HGw1.out.1 HGw1.out.2 _ Tryz.underlying25 rfl 32 size_digest hA.size hA.size) rfl ⟨rfl, HBw1.out⟩
set_option maxHeartbeats 4000000 in
theorem both_bad (A : List Int) (m : Int) (len : Nat) (ya : Option Addr) (yc : Nat) (w : World) (hA : Dg A) (hl : ¬ (len : Int) = 1) :
    Calls Tryz.prog 30 #[.agg (A.map (Value.int .u8)).toArray, .int .i64 m, .int .i64 m, .bool true, .slice ya len yc] w fun e w' => e = .returned (.tuple #[.agg (A.map (Value.int .u8)).toArray, .agg (A.map (Value.int .u8)).toArray, .bool false]) ∧ Below w.heap.size w w' := by
  have b1 := (Below.refl w.heap.size w).alloc (Nat.le_refl _) (.cells (A.map (Value.int .u8)).toArray 25 (0, 0))
  have b2 := b1.alloc b1.size (.cells (byteCells 32 []) 25 (0, 0))
  have b3 := b2.alloc b2.size (.cells (byteCells 32 []) 25 (0, 0))
  have Ka := hid (((Blk.new (w := w) (n := w.heap.size) rfl (A.map (Value.int .u8)).toArray 25).old (.cells (byteCells 32 []) 25 (0, 0))).old (.cells (byteCells 32 []) 25 (0, 0)))
  have Kr1 := hid ((Blk.new (w := (w.alloc (.cells (A.map (Value.int .u8)).toArray 25 (0, 0)))) (n := w.heap.size + 1) (by simp only [World.size_alloc]) (byteCells 32 []) 25).old (.cells (byteCells 32 []) 25 (0, 0)))
  have Kr2 := hid (Blk.new (w := ((w.alloc (.cells (A.map (Value.int .u8)).toArray 25 (0, 0))).alloc (.cells (byteCells 32 []) 25 (0, 0)))) (n := w.heap.size + 1 + 1) (by simp only [World.size_alloc]) (byteCells 32 []) 25)
  have Hb := hid b3
  have hbz := b3.size
  have Hbs := hid (show w.heap.size + 1 + 1 + 1 = (((w.alloc (.cells (A.map (Value.int .u8)).toArray 25 (0, 0))).alloc (.cells (byteCells 32 []) 25 (0, 0))).alloc (.cells (byteCells 32 []) 25 (0, 0))).heap.size by simp only [World.size_alloc])
  clear b1 b2 b3 
  go_enter Tryz.func30, Tryz.ntmps30
  go_wp2_with fail
  refine FlowB.wp_region_butIn [w.heap.size + 1, w.heap.size + 1 + 1] (fun wz => Blk wz (w.heap.size + 1) (byteCells 32 []) 25 ∧ Blk wz (w.heap.size + 1 + 1) (byteCells 32 []) 25) 4 [0, 1] [] [(.c 2, [], []), (.c 3, [], [])] (by kernel_rfl) (by kernel_rfl) ⟨Kr1.out, Kr2.out⟩ (fun _ _ h hb => ⟨h.1.below hb, h.2.below hb⟩) ?_
  apply Exists.intro
  refine ⟨fun w0 hb0 hF0 => ?_, ?_⟩
  · skip
    have x0 : ∀ w', (∃ x : Ext w0, w' = x.at_) → ∃ T, Blk w' (w.heap.size) (A.map (Value.int .u8)).toArray T := fun w' ⟨x, hx⟩ => ⟨_, hx ▸ (hb0.blk Ka.out (by simp only [List.mem_cons, List.not_mem_nil, or_false]; omega)).below x.same⟩
    simp only [pick, List.getElem?_toArray, List.getElem?_cons_succ, List.getElem?_cons_zero, Option.toList_some, List.cons_append, List.nil_append]
    repeat (first | (go_big_quiet_want; refine quiet_load_blk 25 _ rfl (w.heap.size) rfl _ x0 _ Tryz.underlying25 rfl 32 size_digest hA.size ?_; go_big_quiet_on; simp only [Act.put, List.setIfInBounds_toArray, List.set_cons_zero, List.set_cons_succ]) | go_big_quiet_step (fail))
    exact wpQuiet_nil rfl
  refine FlowB.AlChk.nil ?_
  refine FlowB.Walk.skips rfl (fun wz => Blk wz (w.heap.size + 1) (A.map (Value.int .u8)).toArray 25 ∧ Blk wz (w.heap.size + 1 + 1) (byteCells 32 []) 25) (fun _ _ h hb => ⟨h.1.below hb, h.2.below hb⟩) rfl (fun w1 hb1 hF1 hG1 => ?_) ?_
  · exact FlowB.store_skips 25 _ _ rfl (w.heap.size + 1) (A.map (Value.int .u8)).toArray rfl rfl _ 25 hG1.1 32 size_digest zsize hA.size (ints_one _ _) (by simp) (fun w2 h2 h3 => ⟨h3, h2.blk hG1.2 (by omega)⟩)
  intro w1 hb1 hF1
  apply Exists.intro
  refine ⟨fun w2 hb2 hF2 => wpQuiet_nil rfl, ?_⟩
  refine FlowB.AlChk.nil ?_
  refine FlowB.Walk.skips rfl (fun wz => Blk wz (w.heap.size + 1) (A.map (Value.int .u8)).toArray 25 ∧ Blk wz (w.heap.size + 1 + 1) (A.map (Value.int .u8)).toArray 25) (fun _ _ h hb => ⟨h.1.below hb, h.2.below hb⟩) rfl (fun w1 hb1 hF1 hG1 => ?_) ?_
  · exact FlowB.store_skips 25 _ _ rfl (w.heap.size + 1 + 1) (A.map (Value.int .u8)).toArray rfl rfl _ 25 hG1.2 32 size_digest zsize hA.size (ints_one _ _) (by simp) (fun w2 h2 h3 => ⟨h2.blk hG1.1 (by omega), h3⟩)
  intro w1 hb1 hF1
  apply Exists.intro
  refine ⟨fun w2 hb2 hF2 => wpQuiet_nil rfl, ?_⟩
  refine FlowB.AlChk.nil ?_
  refine FlowB.Walk.fin fun w1 hw1 _ hGw1 => ?_
  simp only [List.drop_succ_cons, List.drop_zero]
  have HIw1 := hid hw1
  have HBw1 := hid (hw1.below Hb.out Hb.out.size (by simp only [List.mem_cons, List.not_mem_nil, or_false, forall_eq_or_imp, forall_eq]; omega))
  have HGw1 := hid hGw1
  clear hw1 hGw1
  go_wp2_with fail
  exact bodyPost_ret (v := .tuple #[.agg (A.map (Value.int .u8)).toArray, .agg (A.map (Value.int .u8)).toArray, .bool false]) (results_blk2_tmp Tryz.results30 _ (w.heap.size + 1) (w.heap.size + 1 + 1) rfl rfl _ rfl _ _ 25 HGw1.out.1 HGw1.out.2 _ Tryz.underlying25 rfl 32 size_digest hA.size hA.size) rfl ⟨rfl, HBw1.out⟩
set_option maxHeartbeats 4000000 in
theorem both_nil (A : List Int) (m n : Int) (cut : Bool) (ya : Option Addr) (yc : Nat) (w : World) (hA : Dg A) (hmn : ¬ m = n) :
    Calls Tryz.prog 30 #[.agg (A.map (Value.int .u8)).toArray, .int .i64 m, .int .i64 n, .bool cut, .slice ya 0 yc] w fun e w' => e = .returned (.tuple #[.agg (A.map (Value.int .u8)).toArray, .agg (A.map (Value.int .u8)).toArray, .bool false]) ∧ Below w.heap.size w w' := by
  have b1 := (Below.refl w.heap.size w).alloc (Nat.le_refl _) (.cells (A.map (Value.int .u8)).toArray 25 (0, 0))
  have b2 := b1.alloc b1.size (.cells (byteCells 32 []) 25 (0, 0))
  have b3 := b2.alloc b2.size (.cells (byteCells 32 []) 25 (0, 0))
  have Ka := hid (((Blk.new (w := w) (n := w.heap.size) rfl (A.map (Value.int .u8)).toArray 25).old (.cells (byteCells 32 []) 25 (0, 0))).old (.cells (byteCells 32 []) 25 (0, 0)))
  have Kr1 := hid ((Blk.new (w := (w.alloc (.cells (A.map (Value.int .u8)).toArray 25 (0, 0)))) (n := w.heap.size + 1) (by simp only [World.size_alloc]) (byteCells 32 []) 25).old (.cells (byteCells 32 []) 25 (0, 0)))
  have Kr2 := hid (Blk.new (w := ((w.alloc (.cells (A.map (Value.int .u8)).toArray 25 (0, 0))).alloc (.cells (byteCells 32 []) 25 (0, 0)))) (n := w.heap.size + 1 + 1) (by simp only [World.size_alloc]) (byteCells 32 []) 25)
  have Hb := hid b3
  have hbz := b3.size
  have Hbs := hid (show w.heap.size + 1 + 1 + 1 = (((w.alloc (.cells (A.map (Value.int .u8)).toArray 25 (0, 0))).alloc (.cells (byteCells 32 []) 25 (0, 0))).alloc (.cells (byteCells 32 []) 25 (0, 0))).heap.size by simp only [World.size_alloc])
  clear b1 b2 b3 
  go_enter Tryz.func30, Tryz.ntmps30
  go_wp2_with fail
  refine FlowB.wp_region_butIn [w.heap.size + 1, w.heap.size + 1 + 1] (fun wz => Blk wz (w.heap.size + 1) (byteCells 32 []) 25 ∧ Blk wz (w.heap.size + 1 + 1) (byteCells 32 []) 25) 4 [0, 1] [] [(.c 2, [], []), (.c 3, [], [])] (by kernel_rfl) (by kernel_rfl) ⟨Kr1.out, Kr2.out⟩ (fun _ _ h hb => ⟨h.1.below hb, h.2.below hb⟩) ?_
  apply Exists.intro
  refine ⟨fun w0 hb0 hF0 => ?_, ?_⟩
  · skip
    have x0 : ∀ w', (∃ x : Ext w0, w' = x.at_) → ∃ T, Blk w' (w.heap.size) (A.map (Value.int .u8)).toArray T := fun w' ⟨x, hx⟩ => ⟨_, hx ▸ (hb0.blk Ka.out (by simp only [List.mem_cons, List.not_mem_nil, or_false]; omega)).below x.same⟩
    simp only [pick, List.getElem?_toArray, List.getElem?_cons_succ, List.getElem?_cons_zero, Option.toList_some, List.cons_append, List.nil_append]
    repeat (first | (go_big_quiet_want; refine quiet_load_blk 25 _ rfl (w.heap.size) rfl _ x0 _ Tryz.underlying25 rfl 32 size_digest hA.size ?_; go_big_quiet_on; simp only [Act.put, List.setIfInBounds_toArray, List.set_cons_zero, List.set_cons_succ]) | go_big_quiet_step (fail))
    exact wpQuiet_nil rfl
  refine FlowB.AlChk.nil ?_
  refine FlowB.Walk.skips rfl (fun wz => Blk wz (w.heap.size + 1) (A.map (Value.int .u8)).toArray 25 ∧ Blk wz (w.heap.size + 1 + 1) (byteCells 32 []) 25) (fun _ _ h hb => ⟨h.1.below hb, h.2.below hb⟩) rfl (fun w1 hb1 hF1 hG1 => ?_) ?_
  · exact FlowB.store_skips 25 _ _ rfl (w.heap.size + 1) (A.map (Value.int .u8)).toArray rfl rfl _ 25 hG1.1 32 size_digest zsize hA.size (ints_one _ _) (by simp) (fun w2 h2 h3 => ⟨h3, h2.blk hG1.2 (by omega)⟩)
  intro w1 hb1 hF1
  apply Exists.intro
  refine ⟨fun w2 hb2 hF2 => wpQuiet_nil rfl, ?_⟩
  refine FlowB.AlChk.nil ?_
  refine FlowB.Walk.skips rfl (fun wz => Blk wz (w.heap.size + 1) (A.map (Value.int .u8)).toArray 25 ∧ Blk wz (w.heap.size + 1 + 1) (A.map (Value.int .u8)).toArray 25) (fun _ _ h hb => ⟨h.1.below hb, h.2.below hb⟩) rfl (fun w1 hb1 hF1 hG1 => ?_) ?_
  · exact FlowB.store_skips 25 _ _ rfl (w.heap.size + 1 + 1) (A.map (Value.int .u8)).toArray rfl rfl _ 25 hG1.2 32 size_digest zsize hA.size (ints_one _ _) (by simp) (fun w2 h2 h3 => ⟨h2.blk hG1.1 (by omega), h3⟩)
  intro w1 hb1 hF1
  apply Exists.intro
  refine ⟨fun w2 hb2 hF2 => wpQuiet_nil rfl, ?_⟩
  refine FlowB.AlChk.nil ?_
  refine FlowB.Walk.fin fun w1 hw1 _ hGw1 => ?_
  simp only [List.drop_succ_cons, List.drop_zero]
  have HIw1 := hid hw1
  have HBw1 := hid (hw1.below Hb.out Hb.out.size (by simp only [List.mem_cons, List.not_mem_nil, or_false, forall_eq_or_imp, forall_eq]; omega))
  have HGw1 := hid hGw1
  clear hw1 hGw1
  go_wp2_with fail
  exact bodyPost_ret (v := .tuple #[.agg (A.map (Value.int .u8)).toArray, .agg (A.map (Value.int .u8)).toArray, .bool false]) (results_blk2_tmp Tryz.results30 _ (w.heap.size + 1) (w.heap.size + 1 + 1) rfl rfl _ rfl _ _ 25 HGw1.out.1 HGw1.out.2 _ Tryz.underlying25 rfl 32 size_digest hA.size hA.size) rfl ⟨rfl, HBw1.out⟩
set_option maxHeartbeats 4000000 in
theorem both_one (A : List Int) (m : Int) (x o yc : Nat) (ds : List (List Int)) (w : World) (_hA : Dg A) (hD : DigsAt w (some ⟨x, o, none⟩) 1 yc ds) :
    Calls Tryz.prog 30 #[.agg (A.map (Value.int .u8)).toArray, .int .i64 m, .int .i64 m, .bool true, .slice (some ⟨x, o, none⟩) 1 yc] w fun e w' => e = .returned (.tuple #[.agg ((ds.getD 0 []).map (Value.int .u8)).toArray, .agg ((ds.getD 0 []).map (Value.int .u8)).toArray, .bool true]) ∧ Below w.heap.size w w' := by
  obtain ⟨x0, o0, hxa, hx, hc⟩ := hD.at_ (by omega)
  cases hxa
  have Hc := hid (hc 0 (by omega))
  have HY := hid (hD.get (j := 0) (by omega))
  generalize ds.getD 0 [] = Y at *
  clear hc hD
  have b1 := (Below.refl w.heap.size w).alloc (Nat.le_refl _) (.cells (A.map (Value.int .u8)).toArray 25 (0, 0))
  have b2 := b1.alloc b1.size (.cells (byteCells 32 []) 25 (0, 0))
  have b3 := b2.alloc b2.size (.cells (byteCells 32 []) 25 (0, 0))
  have Ka := hid (((Blk.new (w := w) (n := w.heap.size) rfl (A.map (Value.int .u8)).toArray 25).old (.cells (byteCells 32 []) 25 (0, 0))).old (.cells (byteCells 32 []) 25 (0, 0)))
  have Kr1 := hid ((Blk.new (w := (w.alloc (.cells (A.map (Value.int .u8)).toArray 25 (0, 0)))) (n := w.heap.size + 1) (by simp only [World.size_alloc]) (byteCells 32 []) 25).old (.cells (byteCells 32 []) 25 (0, 0)))
  have Kr2 := hid (Blk.new (w := ((w.alloc (.cells (A.map (Value.int .u8)).toArray 25 (0, 0))).alloc (.cells (byteCells 32 []) 25 (0, 0)))) (n := w.heap.size + 1 + 1) (by simp only [World.size_alloc]) (byteCells 32 []) 25)
  have Hb := hid b3
  have hbz := b3.size
  have Hbs := hid (show w.heap.size + 1 + 1 + 1 = (((w.alloc (.cells (A.map (Value.int .u8)).toArray 25 (0, 0))).alloc (.cells (byteCells 32 []) 25 (0, 0))).alloc (.cells (byteCells 32 []) 25 (0, 0))).heap.size by simp only [World.size_alloc])
  clear b1 b2 b3 
  go_enter Tryz.func30, Tryz.ntmps30
  go_wp2_with fail
  refine FlowB.wp_region_butIn [w.heap.size + 1, w.heap.size + 1 + 1] (fun wz => Blk wz (w.heap.size + 1) (byteCells 32 []) 25 ∧ Blk wz (w.heap.size + 1 + 1) (byteCells 32 []) 25) 8 [0, 1, 2, 3, 4, 5] [] [(.c 6, [], []), (.c 7, [], [])] (by kernel_rfl) (by kernel_rfl) ⟨Kr1.out, Kr2.out⟩ (fun _ _ h hb => ⟨h.1.below hb, h.2.below hb⟩) ?_
  apply Exists.intro
  refine ⟨fun w0 hb0 hF0 => ?_, ?_⟩
  · skip
    have zz : ∀ w', (∃ x : Ext w0, w' = x.at_) → w'.rangeAt x (o + 0 * 32) (Y.map (Value.int .u8)) := fun w' ⟨e, he⟩ j v hv => by
      have h1 := (Hb.out.cell (p := ⟨x, o + 0 * 32 + j, none⟩) hx).trans (Hc.out j v hv)
      have hs0 := hb0.size
      simp only [World.size_alloc] at hs0
      have h2 := hb0.cell (by simp only [World.size_alloc]; omega) (by simp only [List.mem_cons, List.not_mem_nil, or_false]; omega) h1
      rw [he]
      exact (e.same.cell (p := ⟨x, o + 0 * 32 + j, none⟩) (show x < _ by omega)).trans h2
    simp only [pick, List.getElem?_toArray, List.getElem?_cons_succ, List.getElem?_cons_zero, Option.toList_some, List.cons_append, List.nil_append]
    repeat (first | (go_big_quiet_want; refine quiet_index_digs 33 _ _ rfl Tryz.underlying33 size_digest x o 1 yc rfl _ _ rfl 0 rfl (by omega) ?_; go_big_quiet_on; simp only [Act.put, List.setIfInBounds_toArray, List.set_cons_zero, List.set_cons_succ]) | (go_big_quiet_want; refine quiet_load_mid 25 _ rfl x (o + 0 * 32) rfl _ zz _ Tryz.underlying25 rfl (by rw [List.length_map, HY.out.len]; exact size_digest) ?_; go_big_quiet_on; simp only [Act.put, List.setIfInBounds_toArray, List.set_cons_zero, List.set_cons_succ]) | go_big_quiet_step (fail))
    exact wpQuiet_nil rfl
  refine FlowB.AlChk.nil ?_
  refine FlowB.Walk.skips rfl (fun wz => Blk wz (w.heap.size + 1) (Y.map (Value.int .u8)).toArray 25 ∧ Blk wz (w.heap.size + 1 + 1) (byteCells 32 []) 25) (fun _ _ h hb => ⟨h.1.below hb, h.2.below hb⟩) rfl (fun w1 hb1 hF1 hG1 => ?_) ?_
  · exact FlowB.store_skips 25 _ _ rfl (w.heap.size + 1) (Y.map (Value.int .u8)).toArray rfl rfl _ 25 hG1.1 32 size_digest zsize HY.out.size (ints_one _ _) (by simp) (fun w2 h2 h3 => ⟨h3, h2.blk hG1.2 (by omega)⟩)
  intro w1 hb1 hF1
  apply Exists.intro
  refine ⟨fun w2 hb2 hF2 => wpQuiet_nil rfl, ?_⟩
  refine FlowB.AlChk.nil ?_
  refine FlowB.Walk.skips rfl (fun wz => Blk wz (w.heap.size + 1) (Y.map (Value.int .u8)).toArray 25 ∧ Blk wz (w.heap.size + 1 + 1) (Y.map (Value.int .u8)).toArray 25) (fun _ _ h hb => ⟨h.1.below hb, h.2.below hb⟩) rfl (fun w1 hb1 hF1 hG1 => ?_) ?_
  · exact FlowB.store_skips 25 _ _ rfl (w.heap.size + 1 + 1) (Y.map (Value.int .u8)).toArray rfl rfl _ 25 hG1.2 32 size_digest zsize HY.out.size (ints_one _ _) (by simp) (fun w2 h2 h3 => ⟨h2.blk hG1.1 (by omega), h3⟩)
  intro w1 hb1 hF1
  apply Exists.intro
  refine ⟨fun w2 hb2 hF2 => wpQuiet_nil rfl, ?_⟩
  refine FlowB.AlChk.nil ?_
  refine FlowB.Walk.fin fun w1 hw1 _ hGw1 => ?_
  simp only [List.drop_succ_cons, List.drop_zero]
  have HIw1 := hid hw1
  have HBw1 := hid (hw1.below Hb.out Hb.out.size (by simp only [List.mem_cons, List.not_mem_nil, or_false, forall_eq_or_imp, forall_eq]; omega))
  have HGw1 := hid hGw1
  clear hw1 hGw1
  go_wp2_with fail
  exact bodyPost_ret (v := .tuple #[.agg (Y.map (Value.int .u8)).toArray, .agg (Y.map (Value.int .u8)).toArray, .bool true]) (results_blk2_tmp Tryz.results30 _ (w.heap.size + 1) (w.heap.size + 1 + 1) rfl rfl _ rfl _ _ 25 HGw1.out.1 HGw1.out.2 _ Tryz.underlying25 rfl 32 size_digest HY.out.size HY.out.size) rfl ⟨rfl, HBw1.out⟩
set_option maxHeartbeats 4000000 in
theorem both_l (A : List Int) (m n k q len : Nat) (cut : Bool) (x o yc : Nat) (ds : List (List Int)) (w : World) (hA : Dg A) (hmn : m < n) (hn : 2 ≤ n) (hn2 : n ≤ 200) (hkk : halfN n = k) (hik : m ≤ k) (hq1 : q < len) (hq2 : len ≤ q + 1) (hlen : len ≤ 1000000) (hD : DigsAt w (some ⟨x, o, none⟩) len yc ds)
    (R1 R2 : List Int) (ok : Bool) (hR1 : Dg R1) (hR2 : Dg R2) (cu : ∀ W : World, DigsAt W (some ⟨x, o, none⟩) q yc (ds.take q) → Calls Tryz.prog 30 #[.agg (A.map (Value.int .u8)).toArray, .int .i64 (m : Int), .int .i64 (k : Int), .bool cut, .slice (some ⟨x, o, none⟩) q yc] W fun e w' => e = .returned (.tuple #[.agg (R1.map (Value.int .u8)).toArray, .agg (R2.map (Value.int .u8)).toArray, .bool ok]) ∧ Below W.heap.size W w') :
    Calls Tryz.prog 30 #[.agg (A.map (Value.int .u8)).toArray, .int .i64 m, .int .i64 n, .bool cut, .slice (some ⟨x, o, none⟩) len yc] w fun e w' => e = .returned (.tuple #[.agg (R1.map (Value.int .u8)).toArray, .agg ((nodeL R2 (ds.getD q [])).map (Value.int .u8)).toArray, .bool ok]) ∧ Below w.heap.size w w' := by
  obtain ⟨hk1, hk2⟩ := halfN_lt hn
  rw [hkk] at hk1 hk2
  have hmI : ¬ ((m : Int) = (n : Int)) := by omega
  have hl0 : ¬ ((len : Int) = 0) := by omega
  have hw0 : wrap64 ((len : Int) - 1) = (len : Int) - 1 := by unfold wrap64; omega
  have hqc := hD.le
  obtain ⟨x0, o0, hxa, hx, hc⟩ := hD.at_ (by omega)
  cases hxa
  have Hc := hid (hc q (by omega))
  have DQ := hid (hD.head q (by omega))
  have CH := hid (fun W : World => (refhalf_any n n W (Nat.le_refl _) hn (by omega)).mono (fun e w' (h : e = .returned (.int .i64 (halfN n : Int)) ∧ w' = W) => show e = .returned (.int .i64 (halfN n : Int)) ∧ Below W.heap.size W w' from ⟨h.1, by rw [h.2]; exact Below.refl _ _⟩))
  rw [hkk] at CH
  have CU := hid cu
  have HY := hid (hD.get (j := q) (by omega))
  generalize ds.getD q [] = Y at *
  have HR1 := hid hR1
  have HR2 := hid hR2
  have CN := hid (fun (W : World) => refnode_any R2 Y W HR2.out HY.out)
  have HX9 := hid (Dg.nodeL R2 Y)
  generalize nodeL R2 Y = X9 at *
  have hikI : (m : Int) ≤ k := by omega
  clear cu hR1 hR2 hkk hc hD
  have b1 := (Below.refl w.heap.size w).alloc (Nat.le_refl _) (.cells (A.map (Value.int .u8)).toArray 25 (0, 0))
  have b2 := b1.alloc b1.size (.cells (byteCells 32 []) 25 (0, 0))
  have b3 := b2.alloc b2.size (.cells (byteCells 32 []) 25 (0, 0))
  have Ka := hid (((Blk.new (w := w) (n := w.heap.size) rfl (A.map (Value.int .u8)).toArray 25).old (.cells (byteCells 32 []) 25 (0, 0))).old (.cells (byteCells 32 []) 25 (0, 0)))
  have Kr1 := hid ((Blk.new (w := (w.alloc (.cells (A.map (Value.int .u8)).toArray 25 (0, 0)))) (n := w.heap.size + 1) (by simp only [World.size_alloc]) (byteCells 32 []) 25).old (.cells (byteCells 32 []) 25 (0, 0)))
  have Kr2 := hid (Blk.new (w := ((w.alloc (.cells (A.map (Value.int .u8)).toArray 25 (0, 0))).alloc (.cells (byteCells 32 []) 25 (0, 0)))) (n := w.heap.size + 1 + 1) (by simp only [World.size_alloc]) (byteCells 32 []) 25)
  have Hb := hid b3
  have hbz := b3.size
  have Hbs := hid (show w.heap.size + 1 + 1 + 1 = (((w.alloc (.cells (A.map (Value.int .u8)).toArray 25 (0, 0))).alloc (.cells (byteCells 32 []) 25 (0, 0))).alloc (.cells (byteCells 32 []) 25 (0, 0))).heap.size by simp only [World.size_alloc])
  clear b1 b2 b3 
  go_enter Tryz.func30, Tryz.ntmps30
  go_wp2_with fail
  refine (CH.out _).mono ?_
  rintro e w1 ⟨rfl, bw1⟩
  have HBw1 := hid (Below.on Hb.out bw1)
  have hsw1 := HBw1.out.size
  have Kaw1 := hid (Ka.out.below bw1)
  have Kr1w1 := hid (Kr1.out.below bw1)
  have Kr2w1 := hid (Kr2.out.below bw1)
  clear bw1
  have Hcx : Hid (w1.rangeAt x (o + q * 32) (Y.map (Value.int .u8))) := hid (fun j v hv => (HBw1.out.cell (p := ⟨x, o + q * 32 + j, none⟩) hx).trans (Hc.out j v hv))
  go_wp2_with (first
     | (refine wpList_index_digs rfl 33 _ _ rfl Tryz.underlying33 size_digest x o len yc rfl _ _ rfl q (by omega) (by omega) ?_)
     | (refine wpList_load_mid rfl 25 _ rfl x (o + q * 32) rfl _ _ Hcx.out Tryz.underlying25 rfl (by rw [List.length_map, HY.out.len]; exact size_digest) ?_)
     | (
        refine wpList_store_blk rfl 25 _ _ rfl (w1.heap.size) (Y.map (Value.int .u8)).toArray rfl rfl _ 25 (Blk.new rfl (byteCells 32 []) _) 32 size_digest zsize HY.out.size (ints_one _ _) ?_
        intro w2 hbw2 hkw2
        have hw2 := hbw2.below ((Below.refl w1.heap.size w1).alloc (Nat.le_refl _) _) (by simp only [World.size_alloc]; omega) (Nat.le_refl _)
        have HBw2 := hid (Below.on HBw1.out hw2)
        have hsw2 := HBw2.out.size
        have Kaw2 := hid (Kaw1.out.below hw2)
        have hlaw2 := Kaw1.out.lt
        have Kr1w2 := hid (Kr1w1.out.below hw2)
        have hlr1w2 := Kr1w1.out.lt
        have Kr2w2 := hid (Kr2w1.out.below hw2)
        have hlr2w2 := Kr2w1.out.lt
        have Kow2 := hid hkw2
        have hfw2 : w.heap.size ≤ w1.heap.size := HBw1.out.size
        clear hbw2 hkw2 hw2))
  refine wp_region_late2d 16 12 16 13 16 [0, 1, 2, 3, 4, 5, 6, 7, 8, 9, 10, 11, 12, 13] [14, 15] [(.b 14, [], []), (.b 15, [], [])] (by kernel_rfl) (by kernel_rfl) (by kernel_rfl) rfl (by kernel_rfl) (fun _ _ d _ _ h => by cases d <;> exact h) ?_
  simp only [late]
  apply Exists.intro
  refine ⟨fun w0 hb0 hF0 => ?_, ?_⟩
  · skip
    have x0 : ∀ w', (∃ x : Ext w0, w' = x.at_) → ∃ T, Blk w' (w.heap.size) (A.map (Value.int .u8)).toArray T := fun w' ⟨x, hx⟩ => ⟨_, hx ▸ (Kaw2.out.below hb0).below x.same⟩
    have c0 := fun e : Ext w0 => CU.out e.at_ (DQ.out.below (Below.on (Below.on HBw2.out hb0) e.same))
    simp only [pick, List.getElem?_toArray, List.getElem?_cons_succ, List.getElem?_cons_zero, Option.toList_some, List.cons_append, List.nil_append]
    repeat (first | (go_big_quiet_want; refine quiet_load_blk 25 _ rfl (w.heap.size) rfl _ x0 _ Tryz.underlying25 rfl 32 size_digest hA.size ?_; go_big_quiet_on; simp only [Act.put, List.setIfInBounds_toArray, List.set_cons_zero, List.set_cons_succ]) | (go_big_quiet_want; refine quiet_cut_hh _ _ rfl (some ⟨x, o, none⟩) len yc q _ rfl rfl (by omega) (by omega) ?_; go_big_quiet_on; simp only [Act.put, List.setIfInBounds_toArray, List.set_cons_zero, List.set_cons_succ]) | go_big_quiet_step (first | (go_at_call 30; with_reducible exact Calls.ext (c0 _))))
    exact wpQuiet_nil rfl
  refine AlChk.one rfl (fun b => .pointer (some ⟨b, 0, none⟩)) (.cells (byteCells 32 []) 25 (0, 0)) rfl (fun w3 hb3 hF3 => by go_simp; rfl) ?_
  refine AlChk.one rfl (fun b => .pointer (some ⟨b, 0, none⟩)) (.cells (byteCells 32 []) 25 (0, 0)) rfl (fun w3 hb3 hF3 => by go_simp; rfl) ?_
  refine AlChk.nil ?_
  refine WalkD.blk rfl (fun b => .pointer (some ⟨b, 0, none⟩)) (.cells (byteCells 32 []) 25 (0, 0)) (by simp) ?_
  intro bw3 wz hbz_ hFz hgew3 _ _
  apply Exists.intro
  refine ⟨fun w4 hb4 hF4 => wpQuiet_nil rfl, ?_⟩
  refine AlChk.nil ?_
  refine WalkD.blk rfl (fun b => .pointer (some ⟨b, 0, none⟩)) (.cells (byteCells 32 []) 25 (0, 0)) (by simp) ?_
  intro cw3 wy hby_ hFy hgfw3 hnew3 _
  apply Exists.intro
  refine ⟨fun w4 hb4 hF4 => wpQuiet_nil rfl, ?_⟩
  refine AlChk.nil ?_
  refine WalkD.fin fun w3 hw3 hFw3 _ => ?_
  simp only [List.drop_succ_cons, List.drop_zero]
  have Kuw3 := hid (show Blk w3 bw3 (byteCells 32 []) 25 from hFw3.1.2)
  have Kvw3 := hid (show Blk w3 cw3 (byteCells 32 []) 25 from hFw3.2)
  have hbcw3 : cw3 ≠ bw3 := by simpa using hnew3
  have hgbw3 : w.heap.size ≤ bw3 := Nat.le_trans HBw2.out.size hgew3
  have hgcw3 : w.heap.size ≤ cw3 := Nat.le_trans HBw2.out.size hgfw3
  clear hbz_ hFz hby_ hFy hFw3 hnew3
  have hnaw3 : w.heap.size ≠ bw3 := by have := Kaw2.out.lt; omega
  have hmaw3 : w.heap.size ≠ cw3 := by have := Kaw2.out.lt; omega
  have hnr1w3 : w.heap.size + 1 ≠ bw3 := by have := Kr1w2.out.lt; omega
  have hmr1w3 : w.heap.size + 1 ≠ cw3 := by have := Kr1w2.out.lt; omega
  have hnr2w3 : w.heap.size + 1 + 1 ≠ bw3 := by have := Kr2w2.out.lt; omega
  have hmr2w3 : w.heap.size + 1 + 1 ≠ cw3 := by have := Kr2w2.out.lt; omega
  have hnow3 : w1.heap.size ≠ bw3 := by have := Kow2.out.lt; omega
  have hmow3 : w1.heap.size ≠ cw3 := by have := Kow2.out.lt; omega
  have HBw3 := hid (Below.on HBw2.out hw3)
  have hsw3 := HBw3.out.size
  have Kaw3 := hid (Kaw2.out.below hw3)
  have Kr1w3 := hid (Kr1w2.out.below hw3)
  have Kr2w3 := hid (Kr2w2.out.below hw3)
  have Kow3 := hid (Kow2.out.below hw3)
  clear hw3
  go_wp2_with (first
     | (
        refine wpList_store_blk rfl 25 _ _ rfl (bw3) (R1.map (Value.int .u8)).toArray rfl rfl _ 25 Kuw3.out 32 size_digest zsize HR1.out.size (ints_one _ _) ?_
        intro w4 hbw4 hkw4
        have HBw4 := hid (hbw4.below HBw3.out HBw3.out.size (by omega))
        have hsw4 := HBw4.out.size
        have Kaw4 := hid (hbw4.blk Kaw3.out (by have := Kaw3.out.lt; omega))
        have Kr1w4 := hid (hbw4.blk Kr1w3.out (by have := Kr1w3.out.lt; omega))
        have Kr2w4 := hid (hbw4.blk Kr2w3.out (by have := Kr2w3.out.lt; omega))
        have Kow4 := hid (hbw4.blk Kow3.out (by have := Kow3.out.lt; omega))
        have Kvw4 := hid (hbw4.blk Kvw3.out (by have := Kvw3.out.lt; omega))
        have Kuw4 := hid hkw4
        clear hbw4 hkw4)
     | (
        refine wpList_store_blk rfl 25 _ _ rfl (cw3) (R2.map (Value.int .u8)).toArray rfl rfl _ 25 Kvw4.out 32 size_digest zsize HR2.out.size (ints_one _ _) ?_
        intro w5 hbw5 hkw5
        have HBw5 := hid (hbw5.below HBw4.out HBw4.out.size (by omega))
        have hsw5 := HBw5.out.size
        have Kaw5 := hid (hbw5.blk Kaw4.out (by have := Kaw4.out.lt; omega))
        have Kr1w5 := hid (hbw5.blk Kr1w4.out (by have := Kr1w4.out.lt; omega))
        have Kr2w5 := hid (hbw5.blk Kr2w4.out (by have := Kr2w4.out.lt; omega))
        have Kow5 := hid (hbw5.blk Kow4.out (by have := Kow4.out.lt; omega))
        have Kuw5 := hid (hbw5.blk Kuw4.out (by have := Kuw4.out.lt; omega))
        have Kvw5 := hid hkw5
        clear hbw5 hkw5))
  refine FlowB.wp_region_butIn [w.heap.size + 1, w.heap.size + 1 + 1] (fun wz => Blk wz (w.heap.size + 1) (byteCells 32 []) 25 ∧ Blk wz (w.heap.size + 1 + 1) (byteCells 32 []) 25) 7 [0, 1, 2, 3, 4] [] [(.c 5, [], []), (.c 6, [], [])] (by kernel_rfl) (by kernel_rfl) ⟨Kr1w5.out, Kr2w5.out⟩ (fun _ _ h hb => ⟨h.1.below hb, h.2.below hb⟩) ?_
  apply Exists.intro
  refine ⟨fun w0 hb0 hF0 => ?_, ?_⟩
  · skip
    have x0 : ∀ w', (∃ x : Ext w0, w' = x.at_) → ∃ T, Blk w' (bw3) (R1.map (Value.int .u8)).toArray T := fun w' ⟨x, hx⟩ => ⟨_, hx ▸ (hb0.blk Kuw5.out (by simp only [List.mem_cons, List.not_mem_nil, or_false]; omega)).below x.same⟩
    have x1 : ∀ w', (∃ x : Ext w0, w' = x.at_) → ∃ T, Blk w' (cw3) (R2.map (Value.int .u8)).toArray T := fun w' ⟨x, hx⟩ => ⟨_, hx ▸ (hb0.blk Kvw5.out (by simp only [List.mem_cons, List.not_mem_nil, or_false]; omega)).below x.same⟩
    have x2 : ∀ w', (∃ x : Ext w0, w' = x.at_) → ∃ T, Blk w' (w1.heap.size) (Y.map (Value.int .u8)).toArray T := fun w' ⟨x, hx⟩ => ⟨_, hx ▸ (hb0.blk Kow5.out (by simp only [List.mem_cons, List.not_mem_nil, or_false]; omega)).below x.same⟩
    have c0 := fun e : Ext w0 => CN.out e.at_
    simp only [pick, List.getElem?_toArray, List.getElem?_cons_succ, List.getElem?_cons_zero, Option.toList_some, List.cons_append, List.nil_append]
    repeat (first | (go_big_quiet_want; refine quiet_load_blk 25 _ rfl (bw3) rfl _ x0 _ Tryz.underlying25 rfl 32 size_digest HR1.out.size ?_; go_big_quiet_on; simp only [Act.put, List.setIfInBounds_toArray, List.set_cons_zero, List.set_cons_succ]) | (go_big_quiet_want; refine quiet_load_blk 25 _ rfl (cw3) rfl _ x1 _ Tryz.underlying25 rfl 32 size_digest HR2.out.size ?_; go_big_quiet_on; simp only [Act.put, List.setIfInBounds_toArray, List.set_cons_zero, List.set_cons_succ]) | (go_big_quiet_want; refine quiet_load_blk 25 _ rfl (w1.heap.size) rfl _ x2 _ Tryz.underlying25 rfl 32 size_digest HY.out.size ?_; go_big_quiet_on; simp only [Act.put, List.setIfInBounds_toArray, List.set_cons_zero, List.set_cons_succ]) | go_big_quiet_step (first | (go_at_call 68; with_reducible exact Calls.ext (c0 _))))
    exact wpQuiet_nil rfl
  refine FlowB.AlChk.nil ?_
  refine FlowB.Walk.skips rfl (fun wz => Blk wz (w.heap.size + 1) (R1.map (Value.int .u8)).toArray 25 ∧ Blk wz (w.heap.size + 1 + 1) (byteCells 32 []) 25) (fun _ _ h hb => ⟨h.1.below hb, h.2.below hb⟩) rfl (fun w1 hb1 hF1 hG1 => ?_) ?_
  · exact FlowB.store_skips 25 _ _ rfl (w.heap.size + 1) (R1.map (Value.int .u8)).toArray rfl rfl _ 25 hG1.1 32 size_digest zsize HR1.out.size (ints_one _ _) (by simp) (fun w2 h2 h3 => ⟨h3, h2.blk hG1.2 (by omega)⟩)
  intro w1 hb1 hF1
  apply Exists.intro
  refine ⟨fun w2 hb2 hF2 => wpQuiet_nil rfl, ?_⟩
  refine FlowB.AlChk.nil ?_
  refine FlowB.Walk.skips rfl (fun wz => Blk wz (w.heap.size + 1) (R1.map (Value.int .u8)).toArray 25 ∧ Blk wz (w.heap.size + 1 + 1) (X9.map (Value.int .u8)).toArray 25) (fun _ _ h hb => ⟨h.1.below hb, h.2.below hb⟩) rfl (fun w1 hb1 hF1 hG1 => ?_) ?_
  · exact FlowB.store_skips 25 _ _ rfl (w.heap.size + 1 + 1) (X9.map (Value.int .u8)).toArray rfl rfl _ 25 hG1.2 32 size_digest zsize HX9.out.size (ints_one _ _) (by simp) (fun w2 h2 h3 => ⟨h2.blk hG1.1 (by omega), h3⟩)
  intro w1 hb1 hF1
  apply Exists.intro
  refine ⟨fun w2 hb2 hF2 => wpQuiet_nil rfl, ?_⟩
  refine FlowB.AlChk.nil ?_
  refine FlowB.Walk.fin fun w6 hw6 _ hGw6 => ?_
  simp only [List.drop_succ_cons, List.drop_zero]
  have HIw6 := hid hw6
  have HBw6 := hid (hw6.below HBw5.out HBw5.out.size (by simp only [List.mem_cons, List.not_mem_nil, or_false, forall_eq_or_imp, forall_eq]; omega))
  have HGw6 := hid hGw6
  clear hw6 hGw6
  go_wp2_with fail
  exact bodyPost_ret (v := .tuple #[.agg (R1.map (Value.int .u8)).toArray, .agg (X9.map (Value.int .u8)).toArray, .bool ok]) (results_blk2_tmp Tryz.results30 _ (w.heap.size + 1) (w.heap.size + 1 + 1) rfl rfl _ rfl _ _ 25 HGw6.out.1 HGw6.out.2 _ Tryz.underlying25 rfl 32 size_digest HR1.out.size HX9.out.size) rfl ⟨rfl, HBw6.out⟩
set_option maxHeartbeats 4000000 in
theorem both_r (A : List Int) (m n k q len : Nat) (cut : Bool) (x o yc : Nat) (ds : List (List Int)) (w : World) (hA : Dg A) (hmn : m < n) (hn : 2 ≤ n) (hn2 : n ≤ 200) (hkk : halfN n = k) (hik : ¬ m ≤ k) (hq1 : q < len) (hq2 : len ≤ q + 1) (hlen : len ≤ 1000000) (hD : DigsAt w (some ⟨x, o, none⟩) len yc ds)
    (R1 R2 : List Int) (ok : Bool) (hR1 : Dg R1) (hR2 : Dg R2) (cu : ∀ W : World, DigsAt W (some ⟨x, o, none⟩) q yc (ds.take q) → Calls Tryz.prog 30 #[.agg (A.map (Value.int .u8)).toArray, .int .i64 ((m : Int) - (k : Int)), .int .i64 ((n : Int) - (k : Int)), .bool true, .slice (some ⟨x, o, none⟩) q yc] W fun e w' => e = .returned (.tuple #[.agg (R1.map (Value.int .u8)).toArray, .agg (R2.map (Value.int .u8)).toArray, .bool ok]) ∧ Below W.heap.size W w') :
    Calls Tryz.prog 30 #[.agg (A.map (Value.int .u8)).toArray, .int .i64 m, .int .i64 n, .bool cut, .slice (some ⟨x, o, none⟩) len yc] w fun e w' => e = .returned (.tuple #[.agg ((nodeL (ds.getD q []) R1).map (Value.int .u8)).toArray, .agg ((nodeL (ds.getD q []) R2).map (Value.int .u8)).toArray, .bool ok]) ∧ Below w.heap.size w w' := by
  obtain ⟨hk1, hk2⟩ := halfN_lt hn
  rw [hkk] at hk1 hk2
  have hmI : ¬ ((m : Int) = (n : Int)) := by omega
  have hl0 : ¬ ((len : Int) = 0) := by omega
  have hw0 : wrap64 ((len : Int) - 1) = (len : Int) - 1 := by unfold wrap64; omega
  have hqc := hD.le
  obtain ⟨x0, o0, hxa, hx, hc⟩ := hD.at_ (by omega)
  cases hxa
  have Hc := hid (hc q (by omega))
  have DQ := hid (hD.head q (by omega))
  have CH := hid (fun W : World => (refhalf_any n n W (Nat.le_refl _) hn (by omega)).mono (fun e w' (h : e = .returned (.int .i64 (halfN n : Int)) ∧ w' = W) => show e = .returned (.int .i64 (halfN n : Int)) ∧ Below W.heap.size W w' from ⟨h.1, by rw [h.2]; exact Below.refl _ _⟩))
  rw [hkk] at CH
  have CU := hid cu
  have HY := hid (hD.get (j := q) (by omega))
  generalize ds.getD q [] = Y at *
  have HR1 := hid hR1
  have HR2 := hid hR2
  have CN := hid (fun (W : World) => refnode_any Y R1 W HY.out HR1.out)
  have CM := hid (fun (W : World) => refnode_any Y R2 W HY.out HR2.out)
  have HX8 := hid (Dg.nodeL Y R1)
  have HX9 := hid (Dg.nodeL Y R2)
  generalize nodeL Y R1 = X8 at *
  generalize nodeL Y R2 = X9 at *
  have hikI : ¬ ((m : Int) ≤ k) := by omega
  have hw1 : wrap64 ((n : Int) - (k : Int)) = (n : Int) - (k : Int) := by unfold wrap64; omega
  have hw2 : wrap64 ((m : Int) - (k : Int)) = (m : Int) - (k : Int) := by unfold wrap64; omega
  clear cu hR1 hR2 hkk hc hD
  have b1 := (Below.refl w.heap.size w).alloc (Nat.le_refl _) (.cells (A.map (Value.int .u8)).toArray 25 (0, 0))
  have b2 := b1.alloc b1.size (.cells (byteCells 32 []) 25 (0, 0))
  have b3 := b2.alloc b2.size (.cells (byteCells 32 []) 25 (0, 0))
  have Ka := hid (((Blk.new (w := w) (n := w.heap.size) rfl (A.map (Value.int .u8)).toArray 25).old (.cells (byteCells 32 []) 25 (0, 0))).old (.cells (byteCells 32 []) 25 (0, 0)))
  have Kr1 := hid ((Blk.new (w := (w.alloc (.cells (A.map (Value.int .u8)).toArray 25 (0, 0)))) (n := w.heap.size + 1) (by simp only [World.size_alloc]) (byteCells 32 []) 25).old (.cells (byteCells 32 []) 25 (0, 0)))
  have Kr2 := hid (Blk.new (w := ((w.alloc (.cells (A.map (Value.int .u8)).toArray 25 (0, 0))).alloc (.cells (byteCells 32 []) 25 (0, 0)))) (n := w.heap.size + 1 + 1) (by simp only [World.size_alloc]) (byteCells 32 []) 25)
  have Hb := hid b3
  have hbz := b3.size
  have Hbs := hid (show w.heap.size + 1 + 1 + 1 = (((w.alloc (.cells (A.map (Value.int .u8)).toArray 25 (0, 0))).alloc (.cells (byteCells 32 []) 25 (0, 0))).alloc (.cells (byteCells 32 []) 25 (0, 0))).heap.size by simp only [World.size_alloc])
  clear b1 b2 b3 
  go_enter Tryz.func30, Tryz.ntmps30
  go_wp2_with fail
  refine (CH.out _).mono ?_
  rintro e w1 ⟨rfl, bw1⟩
  have HBw1 := hid (Below.on Hb.out bw1)
  have hsw1 := HBw1.out.size
  have Kaw1 := hid (Ka.out.below bw1)
  have Kr1w1 := hid (Kr1.out.below bw1)
  have Kr2w1 := hid (Kr2.out.below bw1)
  clear bw1
  have Hcx : Hid (w1.rangeAt x (o + q * 32) (Y.map (Value.int .u8))) := hid (fun j v hv => (HBw1.out.cell (p := ⟨x, o + q * 32 + j, none⟩) hx).trans (Hc.out j v hv))
  go_wp2_with (first
     | (refine wpList_index_digs rfl 33 _ _ rfl Tryz.underlying33 size_digest x o len yc rfl _ _ rfl q (by omega) (by omega) ?_)
     | (refine wpList_load_mid rfl 25 _ rfl x (o + q * 32) rfl _ _ Hcx.out Tryz.underlying25 rfl (by rw [List.length_map, HY.out.len]; exact size_digest) ?_)
     | (
        refine wpList_store_blk rfl 25 _ _ rfl (w1.heap.size) (Y.map (Value.int .u8)).toArray rfl rfl _ 25 (Blk.new rfl (byteCells 32 []) _) 32 size_digest zsize HY.out.size (ints_one _ _) ?_
        intro w2 hbw2 hkw2
        have hw2 := hbw2.below ((Below.refl w1.heap.size w1).alloc (Nat.le_refl _) _) (by simp only [World.size_alloc]; omega) (Nat.le_refl _)
        have HBw2 := hid (Below.on HBw1.out hw2)
        have hsw2 := HBw2.out.size
        have Kaw2 := hid (Kaw1.out.below hw2)
        have hlaw2 := Kaw1.out.lt
        have Kr1w2 := hid (Kr1w1.out.below hw2)
        have hlr1w2 := Kr1w1.out.lt
        have Kr2w2 := hid (Kr2w1.out.below hw2)
        have hlr2w2 := Kr2w1.out.lt
        have Kow2 := hid hkw2
        have hfw2 : w.heap.size ≤ w1.heap.size := HBw1.out.size
        clear hbw2 hkw2 hw2))
  refine wp_region_late2d 19 15 19 16 19 [0, 1, 2, 3, 4, 5, 6, 7, 8, 9, 10, 11, 12, 13, 14, 15, 16] [17, 18] [(.b 17, [], []), (.b 18, [], [])] (by kernel_rfl) (by kernel_rfl) (by kernel_rfl) rfl (by kernel_rfl) (fun _ _ d _ _ h => by cases d <;> exact h) ?_
  simp only [late]
  apply Exists.intro
  refine ⟨fun w0 hb0 hF0 => ?_, ?_⟩
  · skip
    have x0 : ∀ w', (∃ x : Ext w0, w' = x.at_) → ∃ T, Blk w' (w.heap.size) (A.map (Value.int .u8)).toArray T := fun w' ⟨x, hx⟩ => ⟨_, hx ▸ (Kaw2.out.below hb0).below x.same⟩
    have c0 := fun e : Ext w0 => CU.out e.at_ (DQ.out.below (Below.on (Below.on HBw2.out hb0) e.same))
    simp only [pick, List.getElem?_toArray, List.getElem?_cons_succ, List.getElem?_cons_zero, Option.toList_some, List.cons_append, List.nil_append]
    repeat (first | (go_big_quiet_want; refine quiet_load_blk 25 _ rfl (w.heap.size) rfl _ x0 _ Tryz.underlying25 rfl 32 size_digest hA.size ?_; go_big_quiet_on; simp only [Act.put, List.setIfInBounds_toArray, List.set_cons_zero, List.set_cons_succ]) | (go_big_quiet_want; refine quiet_cut_hh _ _ rfl (some ⟨x, o, none⟩) len yc q _ rfl rfl (by omega) (by omega) ?_; go_big_quiet_on; simp only [Act.put, List.setIfInBounds_toArray, List.set_cons_zero, List.set_cons_succ]) | go_big_quiet_step (first | (go_at_call 30; with_reducible exact Calls.ext (c0 _))))
    exact wpQuiet_nil rfl
  refine AlChk.one rfl (fun b => .pointer (some ⟨b, 0, none⟩)) (.cells (byteCells 32 []) 25 (0, 0)) rfl (fun w3 hb3 hF3 => by go_simp; rfl) ?_
  refine AlChk.one rfl (fun b => .pointer (some ⟨b, 0, none⟩)) (.cells (byteCells 32 []) 25 (0, 0)) rfl (fun w3 hb3 hF3 => by go_simp; rfl) ?_
  refine AlChk.nil ?_
  refine WalkD.blk rfl (fun b => .pointer (some ⟨b, 0, none⟩)) (.cells (byteCells 32 []) 25 (0, 0)) (by simp) ?_
  intro bw3 wz hbz_ hFz hgew3 _ _
  apply Exists.intro
  refine ⟨fun w4 hb4 hF4 => wpQuiet_nil rfl, ?_⟩
  refine AlChk.nil ?_
  refine WalkD.blk rfl (fun b => .pointer (some ⟨b, 0, none⟩)) (.cells (byteCells 32 []) 25 (0, 0)) (by simp) ?_
  intro cw3 wy hby_ hFy hgfw3 hnew3 _
  apply Exists.intro
  refine ⟨fun w4 hb4 hF4 => wpQuiet_nil rfl, ?_⟩
  refine AlChk.nil ?_
  refine WalkD.fin fun w3 hw3 hFw3 _ => ?_
  simp only [List.drop_succ_cons, List.drop_zero]
  have Kuw3 := hid (show Blk w3 bw3 (byteCells 32 []) 25 from hFw3.1.2)
  have Kvw3 := hid (show Blk w3 cw3 (byteCells 32 []) 25 from hFw3.2)
  have hbcw3 : cw3 ≠ bw3 := by simpa using hnew3
  have hgbw3 : w.heap.size ≤ bw3 := Nat.le_trans HBw2.out.size hgew3
  have hgcw3 : w.heap.size ≤ cw3 := Nat.le_trans HBw2.out.size hgfw3
  clear hbz_ hFz hby_ hFy hFw3 hnew3
  have hnaw3 : w.heap.size ≠ bw3 := by have := Kaw2.out.lt; omega
  have hmaw3 : w.heap.size ≠ cw3 := by have := Kaw2.out.lt; omega
  have hnr1w3 : w.heap.size + 1 ≠ bw3 := by have := Kr1w2.out.lt; omega
  have hmr1w3 : w.heap.size + 1 ≠ cw3 := by have := Kr1w2.out.lt; omega
  have hnr2w3 : w.heap.size + 1 + 1 ≠ bw3 := by have := Kr2w2.out.lt; omega
  have hmr2w3 : w.heap.size + 1 + 1 ≠ cw3 := by have := Kr2w2.out.lt; omega
  have hnow3 : w1.heap.size ≠ bw3 := by have := Kow2.out.lt; omega
  have hmow3 : w1.heap.size ≠ cw3 := by have := Kow2.out.lt; omega
  have HBw3 := hid (Below.on HBw2.out hw3)
  have hsw3 := HBw3.out.size
  have Kaw3 := hid (Kaw2.out.below hw3)
  have Kr1w3 := hid (Kr1w2.out.below hw3)
  have Kr2w3 := hid (Kr2w2.out.below hw3)
  have Kow3 := hid (Kow2.out.below hw3)
  clear hw3
  go_wp2_with (first
     | (
        refine wpList_store_blk rfl 25 _ _ rfl (bw3) (R1.map (Value.int .u8)).toArray rfl rfl _ 25 Kuw3.out 32 size_digest zsize HR1.out.size (ints_one _ _) ?_
        intro w4 hbw4 hkw4
        have HBw4 := hid (hbw4.below HBw3.out HBw3.out.size (by omega))
        have hsw4 := HBw4.out.size
        have Kaw4 := hid (hbw4.blk Kaw3.out (by have := Kaw3.out.lt; omega))
        have Kr1w4 := hid (hbw4.blk Kr1w3.out (by have := Kr1w3.out.lt; omega))
        have Kr2w4 := hid (hbw4.blk Kr2w3.out (by have := Kr2w3.out.lt; omega))
        have Kow4 := hid (hbw4.blk Kow3.out (by have := Kow3.out.lt; omega))
        have Kvw4 := hid (hbw4.blk Kvw3.out (by have := Kvw3.out.lt; omega))
        have Kuw4 := hid hkw4
        clear hbw4 hkw4)
     | (
        refine wpList_store_blk rfl 25 _ _ rfl (cw3) (R2.map (Value.int .u8)).toArray rfl rfl _ 25 Kvw4.out 32 size_digest zsize HR2.out.size (ints_one _ _) ?_
        intro w5 hbw5 hkw5
        have HBw5 := hid (hbw5.below HBw4.out HBw4.out.size (by omega))
        have hsw5 := HBw5.out.size
        have Kaw5 := hid (hbw5.blk Kaw4.out (by have := Kaw4.out.lt; omega))
        have Kr1w5 := hid (hbw5.blk Kr1w4.out (by have := Kr1w4.out.lt; omega))
        have Kr2w5 := hid (hbw5.blk Kr2w4.out (by have := Kr2w4.out.lt; omega))
        have Kow5 := hid (hbw5.blk Kow4.out (by have := Kow4.out.lt; omega))
        have Kuw5 := hid (hbw5.blk Kuw4.out (by have := Kuw4.out.lt; omega))
        have Kvw5 := hid hkw5
        clear hbw5 hkw5))
  refine FlowB.wp_region_butIn [w.heap.size + 1, w.heap.size + 1 + 1] (fun wz => Blk wz (w.heap.size + 1) (byteCells 32 []) 25 ∧ Blk wz (w.heap.size + 1 + 1) (byteCells 32 []) 25) 9 [0, 1, 2, 3, 4, 5, 6] [] [(.c 7, [], []), (.c 8, [], [])] (by kernel_rfl) (by kernel_rfl) ⟨Kr1w5.out, Kr2w5.out⟩ (fun _ _ h hb => ⟨h.1.below hb, h.2.below hb⟩) ?_
  apply Exists.intro
  refine ⟨fun w0 hb0 hF0 => ?_, ?_⟩
  · skip
    have x0 : ∀ w', (∃ x : Ext w0, w' = x.at_) → ∃ T, Blk w' (bw3) (R1.map (Value.int .u8)).toArray T := fun w' ⟨x, hx⟩ => ⟨_, hx ▸ (hb0.blk Kuw5.out (by simp only [List.mem_cons, List.not_mem_nil, or_false]; omega)).below x.same⟩
    have x1 : ∀ w', (∃ x : Ext w0, w' = x.at_) → ∃ T, Blk w' (cw3) (R2.map (Value.int .u8)).toArray T := fun w' ⟨x, hx⟩ => ⟨_, hx ▸ (hb0.blk Kvw5.out (by simp only [List.mem_cons, List.not_mem_nil, or_false]; omega)).below x.same⟩
    have x2 : ∀ w', (∃ x : Ext w0, w' = x.at_) → ∃ T, Blk w' (w1.heap.size) (Y.map (Value.int .u8)).toArray T := fun w' ⟨x, hx⟩ => ⟨_, hx ▸ (hb0.blk Kow5.out (by simp only [List.mem_cons, List.not_mem_nil, or_false]; omega)).below x.same⟩
    have c0 := fun e : Ext w0 => CN.out e.at_
    have c1 := fun e : Ext w0 => CM.out e.at_
    simp only [pick, List.getElem?_toArray, List.getElem?_cons_succ, List.getElem?_cons_zero, Option.toList_some, List.cons_append, List.nil_append]
    repeat (first | (go_big_quiet_want; refine quiet_load_blk 25 _ rfl (bw3) rfl _ x0 _ Tryz.underlying25 rfl 32 size_digest HR1.out.size ?_; go_big_quiet_on; simp only [Act.put, List.setIfInBounds_toArray, List.set_cons_zero, List.set_cons_succ]) | (go_big_quiet_want; refine quiet_load_blk 25 _ rfl (cw3) rfl _ x1 _ Tryz.underlying25 rfl 32 size_digest HR2.out.size ?_; go_big_quiet_on; simp only [Act.put, List.setIfInBounds_toArray, List.set_cons_zero, List.set_cons_succ]) | (go_big_quiet_want; refine quiet_load_blk 25 _ rfl (w1.heap.size) rfl _ x2 _ Tryz.underlying25 rfl 32 size_digest HY.out.size ?_; go_big_quiet_on; simp only [Act.put, List.setIfInBounds_toArray, List.set_cons_zero, List.set_cons_succ]) | go_big_quiet_step (first | (go_at_call 68; with_reducible exact Calls.ext (c0 _)) | (go_at_call 68; with_reducible exact Calls.ext (c1 _))))
    exact wpQuiet_nil rfl
  refine FlowB.AlChk.nil ?_
  refine FlowB.Walk.skips rfl (fun wz => Blk wz (w.heap.size + 1) (X8.map (Value.int .u8)).toArray 25 ∧ Blk wz (w.heap.size + 1 + 1) (byteCells 32 []) 25) (fun _ _ h hb => ⟨h.1.below hb, h.2.below hb⟩) rfl (fun w1 hb1 hF1 hG1 => ?_) ?_
  · exact FlowB.store_skips 25 _ _ rfl (w.heap.size + 1) (X8.map (Value.int .u8)).toArray rfl rfl _ 25 hG1.1 32 size_digest zsize HX8.out.size (ints_one _ _) (by simp) (fun w2 h2 h3 => ⟨h3, h2.blk hG1.2 (by omega)⟩)
  intro w1 hb1 hF1
  apply Exists.intro
  refine ⟨fun w2 hb2 hF2 => wpQuiet_nil rfl, ?_⟩
  refine FlowB.AlChk.nil ?_
  refine FlowB.Walk.skips rfl (fun wz => Blk wz (w.heap.size + 1) (X8.map (Value.int .u8)).toArray 25 ∧ Blk wz (w.heap.size + 1 + 1) (X9.map (Value.int .u8)).toArray 25) (fun _ _ h hb => ⟨h.1.below hb, h.2.below hb⟩) rfl (fun w1 hb1 hF1 hG1 => ?_) ?_
  · exact FlowB.store_skips 25 _ _ rfl (w.heap.size + 1 + 1) (X9.map (Value.int .u8)).toArray rfl rfl _ 25 hG1.2 32 size_digest zsize HX9.out.size (ints_one _ _) (by simp) (fun w2 h2 h3 => ⟨h2.blk hG1.1 (by omega), h3⟩)
  intro w1 hb1 hF1
  apply Exists.intro
  refine ⟨fun w2 hb2 hF2 => wpQuiet_nil rfl, ?_⟩
  refine FlowB.AlChk.nil ?_
  refine FlowB.Walk.fin fun w6 hw6 _ hGw6 => ?_
  simp only [List.drop_succ_cons, List.drop_zero]
  have HIw6 := hid hw6
  have HBw6 := hid (hw6.below HBw5.out HBw5.out.size (by simp only [List.mem_cons, List.not_mem_nil, or_false, forall_eq_or_imp, forall_eq]; omega))
  have HGw6 := hid hGw6
  clear hw6 hGw6
  go_wp2_with fail
  exact bodyPost_ret (v := .tuple #[.agg (X8.map (Value.int .u8)).toArray, .agg (X9.map (Value.int .u8)).toArray, .bool ok]) (results_blk2_tmp Tryz.results30 _ (w.heap.size + 1) (w.heap.size + 1 + 1) rfl rfl _ rfl _ _ 25 HGw6.out.1 HGw6.out.2 _ Tryz.underlying25 rfl 32 size_digest HX8.out.size HX9.out.size) rfl ⟨rfl, HBw6.out⟩
set_option maxHeartbeats 4000000 in
theorem both_any (A : List Int) (hA : Dg A) (f : Nat) : ∀ (m n : Nat) (cut : Bool) (ya : Option Addr) (len yc : Nat) (ds : List (List Int)) (w : World), 1 ≤ m → m ≤ n → n ≤ f → n ≤ 200 → len ≤ 1000000 → DigsAt w ya len yc ds →
    Calls Tryz.prog 30 #[.agg (A.map (Value.int .u8)).toArray, .int .i64 m, .int .i64 n, .bool cut, .slice ya len yc] w fun e w' => e = .returned (.tuple #[.agg ((bothR f A m n cut ds).1.1.map (Value.int .u8)).toArray, .agg ((bothR f A m n cut ds).1.2.map (Value.int .u8)).toArray, .bool (bothR f A m n cut ds).2]) ∧ Below w.heap.size w w' := by
  induction f with
  | zero => intro m n cut ya len yc ds w h1 h2 h3; omega
  | succ f ih =>
    intro m n cut ya len yc ds w h1 h2 h3 h4 h5 hD
    have hl := hD.length
    rcases Nat.eq_or_lt_of_le h2 with rfl | hlt
    · rw [bothR, if_pos rfl]
      cases cut with
      | false =>
        rw [if_neg (by simp)]
        have := both_same A m len ya yc w hA
        rw [show ((len : Int) == 0) = decide (ds.length = 0) by rw [hl]; by_cases h : len = 0 <;> simp [h]] at this
        exact this
      | true =>
        rw [if_pos rfl]
        by_cases hl1 : len = 1
        · subst hl1
          rw [if_pos hl]
          obtain ⟨x, o, rfl, hx, hc⟩ := hD.at_ (by omega)
          exact both_one A m x o yc ds w hA hD
        · rw [if_neg (by omega)]
          exact both_bad A m len ya yc w hA (by omega)
    · obtain ⟨hk1, hk2⟩ := halfN_lt (n := n) (by omega)
      rw [bothR, if_neg (by omega)]
      rcases Nat.eq_zero_or_pos len with rfl | hp
      · rw [if_pos hl]
        exact both_nil A m n cut ya yc w hA (by omega)
      · obtain ⟨x, o, rfl, hx, hc⟩ := hD.at_ hp
        rw [if_neg (by omega), hl]
        by_cases hik : m ≤ halfN n
        · rw [if_pos hik]
          have hg := Dg.bothR hA f m (halfN n) cut (ds.take (len - 1)) (fun d hm => hD.each d (List.mem_of_mem_take hm))
          exact both_l A m n (halfN n) (len - 1) len cut x o yc ds w hA hlt (by omega) h4 rfl hik (by omega) (by omega) h5 hD _ _ _ hg.1 hg.2 (fun W hW => ih m (halfN n) cut _ (len - 1) yc _ W h1 hik (by omega) (by omega) (by omega) hW)
        · rw [if_neg hik]
          have hg := Dg.bothR hA f (m - halfN n) (n - halfN n) true (ds.take (len - 1)) (fun d hm => hD.each d (List.mem_of_mem_take hm))
          exact both_r A m n (halfN n) (len - 1) len cut x o yc ds w hA hlt (by omega) h4 rfl hik (by omega) (by omega) h5 hD _ _ _ hg.1 hg.2 (fun W hW => by
            have := ih (m - halfN n) (n - halfN n) true _ (len - 1) yc _ W (by omega) (by omega) (by omega) (by omega) (by omega) hW
            rw [show ((n - halfN n : Nat) : Int) = (n : Int) - (halfN n : Int) by omega, show ((m - halfN n : Nat) : Int) = (m : Int) - (halfN n : Int) by omega] at this
            exact this)
set_option maxHeartbeats 4000000 in
theorem refgrows_noa (A B : List Int) (m n : Int) (ya : Option Addr) (yn yc : Nat) (w : World) (_hA : Dg A) (_hB : Dg B) (h : m < 1) :
    Calls Tryz.prog 10 #[.agg (A.map (Value.int .u8)).toArray, .int .i64 m, .agg (B.map (Value.int .u8)).toArray, .int .i64 n, .slice ya yn yc] w fun e w' => e = .returned (.bool false) ∧ Below w.heap.size w w' := by
  have b1 := (Below.refl w.heap.size w).alloc (Nat.le_refl _) (.cells (A.map (Value.int .u8)).toArray 25 (0, 0))
  have b2 := b1.alloc b1.size (.cells (B.map (Value.int .u8)).toArray 25 (0, 0))
  have Ka := hid ((Blk.new (w := w) (n := w.heap.size) rfl (A.map (Value.int .u8)).toArray 25).old (.cells (B.map (Value.int .u8)).toArray 25 (0, 0)))
  have Kb := hid (Blk.new (w := (w.alloc (.cells (A.map (Value.int .u8)).toArray 25 (0, 0)))) (n := w.heap.size + 1) (by simp only [World.size_alloc]) (B.map (Value.int .u8)).toArray 25)
  have Hb := hid b2
  have hbz := b2.size
  have Hbs := hid (show w.heap.size + 1 + 1 = ((w.alloc (.cells (A.map (Value.int .u8)).toArray 25 (0, 0))).alloc (.cells (B.map (Value.int .u8)).toArray 25 (0, 0))).heap.size by simp only [World.size_alloc])
  clear b1 b2 
  go_enter Tryz.func10, Tryz.ntmps10
  go_wp2_with fail
  go_returns
  exact ⟨rfl, Hb.out⟩
set_option maxHeartbeats 4000000 in
theorem refgrows_nob (A B : List Int) (m n : Int) (ya : Option Addr) (yn yc : Nat) (w : World) (_hA : Dg A) (_hB : Dg B) (h1 : ¬ m < 1) (h : n < m) :
    Calls Tryz.prog 10 #[.agg (A.map (Value.int .u8)).toArray, .int .i64 m, .agg (B.map (Value.int .u8)).toArray, .int .i64 n, .slice ya yn yc] w fun e w' => e = .returned (.bool false) ∧ Below w.heap.size w w' := by
  have b1 := (Below.refl w.heap.size w).alloc (Nat.le_refl _) (.cells (A.map (Value.int .u8)).toArray 25 (0, 0))
  have b2 := b1.alloc b1.size (.cells (B.map (Value.int .u8)).toArray 25 (0, 0))
  have Ka := hid ((Blk.new (w := w) (n := w.heap.size) rfl (A.map (Value.int .u8)).toArray 25).old (.cells (B.map (Value.int .u8)).toArray 25 (0, 0)))
  have Kb := hid (Blk.new (w := (w.alloc (.cells (A.map (Value.int .u8)).toArray 25 (0, 0)))) (n := w.heap.size + 1) (by simp only [World.size_alloc]) (B.map (Value.int .u8)).toArray 25)
  have Hb := hid b2
  have hbz := b2.size
  have Hbs := hid (show w.heap.size + 1 + 1 = ((w.alloc (.cells (A.map (Value.int .u8)).toArray 25 (0, 0))).alloc (.cells (B.map (Value.int .u8)).toArray 25 (0, 0))).heap.size by simp only [World.size_alloc])
  clear b1 b2 
  go_enter Tryz.func10, Tryz.ntmps10
  go_wp2_with fail
  go_returns
  exact ⟨rfl, Hb.out⟩
set_option maxHeartbeats 4000000 in
theorem refgrows_noc (A B : List Int) (m n : Int) (ya : Option Addr) (yn yc : Nat) (w : World) (_hA : Dg A) (_hB : Dg B) (h1 : ¬ m < 1) (h2 : ¬ n < m) (h : 200 < n) :
    Calls Tryz.prog 10 #[.agg (A.map (Value.int .u8)).toArray, .int .i64 m, .agg (B.map (Value.int .u8)).toArray, .int .i64 n, .slice ya yn yc] w fun e w' => e = .returned (.bool false) ∧ Below w.heap.size w w' := by
  have b1 := (Below.refl w.heap.size w).alloc (Nat.le_refl _) (.cells (A.map (Value.int .u8)).toArray 25 (0, 0))
  have b2 := b1.alloc b1.size (.cells (B.map (Value.int .u8)).toArray 25 (0, 0))
  have Ka := hid ((Blk.new (w := w) (n := w.heap.size) rfl (A.map (Value.int .u8)).toArray 25).old (.cells (B.map (Value.int .u8)).toArray 25 (0, 0)))
  have Kb := hid (Blk.new (w := (w.alloc (.cells (A.map (Value.int .u8)).toArray 25 (0, 0)))) (n := w.heap.size + 1) (by simp only [World.size_alloc]) (B.map (Value.int .u8)).toArray 25)
  have Hb := hid b2
  have hbz := b2.size
  have Hbs := hid (show w.heap.size + 1 + 1 = ((w.alloc (.cells (A.map (Value.int .u8)).toArray 25 (0, 0))).alloc (.cells (B.map (Value.int .u8)).toArray 25 (0, 0))).heap.size by simp only [World.size_alloc])
  clear b1 b2 
  go_enter Tryz.func10, Tryz.ntmps10
  go_wp2_with fail
  go_returns
  exact ⟨rfl, Hb.out⟩
theorem refgrows_bad (A B : List Int) (m n : Int) (ya : Option Addr) (yn yc : Nat) (w : World) (hA : Dg A) (hB : Dg B) (h : m < 1 ∨ n < m ∨ 200 < n) :
    Calls Tryz.prog 10 #[.agg (A.map (Value.int .u8)).toArray, .int .i64 m, .agg (B.map (Value.int .u8)).toArray, .int .i64 n, .slice ya yn yc] w fun e w' => e = .returned (.bool false) ∧ Below w.heap.size w w' := by
  by_cases h1 : m < 1
  · exact refgrows_noa A B m n ya yn yc w hA hB h1
  · by_cases h2 : n < m
    · exact refgrows_nob A B m n ya yn yc w hA hB h1 h2
    · exact refgrows_noc A B m n ya yn yc w hA hB h1 h2 (by omega)
set_option maxHeartbeats 4000000 in
theorem refgrows_good (A B : List Int) (m n : Nat) (ya : Option Addr) (yn yc : Nat) (ds : List (List Int)) (w : World) (hA : Dg A) (hB : Dg B) (hm1 : 1 ≤ m) (hmn : m ≤ n) (hn2 : n ≤ 200) (hW : DigsAt w ya yn yc ds) (hyn : yn ≤ 1000000) :
    Calls Tryz.prog 10 #[.agg (A.map (Value.int .u8)).toArray, .int .i64 m, .agg (B.map (Value.int .u8)).toArray, .int .i64 n, .slice ya yn yc] w fun e w' => e = .returned (.bool ((bothR n A m n false ds).2 && decide ((bothR n A m n false ds).1.1 = A) && decide ((bothR n A m n false ds).1.2 = B))) ∧ Below w.heap.size w w' := by
  have hI1 : ¬ ((m : Int) < 1) := by omega
  have hI2 : ¬ ((n : Int) < (m : Int)) := by omega
  have hI3 : ¬ ((200 : Int) < (n : Int)) := by omega
  have CB := hid (fun (W : World) (h : DigsAt W ya yn yc ds) => both_any A hA n m n false ya yn yc ds W hm1 hmn (Nat.le_refl _) hn2 hyn h)
  have hG := Dg.bothR hA n m n false ds hW.each
  have HX1 := hid hG.1
  have HX2 := hid hG.2
  have HD := hid hW
  clear hG hW
  generalize (bothR n A m n false ds).1.1 = X1 at *
  generalize (bothR n A m n false ds).1.2 = X2 at *
  generalize (bothR n A m n false ds).2 = ok at *
  have b1 := (Below.refl w.heap.size w).alloc (Nat.le_refl _) (.cells (A.map (Value.int .u8)).toArray 25 (0, 0))
  have b2 := b1.alloc b1.size (.cells (B.map (Value.int .u8)).toArray 25 (0, 0))
  have Ka := hid ((Blk.new (w := w) (n := w.heap.size) rfl (A.map (Value.int .u8)).toArray 25).old (.cells (B.map (Value.int .u8)).toArray 25 (0, 0)))
  have Kb := hid (Blk.new (w := (w.alloc (.cells (A.map (Value.int .u8)).toArray 25 (0, 0)))) (n := w.heap.size + 1) (by simp only [World.size_alloc]) (B.map (Value.int .u8)).toArray 25)
  have Hb := hid b2
  have hbz := b2.size
  have Hbs := hid (show w.heap.size + 1 + 1 = ((w.alloc (.cells (A.map (Value.int .u8)).toArray 25 (0, 0))).alloc (.cells (B.map (Value.int .u8)).toArray 25 (0, 0))).heap.size by simp only [World.size_alloc])
  clear b1 b2 
  go_enter Tryz.func10, Tryz.ntmps10
  go_wp2_with (refine wpList_load_blk rfl 25 _ rfl (w.heap.size) rfl _ 25 Ka.out _ Tryz.underlying25 rfl 32 size_digest hA.size ?_)
  refine (CB.out _ (HD.out.below Hb.out)).mono ?_
  rintro e w1 ⟨rfl, bw1⟩
  have HBw1 := hid (Below.on Hb.out bw1)
  have hsw1 := HBw1.out.size
  have Kaw1 := hid (Ka.out.below bw1)
  have Kbw1 := hid (Kb.out.below bw1)
  clear bw1
  cases ok with
  | true =>
    by_cases hx : X1 = A
    · have q1 := fun W => eqD X1 A HX1.out.len hA.len W
      have q2 := fun W => eqD X2 B HX2.out.len hB.len W
      rw [decide_eq_true hx] at q1
      have HXX := hid hx
      clear hx
      go_wp2_with (first | (
        refine wpList_store_blk rfl 25 _ _ rfl (w1.heap.size) (X1.map (Value.int .u8)).toArray rfl rfl _ 25 ((Blk.new rfl (byteCells 32 []) _).old _) 32 size_digest zsize HX1.out.size (ints_one _ _) ?_
        intro w5 hb5 hk5
        have h5 := hb5.below (((Below.refl w1.heap.size w1).alloc (Nat.le_refl _) _).alloc (by simp only [World.size_alloc]; omega) _) (by simp only [World.size_alloc]; omega) (Nat.le_refl _)
        have H5 := hid h5
        have Ku5 := hid hk5
        have Kv5 := hid (hb5.blk (Blk.new (n := w1.heap.size + 1) (by simp only [World.size_alloc]) (byteCells 32 []) 25) (by omega))
        clear hb5 hk5 h5) | (
        refine wpList_store_blk rfl 25 _ _ rfl (w1.heap.size + 1) (X2.map (Value.int .u8)).toArray rfl rfl _ 25 Kv5.out 32 size_digest zsize HX2.out.size (ints_one _ _) ?_
        intro w6 hb6 hk6
        have h6 := hb6.below H5.out H5.out.size (by omega)
        have HB6 := hid (Below.on HBw1.out h6)
        have Ku6 := hid (hb6.blk Ku5.out (by omega))
        have Kv6 := hid hk6
        have Ka6 := hid (Kaw1.out.below h6)
        have Kb6 := hid (Kbw1.out.below h6)
        clear hb6 hk6 h6) | (refine wpList_load_blk_if (by first | rfl | go_simp) 25 _ rfl (w1.heap.size) rfl _ 25 Ku6.out _ Tryz.underlying25 rfl 32 size_digest HX1.out.size ?_) | (refine wpList_load_blk_if (by first | rfl | go_simp) 25 _ rfl (w.heap.size) rfl _ 25 Ka6.out _ Tryz.underlying25 rfl 32 size_digest hA.size ?_) | (refine wpList_load_blk_if (by first | rfl | go_simp) 25 _ rfl (w1.heap.size + 1) rfl _ 25 Kv6.out _ Tryz.underlying25 rfl 32 size_digest HX2.out.size ?_) | (refine wpList_load_blk_if (by first | rfl | go_simp) 25 _ rfl (w.heap.size + 1) rfl _ 25 Kb6.out _ Tryz.underlying25 rfl 32 size_digest hB.size ?_))
      go_returns
      exact ⟨by first | rfl | simp [HXX.out], HB6.out⟩
    · have q1 := fun W => eqD X1 A HX1.out.len hA.len W
      rw [decide_eq_false hx] at q1
      go_wp2_with (first | (
        refine wpList_store_blk rfl 25 _ _ rfl (w1.heap.size) (X1.map (Value.int .u8)).toArray rfl rfl _ 25 ((Blk.new rfl (byteCells 32 []) _).old _) 32 size_digest zsize HX1.out.size (ints_one _ _) ?_
        intro w5 hb5 hk5
        have h5 := hb5.below (((Below.refl w1.heap.size w1).alloc (Nat.le_refl _) _).alloc (by simp only [World.size_alloc]; omega) _) (by simp only [World.size_alloc]; omega) (Nat.le_refl _)
        have H5 := hid h5
        have Ku5 := hid hk5
        have Kv5 := hid (hb5.blk (Blk.new (n := w1.heap.size + 1) (by simp only [World.size_alloc]) (byteCells 32 []) 25) (by omega))
        clear hb5 hk5 h5) | (
        refine wpList_store_blk rfl 25 _ _ rfl (w1.heap.size + 1) (X2.map (Value.int .u8)).toArray rfl rfl _ 25 Kv5.out 32 size_digest zsize HX2.out.size (ints_one _ _) ?_
        intro w6 hb6 hk6
        have h6 := hb6.below H5.out H5.out.size (by omega)
        have HB6 := hid (Below.on HBw1.out h6)
        have Ku6 := hid (hb6.blk Ku5.out (by omega))
        have Kv6 := hid hk6
        have Ka6 := hid (Kaw1.out.below h6)
        have Kb6 := hid (Kbw1.out.below h6)
        clear hb6 hk6 h6) | (refine wpList_load_blk_if (by first | rfl | go_simp) 25 _ rfl (w1.heap.size) rfl _ 25 Ku6.out _ Tryz.underlying25 rfl 32 size_digest HX1.out.size ?_) | (refine wpList_load_blk_if (by first | rfl | go_simp) 25 _ rfl (w.heap.size) rfl _ 25 Ka6.out _ Tryz.underlying25 rfl 32 size_digest hA.size ?_))
      go_returns
      exact ⟨by first | rfl | simp [hx], HB6.out⟩
  | false =>
    go_wp2_with (first | (
        refine wpList_store_blk rfl 25 _ _ rfl (w1.heap.size) (X1.map (Value.int .u8)).toArray rfl rfl _ 25 ((Blk.new rfl (byteCells 32 []) _).old _) 32 size_digest zsize HX1.out.size (ints_one _ _) ?_
        intro w5 hb5 hk5
        have h5 := hb5.below (((Below.refl w1.heap.size w1).alloc (Nat.le_refl _) _).alloc (by simp only [World.size_alloc]; omega) _) (by simp only [World.size_alloc]; omega) (Nat.le_refl _)
        have H5 := hid h5
        have Ku5 := hid hk5
        have Kv5 := hid (hb5.blk (Blk.new (n := w1.heap.size + 1) (by simp only [World.size_alloc]) (byteCells 32 []) 25) (by omega))
        clear hb5 hk5 h5) | (
        refine wpList_store_blk rfl 25 _ _ rfl (w1.heap.size + 1) (X2.map (Value.int .u8)).toArray rfl rfl _ 25 Kv5.out 32 size_digest zsize HX2.out.size (ints_one _ _) ?_
        intro w6 hb6 hk6
        have h6 := hb6.below H5.out H5.out.size (by omega)
        have HB6 := hid (Below.on HBw1.out h6)
        have Ku6 := hid (hb6.blk Ku5.out (by omega))
        have Kv6 := hid hk6
        have Ka6 := hid (Kaw1.out.below h6)
        have Kb6 := hid (Kbw1.out.below h6)
        clear hb6 hk6 h6) | fail)
    go_returns
    exact ⟨by first | rfl | simp, HB6.out⟩
end Go.Proofs.YtkakoiaahgchmaaGreatDoor
namespace Go.Proofs.YtkakoiaahgchmaaGreatDoor
set_option maxRecDepth 100000
open Go.ChangeShapes Go.WideShapes Go.ChangeAt Go.RowKit
theorem grows_two (A B : List Int) (m n : Int) (ya : Option Addr) (yn yc : Nat) (ds : List (List Int)) (hA : Dg A) (hB : Dg B) (hyn : yn ≤ 40) (hlen : ds.length = yn) : ∃ H : Bool, (∀ W : World, DigsAt W ya yn yc ds → ShaTab W → Calls Tryz.prog 34 #[.agg (A.map (Value.int .u8)).toArray, .int .i64 m, .agg (B.map (Value.int .u8)).toArray, .int .i64 n, .slice ya yn yc] W fun e w' => e = .returned (.bool H) ∧ Below W.heap.size W w') ∧ (∀ W : World, DigsAt W ya yn yc ds → ShaTab W → Calls Tryz.prog 10 #[.agg (A.map (Value.int .u8)).toArray, .int .i64 m, .agg (B.map (Value.int .u8)).toArray, .int .i64 n, .slice ya yn yc] W fun e w' => e = .returned (.bool H) ∧ Below W.heap.size W w') := by
  by_cases h : m < 1 ∨ n < m ∨ 200 < n
  · exact ⟨false, fun W _ _ => grows_bad A B m n ya yn yc W hA hB h, fun W _ _ => refgrows_bad A B m n ya yn yc W hA hB h⟩
  · obtain ⟨n, rfl⟩ := Int.eq_ofNat_of_zero_le (show 0 ≤ n by omega)
    obtain ⟨m, rfl⟩ := Int.eq_ofNat_of_zero_le (show 0 ≤ m by omega)
    have hs := grows_same A B m n ds yn (by omega) (by omega) hlen
    refine ⟨_, fun W hd tb => grows_good A B m n ya yn yc ds W hA hB (by omega) (by omega) (by omega) hd (by omega) tb, fun W hd _ => ?_⟩
    rw [← hs]
    exact refgrows_good A B m n ya yn yc ds W hA hB (by omega) (by omega) (by omega) hd (by omega)
end Go.Proofs.YtkakoiaahgchmaaGreatDoor
namespace Go.Proofs.YtkakoiaahgchmaaGreatDoor
set_option maxRecDepth 100000
open Go.ChangeShapes Go.WideShapes Go.ChangeAt Go.RowKit
/-- The empty node of a level. -/
def emptyL : Nat → List Int
  | 0 => sumZ [2]
  | k + 1 => nodeL (emptyL k) (emptyL k)
/-- The first empty nodes. -/
def empN (n : Nat) : List (List Int) := (List.range n).map emptyL
/-- The row, while it is filled. -/
@[irreducible] def fillE (m k : Nat) : List (List Int) := empN k ++ List.replicate (m - k) zD
end Go.Proofs.YtkakoiaahgchmaaGreatDoor
namespace Go.Proofs.YtkakoiaahgchmaaGreatDoor
set_option maxRecDepth 100000
open Go.ChangeShapes Go.WideShapes Go.ChangeAt Go.RowKit
/-- What an entry's node is. -/
@[irreducible] def leafE (a b : List Int) : List Int := sumZ (0 :: (a ++ b))
/-- An entry's bytes. -/
def entL (a b : List Int) : List Int := a ++ b
end Go.Proofs.YtkakoiaahgchmaaGreatDoor
namespace Go.Proofs.YtkakoiaahgchmaaGreatDoor
set_option maxRecDepth 100000
open Go.ChangeShapes Go.WideShapes Go.ChangeAt Go.RowKit
/-- On which side the node of a level is. -/
def bitL (d : List Int) (k : Nat) : Int := d.getD (31 - k / 8) 0 / 2 ^ (k % 8) % 2
/-- A byte of an index, turned down by a bit. -/
def halfB (d : List Int) (i : Nat) : Int := d.getD i 0 / 2 + (if i = 0 then 0 else d.getD (i - 1) 0 % 2 * 128)
def halfL (d : List Int) : List Int := (List.range 32).map (halfB d)
def halfP (d : List Int) (k : Nat) : List Int := (List.range k).map (halfB d) ++ List.replicate (32 - k) 0
def halfK : Nat → List Int → List Int
  | 0, d => d
  | k + 1, d => halfL (halfK k d)
end Go.Proofs.YtkakoiaahgchmaaGreatDoor
namespace Go.Proofs.YtkakoiaahgchmaaGreatDoor
set_option maxRecDepth 100000
open Go.ChangeShapes Go.WideShapes Go.ChangeAt Go.RowKit
open Go.WideMaps (KeyLaw)
open Go.ChangeMaps (setBlock)
/-- An index was counted so often. -/
def MapN (r : Nat) (kv : Value) (n : Nat) (w : World) : Prop := (n = 0 ∧ w.heap[r]? = some (.map #[] 0)) ∨ w.heap[r]? = some (.map #[⟨kv, .int .i64 n, 0⟩] 1)
/-- The entries of a row. -/
structure EntsAt (w : World) (a : Option Addr) (len cap : Nat) (es : List (List Int × List Int)) : Prop where
  length : es.length = len
  le : len ≤ cap
  each : ∀ x ∈ es, Dg x.1 ∧ Dg x.2
  mem : len = 0 ∨ ∃ x o, a = some ⟨x, o, none⟩ ∧ x < w.heap.size ∧ ∀ j, j < len → w.rangeAt x (o + j * 64) ((entL (es.getD j ([], [])).1 (es.getD j ([], [])).2).map (Value.int .u8))
/-- The world goes on, and the map keeps its number. -/
def MapR (r : Nat) (kv : Value) (n : Nat) (a b : World) : Prop := FlowB.ButIn [r] a b ∧ (MapN r kv n a → MapN r kv n b)
end Go.Proofs.YtkakoiaahgchmaaGreatDoor
namespace Go.Proofs.YtkakoiaahgchmaaGreatDoor
set_option maxRecDepth 100000
open Go.ChangeShapes Go.WideShapes Go.ChangeAt Go.RowKit
/-- Is a place's sibling known? -/
def knB (d : List Int) (k : Nat) : Bool := decide (d.getD (k / 8) 0 / 2 ^ (k % 8) % 2 = 1)
/-- How many of the first places' siblings are known. -/
def knN (d : List Int) : Nat → Nat
  | 0 => 0
  | k + 1 => knN d k + (if knB d k then 1 else 0)
def onesB (x : Int) : Nat := (if x / 2 ^ 0 % 2 = 1 then 1 else 0) + (if x / 2 ^ 1 % 2 = 1 then 1 else 0) + (if x / 2 ^ 2 % 2 = 1 then 1 else 0) + (if x / 2 ^ 3 % 2 = 1 then 1 else 0) + (if x / 2 ^ 4 % 2 = 1 then 1 else 0) + (if x / 2 ^ 5 % 2 = 1 then 1 else 0) + (if x / 2 ^ 6 % 2 = 1 then 1 else 0) + (if x / 2 ^ 7 % 2 = 1 then 1 else 0)
section
variable {P : Program} {ops : Array Oper} {rest : List Oper} {op : Oper} {a : Act} {w : World} {Q : Exit → Act → World → Prop}
end
end Go.Proofs.YtkakoiaahgchmaaGreatDoor
namespace Go.Proofs.YtkakoiaahgchmaaGreatDoor
set_option maxRecDepth 100000
open Go.ChangeShapes Go.WideShapes Go.ChangeAt Go.RowKit
/-- A proof's cells. -/
def prC (d : List Int) (v : Value) : List Value := d.map (Value.int .u8) ++ [v]
end Go.Proofs.YtkakoiaahgchmaaGreatDoor
namespace Go.Proofs.YtkakoiaahgchmaaGreatDoor
set_option maxRecDepth 100000
open Go.ChangeShapes Go.WideShapes Go.ChangeAt Go.RowKit
/-- The sibling of a level. -/
def sibL (d : List Int) (ns : List (List Int)) (k : Nat) : List Int := if knB d k then ns.getD (knN d k) [] else emptyL k
/-- A step up. -/
def stepL (i : List Int) (k : Nat) (x s : List Int) : List Int := if bitL i k = 0 then nodeL x s else nodeL s x
/-- Where one comes to. -/
def climbK (d i : List Int) (ns : List (List Int)) (x : List Int) : Nat → List Int
  | 0 => x
  | k + 1 => stepL i k (climbK d i ns x k) (sibL d ns k)
end Go.Proofs.YtkakoiaahgchmaaGreatDoor
namespace Go.Proofs.YtkakoiaahgchmaaGreatDoor
set_option maxRecDepth 100000
open Go.ChangeShapes Go.WideShapes Go.ChangeAt Go.RowKit Go.Shelf
/-- Below block b all is as it was; from there on all cells are, but those of block b. -/
structure KeepC (b : Nat) (W W' : World) : Prop where
  low : Below b W W'
  same : ∀ (k : Nat) (o : Obj), k ≠ b → W.heap[k]? = some o → o.isCells = true → W'.heap[k]? = some o
def noDefer (o : Oper) : Bool := match o.op with | .defer _ => false | _ => true
/-- The places up to k. -/
def upF (k : Nat) : List (Fin 256) := (List.finRange 256).take k
/-- Where one has come to when these places are climbed. -/
def foldC (d i : List Int) (ns : List (List Int)) (x : List Int) (pre : List (Fin 256)) : List Int := pre.foldl (fun X (k : Fin 256) => stepL i k.1 X (sibL d ns k.1)) x
end Go.Proofs.YtkakoiaahgchmaaGreatDoor
namespace Go.Proofs.YtkakoiaahgchmaaGreatDoor
set_option maxRecDepth 100000
open Go.ChangeShapes Go.WideShapes Go.ChangeAt Go.RowKit Go.Shelf
attribute [local go_sem] Oper.semAt_some
end Go.Proofs.YtkakoiaahgchmaaGreatDoor
namespace Go.Proofs.YtkakoiaahgchmaaGreatDoor
set_option maxRecDepth 100000
open Go.ChangeShapes Go.WideShapes Go.ChangeAt Go.RowKit
/-- A digest that begins with 1, and with 9. -/
def oneD : List Int := 1 :: List.replicate 31 0
def nineD : List Int := 9 :: List.replicate 31 0
end Go.Proofs.YtkakoiaahgchmaaGreatDoor
namespace Go.Proofs.YtkakoiaahgchmaaGreatDoor
set_option maxRecDepth 100000
open Go.ChangeShapes Go.WideShapes Go.ChangeAt Go.RowKit
end Go.Proofs.YtkakoiaahgchmaaGreatDoor
namespace Go.Proofs.YtkakoiaahgchmaaGreatDoor
set_option maxRecDepth 100000
open Go.ChangeShapes Go.WideShapes Go.ChangeAt Go.RowKit
@[irreducible] def idxZ (nonce : List Int) (v : Int) (name : List Int) : List Int := sumZ ([1] ++ (nonce ++ (be 8 v ++ name)))
@[irreducible] def nonceZ (key : List Int) (v : Int) (name : List Int) : List Int := macZ key ([1] ++ (be 8 v ++ name))
@[irreducible] def madeZ (salt value : List Int) : List Int := sumZ ([2] ++ (salt ++ value))
@[irreducible] def saltZ (key index value : List Int) : List Int := macZ key ([2] ++ (index ++ value))
theorem isName_t (a : Option Addr) (n c : Nat) (h1 : 1 ≤ n) (h2 : n ≤ 64) (w : World) : Calls Tryz.prog 85 #[.slice a n c] w fun e w' => e = .returned (.bool true) ∧ w = w' := by
  have q1 : (1 : Int) ≤ n := by omega
  have q2 : (n : Int) ≤ 64 := by omega
  go_enter Tryz.func85, Tryz.ntmps85
  go_wp2
  go_ret
  exact ⟨rfl, rfl⟩
theorem isName_f (a : Option Addr) (n c : Nat) (h : n = 0 ∨ 64 < n) (w : World) : Calls Tryz.prog 85 #[.slice a n c] w fun e w' => e = .returned (.bool false) ∧ w = w' := by
  rcases h with rfl | h
  · go_enter Tryz.func85, Tryz.ntmps85
    go_wp2
    go_ret
    exact ⟨rfl, rfl⟩
  · have q1 : (1 : Int) ≤ n := by omega
    have q2 : ¬ (n : Int) ≤ 64 := by omega
    go_enter Tryz.func85, Tryz.ntmps85
    go_wp2
    go_ret
    exact ⟨rfl, rfl⟩
/-- what 'bytesOf' hands back -/
def NumAt (n : Int) (v : Value) (w : World) : Prop := ∃ g, v = .slice (some ⟨g, 0, none⟩) 8 8 ∧ Blk w g ((be 8 n).map (Value.int .u8)).toArray 5
theorem NumAt.below {n : Int} {v : Value} {w w' : World} (h : NumAt n v w) (hb : Below w.heap.size w w') : NumAt n v w' := by
  obtain ⟨g, h1, h2⟩ := h
  exact ⟨g, h1, h2.below hb⟩
theorem NumAt.text {n : Int} {g : Nat} {w : World} (h : NumAt n (.slice (some ⟨g, 0, none⟩) 8 8) w) : TextAt w (some ⟨g, 0, none⟩) 8 8 (be 8 n) := by
  obtain ⟨g', h1, h2⟩ := h
  injection h1 with h1
  injection h1 with h1
  injection h1 with h1
  subst h1
  exact TextAt.of_ints h2 (be_length 8 n) (by omega) (be_small 8 n)
set_option maxHeartbeats 4000000 in
theorem cfrom_bad (nonce : List Int) (v : Int) (a : Option Addr) (n c : Nat) (w : World) (_hN : Dg nonce) (hbad : (n = 0 ∨ 64 < n) ∨ v < 1) :
    Calls Tryz.prog 44 #[(.agg (nonce.map (Value.int .u8)).toArray), .slice a n c, .int .i64 v] w fun e w' => e = .returned (.tuple #[(.agg (zD.map (Value.int .u8)).toArray), .int .i64 1]) ∧ Below w.heap.size w w' := by
  have Hz32 := hid Dg.zero.size
  have H1 := hid (ints_one .u8 zD)
  have b1 := (Below.refl w.heap.size w).alloc (Nat.le_refl _) (.cells (nonce.map (Value.int .u8)).toArray 25 (0, 0))
  have b2 := b1.alloc b1.size (.cells (byteCells 32 []) 25 (0, 0))
  have K0 := hid ((Blk.new (w := w) (n := w.heap.size) rfl (nonce.map (Value.int .u8)).toArray 25).old (.cells (byteCells 32 []) 25 (0, 0)))
  have Kr0 := hid (Blk.new (w := (w.alloc (.cells (nonce.map (Value.int .u8)).toArray 25 (0, 0)))) (n := w.heap.size + 1) (by simp only [World.size_alloc]) (byteCells 32 []) 25)
  have Hb := hid b2
  have HzA := hid zsize
  have hbz := b2.size
  have Hbs := hid (show w.heap.size + 1 + 1 = ((w.alloc (.cells (nonce.map (Value.int .u8)).toArray 25 (0, 0))).alloc (.cells (byteCells 32 []) 25 (0, 0))).heap.size by simp only [World.size_alloc])
  clear b1 b2
  go_enter Tryz.func44, Tryz.ntmps44
  go_wp2_with fail
  rcases (show (n = 0 ∨ 64 < n) ∨ ((1 ≤ n ∧ n ≤ 64) ∧ v < 1) by omega) with h | ⟨⟨h1, h2⟩, h3⟩
  · clear hbad
    refine (isName_f a n c h _).mono ?_
    rintro e w1 ⟨rfl, rfl⟩
    go_wp2_with (refine wpList_store_blk rfl 25 _ _ rfl (w.heap.size + 1) (zD.map (Value.int .u8)).toArray rfl rfl _ 25 Kr0.out 32 size_digest HzA.out Hz32.out H1.out ?_; intro w7 hbut7 hk7)
    exact bodyPost_ret (v := .tuple #[(.agg (zD.map (Value.int .u8)).toArray), .int .i64 1]) (results_blk_tmp Tryz.results44 _ (w.heap.size + 1) rfl _ rfl _ 25 hk7 _ Tryz.underlying25 rfl 32 size_digest Hz32.out) rfl ⟨rfl, hbut7.below Hb.out Hb.out.size (by omega)⟩
  · refine (isName_t a n c h1 h2 _).mono ?_
    rintro e w1 ⟨rfl, rfl⟩
    go_wp2_with (refine wpList_store_blk rfl 25 _ _ rfl (w.heap.size + 1) (zD.map (Value.int .u8)).toArray rfl rfl _ 25 Kr0.out 32 size_digest HzA.out Hz32.out H1.out ?_; intro w7 hbut7 hk7)
    exact bodyPost_ret (v := .tuple #[(.agg (zD.map (Value.int .u8)).toArray), .int .i64 1]) (results_blk_tmp Tryz.results44 _ (w.heap.size + 1) rfl _ rfl _ 25 hk7 _ Tryz.underlying25 rfl 32 size_digest Hz32.out) rfl ⟨rfl, hbut7.below Hb.out Hb.out.size (by omega)⟩
end Go.Proofs.YtkakoiaahgchmaaGreatDoor
namespace Go.Proofs.YtkakoiaahgchmaaGreatDoor
set_option maxRecDepth 100000
open Go.ChangeShapes Go.WideShapes Go.ChangeAt Go.RowKit
theorem OwnB.none_ {w : World} {base : Nat} {e : TypeId} {a : Option Addr} {n c : Nat} {bs : List Int} (h : OwnB w base e (.slice a n c) bs) : OwnB w base e (.slice a 0 c) [] := by
  obtain ⟨⟨h1, ⟨h2, h3⟩ | ⟨g, cap, cur, h2, hg, hh, hle, hmx, hsz, htk⟩⟩, hs⟩ := h
  · injection h2 with e1 e2 e3
    subst e1 e2 e3
    exact OwnB.nil w base e
  · injection h2 with e1 e2 e3
    subst e1 e2 e3
    exact ⟨⟨rfl, .inr ⟨g, _, cur, rfl, hg, hh, Nat.zero_le _, hmx, hsz, by simp⟩⟩, by simp⟩
theorem wpList_append_zeros {P : Program} {w : World} {base : Nat} {t e tn : TypeId} {i : TypeInfo} {v : Value} {bs : List Int} {ops : Array Oper} {rest : List Oper} {o : Oper} {A : Act} {Q : Exit → Act → World → Prop} (hgd : o.guard = none) (s x : Operand) (ho : o.op = .call { callee := .builtin .append, args := #[s, x], argTypes := #[t, tn] })
    (ht : P.underlying t = some (.slice e)) (htn : P.underlying tn = some (.int .i64)) (hi : P.info? e = some i) (hz : i.zero = some (.int .u8 0)) (hsize : i.size = 1) (hby : i.bytes = 1) (hs : A.eval s = v) (hown : OwnB w base e v bs)
    (k : Nat) (hx : A.eval x = .int .i64 k) (hb : bs.length + k ≤ 140737488355328) (hbase : base ≤ w.heap.size)
    (h : ∀ v' w', OwnB w' base e v' (bs ++ List.replicate k 0) → w.grownBy w' v.ownBlock → Below base w w' → wpList P ops Q rest (A.put o.dst v') w') : wpList P ops Q (o :: rest) A w :=
  wpList_plain hgd fun K hK => by
    obtain ⟨v', w', hr, h2, h3, h4⟩ := run_append_zeros o.type ht htn hi hz hsize hby hown k hb hbase
    unfold Oper.wp execOp
    simp only [ho, resolve, invoke, builtin, Sem.run_bind, Sem.run_pure, Result.andThen_ok, List.map_toArray, List.map_cons, List.map_nil, hs, hx, hr, Oper.upon_value]
    exact hK _ _ (h v' w' h2 h3 h4)
set_option maxHeartbeats 4000000 in
theorem grow_none_r (w : World) : Calls Tryz.prog 105 #[.slice none 0 0, .int .i64 0] w fun e w' => ∃ v, e = .returned v ∧ OwnB w' w.heap.size 5 v [] ∧ Below w.heap.size w w' := by
  go_enter Tryz.func105, Tryz.ntmps105
  go_wp2
  go_returns
  exact ⟨_, rfl, OwnB.nil w w.heap.size 5, by go_grown⟩
set_option maxHeartbeats 4000000 in
theorem grow_some (k : Nat) (w : World) (h0 : 0 < k) (hb : k ≤ 140737488355328) : Calls Tryz.prog 105 #[.slice none 0 0, .int .i64 k] w fun e w' => ∃ v, e = .returned v ∧ OwnB w' w.heap.size 5 v [] ∧ Below w.heap.size w w' := by
  obtain ⟨i0, hi, hz0, hz1, hz2⟩ := info_parts info_byte
  have q1 : ¬ (k : Int) < 0 := by omega
  have q2 : (0 : Int) < k := by omega
  have HN := hid (OwnB.nil w w.heap.size 5)
  have hw : wrap64 (k : Int) = k := by unfold wrap64; omega
  go_enter Tryz.func105, Tryz.ntmps105
  go_wp2_with (at_builtin; refine wpList_append_zeros rfl _ _ rfl Tryz.underlying37 Tryz.underlying3 hi hz0 hz1 hz2 rfl HN.out k rfl ?c1 ?c2 ?_)
  intro v4 w4 own4 g4 b4
  obtain ⟨va, vn, vc, rfl⟩ : ∃ a n c, v4 = .slice a n c := by
    obtain ⟨a, c, e, _⟩ := own4.text
    exact ⟨a, _, c, e⟩
  have HO := hid own4.none_
  have H4 := hid b4
  have hcut := fun W : World => run_cut_h (P := Tryz.prog) Tryz.underlying37 (by rw [hi]; simp [hz1]) va vn vc 0 W (by omega) (by omega)
  clear own4 g4 b4
  go_wp2_with fail
  go_returns
  exact ⟨_, rfl, HO.out, H4.out⟩
theorem grow_any (k : Nat) (w : World) (hb : k ≤ 140737488355328) : Calls Tryz.prog 105 #[.slice none 0 0, .int .i64 k] w fun e w' => ∃ v, e = .returned v ∧ OwnB w' w.heap.size 5 v [] ∧ Below w.heap.size w w' := by
  rcases Nat.eq_zero_or_pos k with rfl | h
  · exact grow_none_r w
  · exact grow_some k w h hb
set_option maxHeartbeats 4000000 in
theorem concat_any (a : Option Addr) (len cap : Nat) (ts : List (List Int)) (w : World) (hT : TextsAt w a len cap ts) (hbnd : sumLen ts ≤ 140737488355328) :
    Calls Tryz.prog 74 #[.slice a len cap] w fun e w' => ∃ v, e = .returned v ∧ Below w.heap.size w w' ∧ TextV ts.flatten v w' := by
  have hlen : ts.length = len := hT.length
  have hcp := hT.le
  have hmx := hT.max
  have HT := hid hT
  clear hT
  obtain ⟨i0, hi, hz0, hz1, hz2⟩ := info_parts info_byte
  go_enter Tryz.func74, Tryz.ntmps74
  go_wp2_with fail
  go_loopw [3, 11] (fun sv iv wr => ∃ k : Nat, k ≤ len ∧ iv = .int .i64 k ∧ sv = .int .i64 (sumLen (ts.take k) : Nat) ∧ w = wr) (fun _ i _ => len - (intOf i).toNat)
  case atStart => exact ⟨0, by omega, rfl, by simp [sumLen], rfl⟩
  case round =>
    obtain ⟨k, hk, rfl, rfl, rfl⟩ := hrel
    by_cases hlt : k < len
    · obtain ⟨r, off, a', l', c', rfl, hrl, hc, hTk⟩ := HT.out.at_ k hlt
      have e1 := sumLen_take ts k (by omega)
      have e2 := sumLen_le ts (k + 1)
      have e4 := hTk.length
      rw [e4] at e1
      have hc0 : (k : Int) < len := by omega
      have Hnext := hid (show ((sumLen (ts.take (k + 1)) : Nat) : Int) = (sumLen (ts.take k) : Nat) + (l' : Nat) by omega)
      have hnn : ¬ ((sumLen (ts.take k) : Nat) : Int) + (l' : Nat) < 0 := by omega
      have hwr : wrap64 (((sumLen (ts.take k) : Nat) : Int) + (l' : Nat)) = ((sumLen (ts.take k) : Nat) : Int) + (l' : Nat) := by unfold wrap64; omega
      clear e1 e2 e4 hTk
      generalize sumLen (ts.take k) = sk at *
      go_wp2_with fail
      exact ⟨⟨k + 1, by omega, by go_num, by rw [Hnext.out, hwr], by first | rfl | trivial⟩, by simp [intOf]; omega⟩
    · have hkl : k = len := by omega
      have hft : ts.take k = ts := List.take_of_length_le (by omega)
      rw [hft]
      have hc0 : ¬ (k : Int) < len := by omega
      go_wp2_with fail
      refine (grow_any (sumLen ts) _ hbnd).mono ?_
      rintro e w1 ⟨v1, rfl, own1, bel1⟩
      have HO1 := hid own1
      have HB1 := hid bel1
      clear own1 bel1
      go_wp2_with fail
      go_loopw [6, 27] (fun v i wr => ∃ k : Nat, k ≤ len ∧ i = .int .i64 k ∧ OwnB wr w.heap.size 5 v (ts.take k).flatten ∧ Below w.heap.size w wr) (fun _ i _ => len - (intOf i).toNat)
      case atStart => exact ⟨0, by omega, rfl, by simpa using HO1.out, HB1.out⟩
      case round =>
        obtain ⟨k, hk, rfl, hown, bel⟩ := hrel
        have Hown := hid hown
        have Hbel := hid bel
        have hsz := bel.size
        clear hown bel
        by_cases hlt : k < len
        · obtain ⟨r, off, a', l', c', rfl, hrl, hc, hTk⟩ := HT.out.at_ k hlt
          have hcw : wr.cell? ⟨r, off + k, none⟩ = some (.slice a' l' c') := (Hbel.out.cell (p := ⟨r, off + k, none⟩) hrl).trans hc
          have hTw := hid (hTk.below Hbel.out)
          have HF := hid (flatten_take ts k (by omega))
          have hsl : (ts.take k).flatten.length + l' ≤ 140737488355328 := by
            have e1 := sumLen_take ts k (by omega)
            have e2 := sumLen_le ts (k + 1)
            have e3 := flatten_length (ts.take k)
            have e4 := hTk.length
            omega
          have Hsl := hid hsl
          have hc0 : (k : Int) < len := by omega
          clear hTk hc hsl
          generalize ts.getD k [] = tk at *
          go_wp2_with (at_builtin; refine wpList_append_text rfl _ _ rfl Tryz.underlying37 hi hz0 hz1 hz2 rfl Hown.out rfl hTw.out ?c1 ?c2 ?_)
          case c1 => exact Hsl.out
          case c2 => exact hsz
          intro v4 w4 own4 g4 b4
          rw [← HF.out] at own4
          have H4 := hid (And.intro own4 (Hbel.out.trans b4))
          clear own4 g4 b4 hTw Hown
          go_wp2_with fail
          exact ⟨⟨k + 1, by omega, by go_num, H4.out.1, H4.out.2⟩, by simp [intOf]; omega⟩
        · have hkl : k = len := by omega
          have hft : (ts.take k).flatten = ts.flatten := by rw [List.take_of_length_le (by omega)]
          rw [hft] at Hown
          have hc0 : ¬ (k : Int) < len := by omega
          go_wp2_with fail
          go_returns
          exact ⟨_, rfl, Hbel.out, TextV.of_own Hown.out⟩
end Go.Proofs.YtkakoiaahgchmaaGreatDoor
namespace Go.Proofs.YtkakoiaahgchmaaGreatDoor
set_option maxRecDepth 100000
open Go.ChangeShapes Go.WideShapes Go.ChangeAt Go.RowKit
theorem size_head : (Tryz.prog.info? 29).map (·.size) = some 66 := by kernel_rfl
theorem pubC_troot {L V : Int} {root pub : List Int} {w : World} {b : Nat} {T : TypeId} (h1 : Dg root) (k : Blk w b (pubC L V root pub).toArray T) : TextAt w (some ⟨b, 2, none⟩) 32 32 root :=
  TextAt.of_blk k h1.len (Nat.le_refl _) (by omega) h1.small (fun j hj => by
    have := pubC_root k j (.int .u8 (root.getD j 0)) (by rw [List.getElem?_map, List.getElem?_eq_getElem (by rw [h1.len]; exact hj)]; simp [List.getD_eq_getElem?_getD, List.getElem?_eq_getElem (show j < root.length by rw [h1.len]; exact hj)])
    rw [← k.cell]
    exact this)
theorem pubC_tpub {L V : Int} {root pub : List Int} {w : World} {b : Nat} {T : TypeId} (h1 : Dg root) (h2 : Dg pub) (k : Blk w b (pubC L V root pub).toArray T) : TextAt w (some ⟨b, 34, none⟩) 32 32 pub :=
  TextAt.of_blk k h2.len (Nat.le_refl _) (by omega) h2.small (fun j hj => by
    have := pubC_pub h1 k j (.int .u8 (pub.getD j 0)) (by rw [List.getElem?_map, List.getElem?_eq_getElem (by rw [h2.len]; exact hj)]; simp [List.getD_eq_getElem?_getD, List.getElem?_eq_getElem (show j < pub.length by rw [h2.len]; exact hj)])
    rw [← k.cell]
    exact this)
/-- a number as one of 64 bits -/
def uZ (n : Int) : Int := n % 18446744073709551616
theorem uZ_in (n : Int) : 0 ≤ uZ n ∧ uZ n < 18446744073709551616 := by unfold uZ; omega
def headZ (k e : Int) (t l : List Int) : List Int := [1] ++ (be 8 (uZ k) ++ (be 8 (uZ e) ++ (t ++ l)))
def epochZ (e : Int) (t : List Int) : List Int := be 8 (uZ e) ++ t
def keyZ (k L V : Int) (r p : List Int) : List Int := [2] ++ (be 8 (uZ k) ++ (be 8 (uZ L) ++ (be 8 (uZ V) ++ (r ++ p))))
set_option maxHeartbeats 4000000 in
theorem wnumber_any (n : Int) (w : World) (_hn : -9223372036854775808 ≤ n ∧ n < 9223372036854775808) :
    Calls Tryz.prog 75 #[.int .i64 n] w fun e w' => ∃ v, e = .returned v ∧ Below w.heap.size w w' ∧ NumAt (uZ n) v w' := by
  have hu := uZ_in n
  have hw : IntKind.u64.wrap n = uZ n := by unfold uZ; rfl
  have CN := hid (fun W : World => number_any (uZ n) 8 8 W hu.1 hu.2 (by decide))
  have hu2 : n % 18446744073709551616 = uZ n := rfl
  go_enter Tryz.func75, Tryz.ntmps75
  go_wp2_with fail
  refine (CN.out _).mono ?_
  rintro e w1 ⟨g, hg, rfl, b1, k1⟩
  have H := hid (And.intro b1 k1)
  clear b1 k1
  go_wp2_with fail
  go_ret
  exact ⟨_, rfl, H.out.1, g, rfl, H.out.2⟩
set_option maxHeartbeats 4000000 in
theorem headtext_any (k q : Int) (t l : List Int) (w : World) (hk : -9223372036854775808 ≤ k ∧ k < 9223372036854775808) (hq : -9223372036854775808 ≤ q ∧ q < 9223372036854775808) (htd : Dg t) (hld : Dg l) :
    Calls Tryz.prog 32 #[.agg (pubC k q t l).toArray] w fun e w' => ∃ v, e = .returned v ∧ Below w.heap.size w w' ∧ TextV (headZ k q t l) v w' := by
  have Hk := hid hk
  have Hq := hid hq
  have Htd := hid htd
  have Hld := hid hld
  have b1 := (Below.refl w.heap.size w).alloc (Nat.le_refl _) (.cells (pubC k q t l).toArray 29 (0, 0))
  have Kp := hid (Blk.new (w := w) (n := w.heap.size) rfl (pubC k q t l).toArray 29)
  have Hb := hid b1
  have hbz := b1.size
  have Hbs := hid (show w.heap.size + 1 = (w.alloc (.cells (pubC k q t l).toArray 29 (0, 0))).heap.size by simp only [World.size_alloc])
  clear b1 
  go_enter Tryz.func32, Tryz.ntmps32
  go_wp2_with fail
  refine wp_region_flow 13 [1, 2, 4, 5, 7, 8, 9, 10] [0] [(.c 3, [], []), (.c 6, [], []), (.b 0, [], [11]), (.b 11, [], []), (.c 12, [], [])] (by kernel_rfl) (by kernel_rfl) ?_
  apply Exists.intro
  refine ⟨fun w0 hb0 hF0 => ?_, ?_⟩
  · skip
    have y0 : ∀ w', (∃ x : Ext w0, w' = x.at_) → w'.cell? ⟨w.heap.size, 0, none⟩ = some (.int .i64 k) := fun w' ⟨x, hx⟩ => by rw [hx, ((Kp.out.below hb0).below x.same).cell]; rfl
    have y1 : ∀ w', (∃ x : Ext w0, w' = x.at_) → w'.cell? ⟨w.heap.size, 1, none⟩ = some (.int .i64 q) := fun w' ⟨x, hx⟩ => by rw [hx, ((Kp.out.below hb0).below x.same).cell]; rfl
    simp only [pick, List.getElem?_toArray, List.getElem?_cons_succ, List.getElem?_cons_zero, Option.toList_some, List.cons_append, List.nil_append]
    repeat (first | (go_big_quiet_want; refine quiet_load_one 3 _ rfl ⟨w.heap.size, 0, none⟩ rfl _ y0 _ Tryz.underlying3 rfl ?_; go_big_quiet_on; simp only [Act.put, List.setIfInBounds_toArray, List.set_cons_zero, List.set_cons_succ]) | (go_big_quiet_want; refine quiet_load_one 3 _ rfl ⟨w.heap.size, 1, none⟩ rfl _ y1 _ Tryz.underlying3 rfl ?_; go_big_quiet_on; simp only [Act.put, List.setIfInBounds_toArray, List.set_cons_zero, List.set_cons_succ]) | go_big_quiet_step (fail))
    exact wpQuiet_nil rfl
  refine AlChk.one rfl (fun b => .slice (some ⟨b, 0, none⟩) 1 1) (.cells #[.int .u8 1] 5 (0, 0)) rfl (fun w2 hb2 hF2 => by go_simp) ?_
  refine AlChk.nil ?_
  refine Walk.call rfl 75 #[.int .i64 k] (NumAt (uZ k)) (fun v w' w'' h k => h.below k) rfl (fun w1 hb1 hF1 => ⟨by go_simp, wnumber_any k w1 Hk.out⟩) ?_
  rintro vn0 w1 hb1 hF1 ⟨g0, rfl, _⟩
  apply Exists.intro
  refine ⟨fun w2 hb2 hF2 => wpQuiet_nil rfl, ?_⟩
  refine AlChk.nil ?_
  refine Walk.call rfl 75 #[.int .i64 q] (NumAt (uZ q)) (fun v w' w'' h k => h.below k) rfl (fun w1 hb1 hF1 => ⟨by go_simp, wnumber_any q w1 Hq.out⟩) ?_
  rintro vn1 w1 hb1 hF1 ⟨g1, rfl, _⟩
  apply Exists.intro
  refine ⟨fun w2 hb2 hF2 => wpQuiet_nil rfl, ?_⟩
  refine AlChk.nil ?_
  refine Walk.blk rfl (fun b => .slice (some ⟨b, 0, none⟩) 1 1) (.cells #[.int .u8 1] 5 (0, 0)) (by simp) ?_
  intro b1 w2 hb2 hF2 hge1 _
  apply Exists.intro
  refine ⟨fun w2 hb2 hF2 => wpQuiet_nil rfl, ?_⟩
  refine AlChk.one rfl (fun b => .slice (some ⟨b, 0, none⟩) 5 5) (.cells #[.slice (some ⟨b1, 0, none⟩) 1 1, .slice (some ⟨g0, 0, none⟩) 8 8, .slice (some ⟨g1, 0, none⟩) 8 8, .slice (some ⟨w.heap.size, 2, none⟩) 32 32, .slice (some ⟨w.heap.size, 34, none⟩) 32 32] 37 (0, 0)) rfl (fun w2 hb2 hF2 => by go_simp) ?_
  refine AlChk.nil ?_
  refine Walk.blk rfl (fun b => .slice (some ⟨b, 0, none⟩) 5 5) (.cells #[.slice (some ⟨b1, 0, none⟩) 1 1, .slice (some ⟨g0, 0, none⟩) 8 8, .slice (some ⟨g1, 0, none⟩) 8 8, .slice (some ⟨w.heap.size, 2, none⟩) 32 32, .slice (some ⟨w.heap.size, 34, none⟩) 32 32] 37 (0, 0)) (by simp) ?_
  intro b9 w2 hb2 hF2 hge9 _
  apply Exists.intro
  refine ⟨fun w3 hb3 hF3 => wpQuiet_nil rfl, ?_⟩
  refine AlChk.nil ?_
  refine Walk.call rfl 74 #[.slice (some ⟨b9, 0, none⟩) 5 5] (TextV (headZ k q t l)) (fun v w' w'' h k => h.below k) rfl (fun w1 hb1 hF1 => ⟨by go_simp, ?_⟩) ?_
  · have k9 : Blk w1 b9 #[.slice (some ⟨b1, 0, none⟩) 1 1, .slice (some ⟨g0, 0, none⟩) 8 8, .slice (some ⟨g1, 0, none⟩) 8 8, .slice (some ⟨w.heap.size, 2, none⟩) 32 32, .slice (some ⟨w.heap.size, 34, none⟩) 32 32] 37 := hF1.2
    have k1 : Blk w1 b1 (([1] : List Int).map (Value.int .u8)).toArray 5 := hF1.1.2
    have n1 := hF1.1.1.2
    have n0 := hF1.1.1.1.2
    have hs := concat_any (some ⟨b9, 0, none⟩) 5 5 [[1], be 8 (uZ k), be 8 (uZ q), t, l] w1 (TextsAt.of_blk k9 rfl (Nat.le_refl _) (by omega) fun j hj => by
      match j, hj with
      | 0, _ => exact ⟨_, _, _, rfl, TextAt.of_ints k1 rfl (by omega) (by simp)⟩
      | 1, _ => exact ⟨_, _, _, rfl, n0.text⟩
      | 2, _ => exact ⟨_, _, _, rfl, n1.text⟩
      | 3, _ => exact ⟨_, _, _, rfl, pubC_troot Htd.out ((Kp.out).below hb1)⟩
      | 4, _ => exact ⟨_, _, _, rfl, pubC_tpub Htd.out Hld.out ((Kp.out).below hb1)⟩) (by simp only [sumLen, List.map_cons, List.map_nil, List.sum_cons, List.sum_nil, be_length, Htd.out.len, Hld.out.len, List.length_cons, List.length_nil]; omega)
    rw [show ([[1], be 8 (uZ k), be 8 (uZ q), t, l] : List (List Int)).flatten = (headZ k q t l) by unfold headZ; simp] at hs
    exact hs
  rintro vr w1 hb1 hF1 ⟨fa, fn, fc, rfl, _⟩
  apply Exists.intro
  refine ⟨fun w3 hb3 hF3 => wpQuiet_nil rfl, ?_⟩
  refine AlChk.nil ?_
  refine Walk.fin fun w4 h4 hF4 _ => ?_
  simp only [List.drop_succ_cons, List.drop_zero]
  have HF := hid (show TextV (headZ k q t l) (.slice fa fn fc) w4 from hF4.2)
  have HBw4 := hid (Below.on Hb.out h4)
  have hsw4 := HBw4.out.size
  have Kpw4 := hid (Kp.out.below h4)
  clear h4 hF4
  go_wp2_with fail
  go_ret
  exact ⟨_, rfl, HBw4.out, HF.out⟩
set_option maxHeartbeats 4000000 in
theorem keytext_any (k L V : Int) (r p : List Int) (w : World) (hk : -9223372036854775808 ≤ k ∧ k < 9223372036854775808) (hL : -9223372036854775808 ≤ L ∧ L < 9223372036854775808) (hV : -9223372036854775808 ≤ V ∧ V < 9223372036854775808) (hrd : Dg r) (hpd : Dg p) :
    Calls Tryz.prog 33 #[.int .i64 k, .agg (pubC L V r p).toArray] w fun e w' => ∃ v, e = .returned v ∧ Below w.heap.size w w' ∧ TextV (keyZ k L V r p) v w' := by
  have Hk := hid hk
  have HL := hid hL
  have HV := hid hV
  have Hrd := hid hrd
  have Hpd := hid hpd
  have b1 := (Below.refl w.heap.size w).alloc (Nat.le_refl _) (.cells (pubC L V r p).toArray 27 (0, 0))
  have Kp := hid (Blk.new (w := w) (n := w.heap.size) rfl (pubC L V r p).toArray 27)
  have Hb := hid b1
  have hbz := b1.size
  have Hbs := hid (show w.heap.size + 1 = (w.alloc (.cells (pubC L V r p).toArray 27 (0, 0))).heap.size by simp only [World.size_alloc])
  clear b1 
  go_enter Tryz.func33, Tryz.ntmps33
  go_wp2_with fail
  refine wp_region_flow 17 [1, 3, 4, 5, 7, 8, 9, 11, 12, 13, 14] [0] [(.c 2, [], []), (.c 6, [], []), (.c 10, [], []), (.b 0, [], [15]), (.b 15, [], []), (.c 16, [], [])] (by kernel_rfl) (by kernel_rfl) ?_
  apply Exists.intro
  refine ⟨fun w0 hb0 hF0 => ?_, ?_⟩
  · skip
    have y0 : ∀ w', (∃ x : Ext w0, w' = x.at_) → w'.cell? ⟨w.heap.size, 0, none⟩ = some (.int .i64 L) := fun w' ⟨x, hx⟩ => by rw [hx, ((Kp.out.below hb0).below x.same).cell]; rfl
    have y1 : ∀ w', (∃ x : Ext w0, w' = x.at_) → w'.cell? ⟨w.heap.size, 1, none⟩ = some (.int .i64 V) := fun w' ⟨x, hx⟩ => by rw [hx, ((Kp.out.below hb0).below x.same).cell]; rfl
    simp only [pick, List.getElem?_toArray, List.getElem?_cons_succ, List.getElem?_cons_zero, Option.toList_some, List.cons_append, List.nil_append]
    repeat (first | (go_big_quiet_want; refine quiet_load_one 3 _ rfl ⟨w.heap.size, 0, none⟩ rfl _ y0 _ Tryz.underlying3 rfl ?_; go_big_quiet_on; simp only [Act.put, List.setIfInBounds_toArray, List.set_cons_zero, List.set_cons_succ]) | (go_big_quiet_want; refine quiet_load_one 3 _ rfl ⟨w.heap.size, 1, none⟩ rfl _ y1 _ Tryz.underlying3 rfl ?_; go_big_quiet_on; simp only [Act.put, List.setIfInBounds_toArray, List.set_cons_zero, List.set_cons_succ]) | go_big_quiet_step (fail))
    exact wpQuiet_nil rfl
  refine AlChk.one rfl (fun b => .slice (some ⟨b, 0, none⟩) 1 1) (.cells #[.int .u8 2] 5 (0, 0)) rfl (fun w2 hb2 hF2 => by go_simp) ?_
  refine AlChk.nil ?_
  refine Walk.call rfl 75 #[.int .i64 k] (NumAt (uZ k)) (fun v w' w'' h k => h.below k) rfl (fun w1 hb1 hF1 => ⟨by go_simp, wnumber_any k w1 Hk.out⟩) ?_
  rintro vn0 w1 hb1 hF1 ⟨g0, rfl, _⟩
  apply Exists.intro
  refine ⟨fun w2 hb2 hF2 => wpQuiet_nil rfl, ?_⟩
  refine AlChk.nil ?_
  refine Walk.call rfl 75 #[.int .i64 L] (NumAt (uZ L)) (fun v w' w'' h k => h.below k) rfl (fun w1 hb1 hF1 => ⟨by go_simp, wnumber_any L w1 HL.out⟩) ?_
  rintro vn1 w1 hb1 hF1 ⟨g1, rfl, _⟩
  apply Exists.intro
  refine ⟨fun w2 hb2 hF2 => wpQuiet_nil rfl, ?_⟩
  refine AlChk.nil ?_
  refine Walk.call rfl 75 #[.int .i64 V] (NumAt (uZ V)) (fun v w' w'' h k => h.below k) rfl (fun w1 hb1 hF1 => ⟨by go_simp, wnumber_any V w1 HV.out⟩) ?_
  rintro vn2 w1 hb1 hF1 ⟨g2, rfl, _⟩
  apply Exists.intro
  refine ⟨fun w2 hb2 hF2 => wpQuiet_nil rfl, ?_⟩
  refine AlChk.nil ?_
  refine Walk.blk rfl (fun b => .slice (some ⟨b, 0, none⟩) 1 1) (.cells #[.int .u8 2] 5 (0, 0)) (by simp) ?_
  intro b1 w2 hb2 hF2 hge1 _
  apply Exists.intro
  refine ⟨fun w2 hb2 hF2 => wpQuiet_nil rfl, ?_⟩
  refine AlChk.one rfl (fun b => .slice (some ⟨b, 0, none⟩) 6 6) (.cells #[.slice (some ⟨b1, 0, none⟩) 1 1, .slice (some ⟨g0, 0, none⟩) 8 8, .slice (some ⟨g1, 0, none⟩) 8 8, .slice (some ⟨g2, 0, none⟩) 8 8, .slice (some ⟨w.heap.size, 2, none⟩) 32 32, .slice (some ⟨w.heap.size, 34, none⟩) 32 32] 37 (0, 0)) rfl (fun w2 hb2 hF2 => by go_simp) ?_
  refine AlChk.nil ?_
  refine Walk.blk rfl (fun b => .slice (some ⟨b, 0, none⟩) 6 6) (.cells #[.slice (some ⟨b1, 0, none⟩) 1 1, .slice (some ⟨g0, 0, none⟩) 8 8, .slice (some ⟨g1, 0, none⟩) 8 8, .slice (some ⟨g2, 0, none⟩) 8 8, .slice (some ⟨w.heap.size, 2, none⟩) 32 32, .slice (some ⟨w.heap.size, 34, none⟩) 32 32] 37 (0, 0)) (by simp) ?_
  intro b9 w2 hb2 hF2 hge9 _
  apply Exists.intro
  refine ⟨fun w3 hb3 hF3 => wpQuiet_nil rfl, ?_⟩
  refine AlChk.nil ?_
  refine Walk.call rfl 74 #[.slice (some ⟨b9, 0, none⟩) 6 6] (TextV (keyZ k L V r p)) (fun v w' w'' h k => h.below k) rfl (fun w1 hb1 hF1 => ⟨by go_simp, ?_⟩) ?_
  · have k9 : Blk w1 b9 #[.slice (some ⟨b1, 0, none⟩) 1 1, .slice (some ⟨g0, 0, none⟩) 8 8, .slice (some ⟨g1, 0, none⟩) 8 8, .slice (some ⟨g2, 0, none⟩) 8 8, .slice (some ⟨w.heap.size, 2, none⟩) 32 32, .slice (some ⟨w.heap.size, 34, none⟩) 32 32] 37 := hF1.2
    have k1 : Blk w1 b1 (([2] : List Int).map (Value.int .u8)).toArray 5 := hF1.1.2
    have n2 := hF1.1.1.2
    have n1 := hF1.1.1.1.2
    have n0 := hF1.1.1.1.1.2
    have hs := concat_any (some ⟨b9, 0, none⟩) 6 6 [[2], be 8 (uZ k), be 8 (uZ L), be 8 (uZ V), r, p] w1 (TextsAt.of_blk k9 rfl (Nat.le_refl _) (by omega) fun j hj => by
      match j, hj with
      | 0, _ => exact ⟨_, _, _, rfl, TextAt.of_ints k1 rfl (by omega) (by simp)⟩
      | 1, _ => exact ⟨_, _, _, rfl, n0.text⟩
      | 2, _ => exact ⟨_, _, _, rfl, n1.text⟩
      | 3, _ => exact ⟨_, _, _, rfl, n2.text⟩
      | 4, _ => exact ⟨_, _, _, rfl, pubC_troot Hrd.out ((Kp.out).below hb1)⟩
      | 5, _ => exact ⟨_, _, _, rfl, pubC_tpub Hrd.out Hpd.out ((Kp.out).below hb1)⟩) (by simp only [sumLen, List.map_cons, List.map_nil, List.sum_cons, List.sum_nil, be_length, Hrd.out.len, Hpd.out.len, List.length_cons, List.length_nil]; omega)
    rw [show ([[2], be 8 (uZ k), be 8 (uZ L), be 8 (uZ V), r, p] : List (List Int)).flatten = (keyZ k L V r p) by unfold keyZ; simp] at hs
    exact hs
  rintro vr w1 hb1 hF1 ⟨fa, fn, fc, rfl, _⟩
  apply Exists.intro
  refine ⟨fun w3 hb3 hF3 => wpQuiet_nil rfl, ?_⟩
  refine AlChk.nil ?_
  refine Walk.fin fun w4 h4 hF4 _ => ?_
  simp only [List.drop_succ_cons, List.drop_zero]
  have HF := hid (show TextV (keyZ k L V r p) (.slice fa fn fc) w4 from hF4.2)
  have HBw4 := hid (Below.on Hb.out h4)
  have hsw4 := HBw4.out.size
  have Kpw4 := hid (Kp.out.below h4)
  clear h4 hF4
  go_wp2_with fail
  go_ret
  exact ⟨_, rfl, HBw4.out, HF.out⟩
end Go.Proofs.YtkakoiaahgchmaaGreatDoor
namespace Go.Proofs.YtkakoiaahgchmaaGreatDoor
set_option maxRecDepth 100000
open Go.ChangeShapes Go.WideShapes Go.ChangeAt Go.RowKit
section
variable {P : Program} {ops : Array Oper} {rest : List Oper} {op : Oper} {a : Act} {w : World} {Q : Exit → Act → World → Prop} {t e : TypeId}
end
theorem FlowB.Typed.blk {B b : Nat} {T U : TypeId} {w w' : World} {cs : Array Value} (h : FlowB.Typed B T w w') (k : Blk w b cs U) (hne : U ≠ T) : Blk w' b cs U := by
  have hlt := k.lt
  unfold Blk at k ⊢
  rw [h.block b hlt (.inr fun cs' fr' e => by
    rw [k] at e
    injection e with e
    injection e with _ e _
    exact hne e)]
  exact k
theorem FlowB.Typed.trans {B : Nat} {T : TypeId} {a b c : World} (h : FlowB.Typed B T a b) (k : FlowB.Typed B T b c) : FlowB.Typed B T a c := (FlowB.rel_typed B T).trans h k
theorem FlowB.Typed.of_below {B : Nat} {T : TypeId} {a b : World} (h : Below a.heap.size a b) : FlowB.Typed B T a b := (FlowB.rel_typed B T).of h
def eightZ (ns : List Int) : List Int := (ns.map fun x => be 8 (uZ x)).flatten
theorem eightZ_length (ns : List Int) : (eightZ ns).length = ns.length * 8 := by
  unfold eightZ
  induction ns with
  | nil => rfl
  | cons x ns ih => rw [List.map_cons, List.flatten_cons, List.length_append, ih, be_length, List.length_cons]; omega
theorem eightZ_take (ns : List Int) (k : Nat) (h : k < ns.length) : eightZ (ns.take (k + 1)) = eightZ (ns.take k) ++ be 8 (uZ (ns.getD k 0)) := by
  unfold eightZ
  rw [List.take_succ_eq_append_getElem h, List.map_append, List.flatten_append, show ns.getD k 0 = ns[k] by simp [h]]
  simp
theorem digs_take (ds : List (List Int)) (k : Nat) (h : k < ds.length) : (ds.take (k + 1)).flatten = (ds.take k).flatten ++ ds.getD k [] := flatten_take ds k h
theorem Blk.dig_text {w : World} {g : Nat} {ds : List (List Int)} {T : TypeId} (h : Blk w g (dcs ds) T) (hd : ∀ d ∈ ds, Dg d) {j : Nat} (hj : j < ds.length) : TextAt w (some ⟨g, j * 32, none⟩) 32 32 (ds.getD j []) := by
  have hx := Dg.getD hd hj
  refine TextAt.of_blk h hx.len (Nat.le_refl _) (by omega) hx.small (fun k hk => ?_)
  have hg : (ds.getD j [])[k]? = some ((ds.getD j []).getD k 0) := by
    rw [List.getD_eq_getElem?_getD (l := ds.getD j []), List.getElem?_eq_getElem (by rw [hx.len]; exact hk)]
    rfl
  have := h.digs hd j hj k (.int .u8 ((ds.getD j []).getD k 0)) (by rw [List.getElem?_map, hg]; rfl)
  rw [← h.cell]
  exact this
set_option maxHeartbeats 4000000 in
theorem eight_any (B : Nat) (v : Value) (bs : List Int) (g n : Nat) (ns : List Int) (w : World) (hv : OwnB w B 5 v bs) (hB : B ≤ w.heap.size) (hl : Blk w g (ns.map (Value.int .i64)).toArray 3) (hn : ns.length = n) (hn9 : n ≤ 9) (hns : ∀ x ∈ ns, -9223372036854775808 ≤ x ∧ x < 9223372036854775808) (hb : bs.length ≤ 1000) :
    Calls Tryz.prog 29 #[v, .slice (some ⟨g, 0, none⟩) n n] w fun e w' => ∃ v', e = .returned v' ∧ FlowB.Typed B 5 w w' ∧ OwnB w' B 5 v' (bs ++ eightZ ns) := by
  obtain ⟨i0, hi, hz0, hz1, hz2⟩ := info_parts info_byte
  have HO0 := hid hv
  have HL := hid hl
  have HT0 := hid (FlowB.Typed.of_below (B := B) (T := 5) (Below.refl w.heap.size w))
  clear hv hl
  go_enter Tryz.func29, Tryz.ntmps29
  go_wp2_with fail
  go_loopw [0, 5] (fun bv iv wr => ∃ k : Nat, k ≤ n ∧ iv = .int .i64 k ∧ OwnB wr B 5 bv (bs ++ eightZ (ns.take k)) ∧ FlowB.Typed B 5 w wr ∧ B ≤ wr.heap.size) (fun _ iv _ => n - (intOf iv).toNat)
  case atStart => exact ⟨0, Nat.zero_le _, rfl, by simpa [eightZ] using HO0.out, HT0.out, hB⟩
  case round =>
    obtain ⟨k, hk, rfl, ho, ht, hsz⟩ := hrel
    have HO := hid ho
    have HTy := hid ht
    clear ho ht
    by_cases hlt : k < n
    · have hc0 : (k : Int) < n := by omega
      have hkl : k < ns.length := by omega
      have hxr := hns (ns.getD k 0) (by rw [List.getD_eq_getElem?_getD, List.getElem?_eq_getElem hkl]; exact List.getElem_mem hkl)
      have hcell : wr.cell? ⟨g, k, none⟩ = some (.int .i64 (ns.getD k 0)) := by
        rw [(HTy.out.blk HL.out (by decide)).cell, List.getElem?_toArray, List.getElem?_map, List.getElem?_eq_getElem hkl]
        simp [List.getD_eq_getElem?_getD, List.getElem?_eq_getElem hkl]
      have HF := hid (eightZ_take ns k hkl)
      have HLn := hid (eightZ_length (ns.take k))
      have Hkm := hid (show (ns.take k).length = k from by rw [List.length_take]; omega)
      generalize ns.getD k 0 = x at *
      have hu := uZ_in x
      have hu2 : x % 18446744073709551616 = uZ x := rfl
      have CN := hid (fun W : World => refnumber_own (uZ x) 8 8 W hu.1 hu.2 rfl (by omega))
      have hcell0 : wr.cell? ⟨g, 0 + k, none⟩ = some (.int .i64 x) := by rw [Nat.zero_add]; exact hcell
      go_wp2_with fail
      refine (CN.out _).mono ?_
      rintro e w1 ⟨v2, rfl, b1, o2⟩
      obtain ⟨ta, tc, rfl, hT2, _⟩ := o2.text
      rw [be_length] at hT2 ⊢
      have HT2 := hid hT2
      have HO1 := hid (HO.out.below b1)
      have HTy1 := hid (HTy.out.trans (FlowB.Typed.of_below b1))
      have hsz1 : B ≤ w1.heap.size := Nat.le_trans hsz b1.size
      clear b1 o2 hT2
      go_wp2_with (at_builtin; refine wpList_append_text rfl _ _ rfl Tryz.underlying37 hi hz0 hz1 hz2 rfl HO1.out rfl HT2.out (by rw [List.length_append, HLn.out, Hkm.out]; omega) hsz1 ?_)
      intro v4 w4 own4 g4 b4
      rw [← HF.out] at own4
      have H4 := hid own4
      have H5 := hid (HTy1.out.trans (HO1.out.typed (Nat.le_refl _) g4))
      have hsz4 := Nat.le_trans hsz1 b4.size
      clear own4 g4 b4
      go_wp2_with fail
      exact ⟨⟨k + 1, by omega, by go_num, H4.out, H5.out, hsz4⟩, by simp [intOf]; omega⟩
    · have hkn : k = n := by omega
      have hft : ns.take k = ns := List.take_of_length_le (by omega)
      rw [hft] at HO
      have hc0 : ¬ (k : Int) < n := by omega
      go_wp2_with fail
      go_returns
      exact ⟨_, rfl, HTy.out, HO.out⟩
set_option maxHeartbeats 4000000 in
theorem all_any (B : Nat) (v : Value) (bs : List Int) (g n : Nat) (ds : List (List Int)) (w : World) (hv : OwnB w B 5 v bs) (hB : B ≤ w.heap.size) (hl : Blk w g (dcs ds) 25) (hd : ∀ d ∈ ds, Dg d) (hn : ds.length = n) (hn9 : n ≤ 1000000) (hb : bs.length ≤ 1000000000) :
    Calls Tryz.prog 28 #[v, .slice (some ⟨g, 0, none⟩) n n] w fun e w' => ∃ v', e = .returned v' ∧ FlowB.Typed B 5 w w' ∧ OwnB w' B 5 v' (bs ++ ds.flatten) := by
  obtain ⟨i0, hi, hz0, hz1, hz2⟩ := info_parts info_byte
  have HO0 := hid hv
  have HL := hid hl
  have HT0 := hid (FlowB.Typed.of_below (B := B) (T := 5) (Below.refl w.heap.size w))
  clear hv hl
  go_enter Tryz.func28, Tryz.ntmps28
  go_wp2_with fail
  go_loopw [0, 5] (fun bv iv wr => ∃ k : Nat, k ≤ n ∧ iv = .int .i64 k ∧ OwnB wr B 5 bv (bs ++ (ds.take k).flatten) ∧ FlowB.Typed B 5 w wr ∧ B ≤ wr.heap.size) (fun _ iv _ => n - (intOf iv).toNat)
  case atStart => exact ⟨0, Nat.zero_le _, rfl, by simpa using HO0.out, HT0.out, hB⟩
  case round =>
    obtain ⟨k, hk, rfl, ho, ht, hsz⟩ := hrel
    have HO := hid ho
    have HTy := hid ht
    clear ho ht
    by_cases hlt : k < n
    · have hc0 : (k : Int) < n := by omega
      have hkl : k < ds.length := by omega
      have HT2 := hid ((HTy.out.blk HL.out (by decide)).dig_text hd hkl)
      have HF := hid (digs_take ds k hkl)
      have HLn := hid (flat_length (ds := ds.take k) (fun d h => (hd d (List.mem_of_mem_take h)).len))
      have Hkm := hid (show (ds.take k).length = k from by rw [List.length_take]; omega)
      generalize ds.getD k [] = x at *
      go_wp2_with (first
        | (refine wpList_index_s 32 (by first | rfl | go_simp) 33 _ _ rfl Tryz.underlying33 size_digest g 0 n n rfl _ _ rfl k (by omega) (by omega) ?_)
        | (at_builtin; refine wpList_append_text rfl _ _ rfl Tryz.underlying37 hi hz0 hz1 hz2 rfl HO.out rfl HT2.out (by rw [List.length_append, HLn.out, Hkm.out]; omega) hsz ?_))
      intro v4 w4 own4 g4 b4
      rw [← HF.out] at own4
      have H4 := hid own4
      have H5 := hid (HTy.out.trans (HO.out.typed (Nat.le_refl _) g4))
      have hsz4 := Nat.le_trans hsz b4.size
      clear own4 g4 b4
      go_wp2_with fail
      exact ⟨⟨k + 1, by omega, by go_num, H4.out, H5.out, hsz4⟩, by simp [intOf]; omega⟩
    · have hkn : k = n := by omega
      have hft : ds.take k = ds := List.take_of_length_le (by omega)
      rw [hft] at HO
      have hc0 : ¬ (k : Int) < n := by omega
      go_wp2_with fail
      go_returns
      exact ⟨_, rfl, HTy.out, HO.out⟩
theorem Below.trans0 {B B' : Nat} {a b c : World} (k : Below B b c) (h : Below B' a b) (hB : B' ≤ B) : Below B' a c := h.trans (k.mono hB)
theorem run_build_two {x y : List Int} (hx : Dg x) (hy : Dg y) (w : World) : (Instr.buildSlice 33 2 #[(0, .agg (x.map (Value.int .u8)).toArray), (1, .agg (y.map (Value.int .u8)).toArray)]).run Tryz.prog w = .ok (.slice (some ⟨w.heap.size, 0, none⟩) 2 2) (w.alloc (.cells (dcs [x, y]) 25 (0, 0))) :=
  run_build_digs 2 [(0, .agg (x.map (Value.int .u8)).toArray), (1, .agg (y.map (Value.int .u8)).toArray)] [x, y] (by omega) (by omega) (by
    have h1 : ∀ d ∈ [x, zD], Dg d := by simp [hx, Dg.zero]
    rw [fill_dig _ (List.replicate 2 zD) rfl (zRow 2) x hx 0 (by simp), show (List.replicate 2 zD).set 0 x = [x, zD] from rfl]
    rw [fill_dig _ [x, zD] rfl h1 y hy 1 (by simp), show [x, zD].set 1 y = [x, y] from rfl, Instr.fill]) w
theorem exec_run_build_two {o : Oper} {A : Act} {w : World} {e f : Operand} (ho : o.op = .buildSlice 33 2 #[(0, e), (1, f)]) {x y : List Int} (he : A.eval e = .agg (x.map (Value.int .u8)).toArray) (hf : A.eval f = .agg (y.map (Value.int .u8)).toArray) (hx : Dg x) (hy : Dg y) :
    (execOp A.eval o).run Tryz.prog w = .ok (.value (.slice (some ⟨w.heap.size, 0, none⟩) 2 2)) (w.alloc (.cells (dcs [x, y]) 25 (0, 0))) := by
  unfold execOp
  simp only [ho, List.map_toArray, List.map_cons, List.map_nil, he, hf, Sem.run_bind, run_build_two hx hy, Result.andThen_ok, Sem.run_pure]
set_option maxHeartbeats 4000000 in
theorem refheadtext_any (k q : Int) (t l : List Int) (w : World) (hk : -9223372036854775808 ≤ k ∧ k < 9223372036854775808) (hq : -9223372036854775808 ≤ q ∧ q < 9223372036854775808) (htd : Dg t) (hld : Dg l) :
    Calls Tryz.prog 8 #[.int .i64 k, .int .i64 q, .agg (t.map (Value.int .u8)).toArray, .agg (l.map (Value.int .u8)).toArray] w fun e w' => ∃ v, e = .returned v ∧ Below w.heap.size w w' ∧ TextV (headZ k q t l) v w' := by
  have Hk := hid hk
  have Hq := hid hq
  have Htd := hid htd
  have Hld := hid hld
  have b1 := (Below.refl w.heap.size w).alloc (Nat.le_refl _) (.cells (t.map (Value.int .u8)).toArray 25 (0, 0))
  have b2 := b1.alloc b1.size (.cells (l.map (Value.int .u8)).toArray 25 (0, 0))
  have Kt := hid ((Blk.new (w := w) (n := w.heap.size) rfl (t.map (Value.int .u8)).toArray 25).old (.cells (l.map (Value.int .u8)).toArray 25 (0, 0)))
  have Kl := hid (Blk.new (w := (w.alloc (.cells (t.map (Value.int .u8)).toArray 25 (0, 0)))) (n := w.heap.size + 1) (by simp only [World.size_alloc]) (l.map (Value.int .u8)).toArray 25)
  have Hb := hid b2
  have hbz := b2.size
  have Hbs := hid (show w.heap.size + 1 + 1 = ((w.alloc (.cells (t.map (Value.int .u8)).toArray 25 (0, 0))).alloc (.cells (l.map (Value.int .u8)).toArray 25 (0, 0))).heap.size by simp only [World.size_alloc])
  clear b1 b2 
  go_enter Tryz.func8, Tryz.ntmps8
  go_wp2_with fail
  have HBB : Hid (w.heap.size + 1 + 1 ≤ ((w.alloc (.cells (t.map (Value.int .u8)).toArray 25 (0, 0))).alloc (.cells (l.map (Value.int .u8)).toArray 25 (0, 0))).heap.size) := hid (Nat.le_of_eq Hbs.out)
  obtain ⟨i0, hi, hz0, hz1, hz2⟩ := info_parts info_byte
  refine FlowB.wp_region_typed (w.heap.size + 1 + 1) 5 9 [1, 2, 5, 6] [3, 7] [(.c 0, [], []), (.b 3, [], []), (.c 4, [], []), (.b 7, [], []), (.c 8, [], [])] (by kernel_rfl) (by kernel_rfl) ?_
  apply Exists.intro
  refine ⟨fun w0 hb0 hF0 => ?_, ?_⟩
  · skip
    have x0 : ∀ w', (∃ x : Ext w0, w' = x.at_) → ∃ T, Blk w' (w.heap.size) (t.map (Value.int .u8)).toArray T := fun w' ⟨x, hx⟩ => ⟨_, hx ▸ ((hb0.blk Kt.out (by decide)).below x.same)⟩
    have x1 : ∀ w', (∃ x : Ext w0, w' = x.at_) → ∃ T, Blk w' (w.heap.size + 1) (l.map (Value.int .u8)).toArray T := fun w' ⟨x, hx⟩ => ⟨_, hx ▸ ((hb0.blk Kl.out (by decide)).below x.same)⟩
    simp only [pick, List.getElem?_toArray, List.getElem?_cons_succ, List.getElem?_cons_zero, Option.toList_some, List.cons_append, List.nil_append]
    repeat (first | (go_big_quiet_want; refine quiet_load_blk 25 _ rfl (w.heap.size) rfl _ x0 _ Tryz.underlying25 rfl 32 size_digest htd.size ?_; go_big_quiet_on; simp only [Act.put, List.setIfInBounds_toArray, List.set_cons_zero, List.set_cons_succ]) | (go_big_quiet_want; refine quiet_load_blk 25 _ rfl (w.heap.size + 1) rfl _ x1 _ Tryz.underlying25 rfl 32 size_digest hld.size ?_; go_big_quiet_on; simp only [Act.put, List.setIfInBounds_toArray, List.set_cons_zero, List.set_cons_succ]) | go_big_quiet_step (fail))
    exact wpQuiet_nil rfl
  refine FlowB.AlChk.one rfl (fun b => .slice (some ⟨b, 0, none⟩) 2 2) (.cells #[.int .i64 k, .int .i64 q] 3 (0, 0)) rfl (FlowB.st_typed _ _ _ (by decide)) (fun w2 hb2 hF2 => by go_simp) ?_
  refine FlowB.AlChk.one rfl (fun b => .slice (some ⟨b, 0, none⟩) 2 2) (.cells (dcs [t, l]) 25 (0, 0)) rfl (FlowB.st_typed _ _ _ (by decide)) (fun w2 hb2 hF2 => exec_run_build_two rfl rfl rfl Htd.out Hld.out) ?_
  refine FlowB.AlChk.nil ?_
  refine FlowB.Walk.does rfl (fun _ _ => True) (fun v w' => OwnB w' (w.heap.size + 1 + 1) 5 v [1]) (fun v w' w'' _ h _ => h) (fun v w' w'' h k => h.below k) rfl (fun w5 hb5 hF5 _ => ?_) ?_
  · exact ⟨.slice (some ⟨w5.heap.size, 0, none⟩) 1 1, w5.alloc (.cells (([1] : List Int).map (Value.int .u8)).toArray 5), by first | (go_simp; done) | (go_simp; rfl), (FlowB.rel_typed _ _).of ((Below.refl _ _).alloc (Nat.le_refl _) _), trivial, OwnB.of_blk (Blk.new rfl _ _) (Nat.le_trans HBB.out hb5.size) rfl (by omega) (by simp)⟩
  rintro vl w5 hb5 hF5 _
  apply Exists.intro
  refine ⟨fun w4 hb4 hF4 => wpQuiet_nil rfl, ?_⟩
  refine FlowB.AlChk.nil ?_
  refine FlowB.Walk.blk rfl (fun b => .slice (some ⟨b, 0, none⟩) 2 2) (.cells #[.int .i64 k, .int .i64 q] 3 (0, 0)) (by simp) ?_
  intro bi w5 hb5 hF5 hge5 _
  apply Exists.intro
  refine ⟨fun w4 hb4 hF4 => wpQuiet_nil rfl, ?_⟩
  refine FlowB.AlChk.nil ?_
  refine FlowB.Walk.call rfl 29 #[vl, .slice (some ⟨bi, 0, none⟩) 2 2] (fun _ _ => True) (fun v w' => OwnB w' (w.heap.size + 1 + 1) 5 v ([1] ++ eightZ [k, q])) (fun v w' w'' _ h _ => h) (fun v w' w'' h k => h.below k) rfl (fun w6 hb6 hF6 hG6 => ⟨by go_simp, ?_⟩) ?_
  · have kb : Blk w6 bi (([k, q] : List Int).map (Value.int .i64)).toArray 3 := hF6.2
    refine (eight_any (w.heap.size + 1 + 1) vl [1] bi 2 [k, q] w6 hG6 (Nat.le_trans HBB.out hb6.size) kb rfl (by omega) (fun x hx => by
      simp only [List.mem_cons, List.not_mem_nil, or_false] at hx
      rcases hx with rfl | rfl
      · exact Hk.out
      · exact Hq.out) (by simp)).mono ?_
    rintro e w7 ⟨v', rfl, t7, o7⟩
    exact ⟨v', rfl, t7, trivial, o7⟩
  rintro v8 w6 hb6 hF6 _
  apply Exists.intro
  refine ⟨fun w4 hb4 hF4 => wpQuiet_nil rfl, ?_⟩
  refine FlowB.AlChk.nil ?_
  refine FlowB.Walk.blk rfl (fun b => .slice (some ⟨b, 0, none⟩) 2 2) (.cells (dcs [t, l]) 25 (0, 0)) (by simp) ?_
  intro bd w7 hb7 hF7 hge7 _
  apply Exists.intro
  refine ⟨fun w4 hb4 hF4 => wpQuiet_nil rfl, ?_⟩
  refine FlowB.AlChk.nil ?_
  refine FlowB.Walk.call rfl 28 #[v8, .slice (some ⟨bd, 0, none⟩) 2 2] (fun _ _ => True) (fun v w' => OwnB w' (w.heap.size + 1 + 1) 5 v (headZ k q t l)) (fun v w' w'' _ h _ => h) (fun v w' w'' h k => h.below k) rfl (fun w8 hb8 hF8 hG8 => ⟨by go_simp, ?_⟩) ?_
  · have kb : Blk w8 bd (dcs [t, l]) 25 := hF8.2
    refine (all_any (w.heap.size + 1 + 1) v8 ([1] ++ eightZ [k, q]) bd 2 [t, l] w8 hG8 (Nat.le_trans HBB.out hb8.size) kb (fun d hd => by
      simp only [List.mem_cons, List.not_mem_nil, or_false] at hd
      rcases hd with rfl | rfl
      · exact Htd.out
      · exact Hld.out) rfl (by omega) (by rw [List.length_append, eightZ_length]; simp)).mono ?_
    rintro e w9 ⟨v', rfl, t9, o9⟩
    rw [show [1] ++ eightZ [k, q] ++ ([t, l] : List (List Int)).flatten = (headZ k q t l) by unfold headZ eightZ; simp] at o9
    exact ⟨v', rfl, t9, trivial, o9⟩
  rintro v9 w8 hb8 hF8 _
  apply Exists.intro
  refine ⟨fun w4 hb4 hF4 => wpQuiet_nil rfl, ?_⟩
  refine FlowB.AlChk.nil ?_
  refine FlowB.Walk.fin fun w9 h9 _ hG9 => ?_
  simp only [List.drop_succ_cons, List.drop_zero]
  have HF := hid (TextV.of_own hG9)
  have HB9 := hid (Below.trans0 (h9.below HBB.out) Hb.out (by omega))
  clear h9 hG9
  go_wp2_with fail
  go_ret
  exact ⟨_, rfl, HB9.out, HF.out⟩
set_option maxHeartbeats 4000000 in
theorem refkeytext_any (k L V : Int) (r p : List Int) (w : World) (hk : -9223372036854775808 ≤ k ∧ k < 9223372036854775808) (hL : -9223372036854775808 ≤ L ∧ L < 9223372036854775808) (hV : -9223372036854775808 ≤ V ∧ V < 9223372036854775808) (hrd : Dg r) (hpd : Dg p) :
    Calls Tryz.prog 9 #[.int .i64 k, .agg (pubC L V r p).toArray] w fun e w' => ∃ v, e = .returned v ∧ Below w.heap.size w w' ∧ TextV (keyZ k L V r p) v w' := by
  have Hk := hid hk
  have HL := hid hL
  have HV := hid hV
  have Hrd := hid hrd
  have Hpd := hid hpd
  have b1 := (Below.refl w.heap.size w).alloc (Nat.le_refl _) (.cells (pubC L V r p).toArray 27 (0, 0))
  have Kp := hid (Blk.new (w := w) (n := w.heap.size) rfl (pubC L V r p).toArray 27)
  have Hb := hid b1
  have hbz := b1.size
  have Hbs := hid (show w.heap.size + 1 = (w.alloc (.cells (pubC L V r p).toArray 27 (0, 0))).heap.size by simp only [World.size_alloc])
  clear b1 
  go_enter Tryz.func9, Tryz.ntmps9
  go_wp2_with fail
  have HBB : Hid (w.heap.size + 1 ≤ (w.alloc (.cells (pubC L V r p).toArray 27 (0, 0))).heap.size) := hid (Nat.le_of_eq Hbs.out)
  obtain ⟨i0, hi, hz0, hz1, hz2⟩ := info_parts info_byte
  refine FlowB.wp_region_typed (w.heap.size + 1) 5 16 [1, 2, 3, 4, 5, 6, 7, 10, 11, 12, 13] [8, 14] [(.c 0, [], []), (.b 8, [], []), (.c 9, [], []), (.b 14, [], []), (.c 15, [], [])] (by kernel_rfl) (by kernel_rfl) ?_
  apply Exists.intro
  refine ⟨fun w0 hb0 hF0 => ?_, ?_⟩
  · skip
    have y0 : ∀ w', (∃ x : Ext w0, w' = x.at_) → w'.cell? ⟨w.heap.size, 0, none⟩ = some (.int .i64 L) := fun w' ⟨x, hx⟩ => by rw [hx, ((hb0.blk Kp.out (by decide)).below x.same).cell]; rfl
    have y1 : ∀ w', (∃ x : Ext w0, w' = x.at_) → w'.cell? ⟨w.heap.size, 1, none⟩ = some (.int .i64 V) := fun w' ⟨x, hx⟩ => by rw [hx, ((hb0.blk Kp.out (by decide)).below x.same).cell]; rfl
    have z0 : ∀ w', (∃ x : Ext w0, w' = x.at_) → w'.rangeAt (w.heap.size) 2 (r.map (Value.int .u8)) := fun w' ⟨x, hx⟩ => hx ▸ pubC_root ((hb0.blk Kp.out (by decide)).below x.same)
    have z1 : ∀ w', (∃ x : Ext w0, w' = x.at_) → w'.rangeAt (w.heap.size) 34 (p.map (Value.int .u8)) := fun w' ⟨x, hx⟩ => hx ▸ pubC_pub hrd ((hb0.blk Kp.out (by decide)).below x.same)
    simp only [pick, List.getElem?_toArray, List.getElem?_cons_succ, List.getElem?_cons_zero, Option.toList_some, List.cons_append, List.nil_append]
    repeat (first | (go_big_quiet_want; refine quiet_load_one 3 _ rfl ⟨w.heap.size, 0, none⟩ rfl _ y0 _ Tryz.underlying3 rfl ?_; go_big_quiet_on; simp only [Act.put, List.setIfInBounds_toArray, List.set_cons_zero, List.set_cons_succ]) | (go_big_quiet_want; refine quiet_load_one 3 _ rfl ⟨w.heap.size, 1, none⟩ rfl _ y1 _ Tryz.underlying3 rfl ?_; go_big_quiet_on; simp only [Act.put, List.setIfInBounds_toArray, List.set_cons_zero, List.set_cons_succ]) | (go_big_quiet_want; refine quiet_load_mid 25 _ rfl (w.heap.size) 2 rfl _ z0 _ Tryz.underlying25 rfl (by rw [List.length_map, hrd.len]; exact size_digest) ?_; go_big_quiet_on; simp only [Act.put, List.setIfInBounds_toArray, List.set_cons_zero, List.set_cons_succ]) | (go_big_quiet_want; refine quiet_load_mid 25 _ rfl (w.heap.size) 34 rfl _ z1 _ Tryz.underlying25 rfl (by rw [List.length_map, hpd.len]; exact size_digest) ?_; go_big_quiet_on; simp only [Act.put, List.setIfInBounds_toArray, List.set_cons_zero, List.set_cons_succ]) | go_big_quiet_step (fail))
    exact wpQuiet_nil rfl
  refine FlowB.AlChk.one rfl (fun b => .slice (some ⟨b, 0, none⟩) 3 3) (.cells #[.int .i64 k, .int .i64 L, .int .i64 V] 3 (0, 0)) rfl (FlowB.st_typed _ _ _ (by decide)) (fun w2 hb2 hF2 => by go_simp) ?_
  refine FlowB.AlChk.one rfl (fun b => .slice (some ⟨b, 0, none⟩) 2 2) (.cells (dcs [r, p]) 25 (0, 0)) rfl (FlowB.st_typed _ _ _ (by decide)) (fun w2 hb2 hF2 => exec_run_build_two rfl rfl rfl Hrd.out Hpd.out) ?_
  refine FlowB.AlChk.nil ?_
  refine FlowB.Walk.does rfl (fun _ _ => True) (fun v w' => OwnB w' (w.heap.size + 1) 5 v [2]) (fun v w' w'' _ h _ => h) (fun v w' w'' h k => h.below k) rfl (fun w5 hb5 hF5 _ => ?_) ?_
  · exact ⟨.slice (some ⟨w5.heap.size, 0, none⟩) 1 1, w5.alloc (.cells (([2] : List Int).map (Value.int .u8)).toArray 5), by first | (go_simp; done) | (go_simp; rfl), (FlowB.rel_typed _ _).of ((Below.refl _ _).alloc (Nat.le_refl _) _), trivial, OwnB.of_blk (Blk.new rfl _ _) (Nat.le_trans HBB.out hb5.size) rfl (by omega) (by simp)⟩
  rintro vl w5 hb5 hF5 _
  apply Exists.intro
  refine ⟨fun w4 hb4 hF4 => wpQuiet_nil rfl, ?_⟩
  refine FlowB.AlChk.nil ?_
  refine FlowB.Walk.blk rfl (fun b => .slice (some ⟨b, 0, none⟩) 3 3) (.cells #[.int .i64 k, .int .i64 L, .int .i64 V] 3 (0, 0)) (by simp) ?_
  intro bi w5 hb5 hF5 hge5 _
  apply Exists.intro
  refine ⟨fun w4 hb4 hF4 => wpQuiet_nil rfl, ?_⟩
  refine FlowB.AlChk.nil ?_
  refine FlowB.Walk.call rfl 29 #[vl, .slice (some ⟨bi, 0, none⟩) 3 3] (fun _ _ => True) (fun v w' => OwnB w' (w.heap.size + 1) 5 v ([2] ++ eightZ [k, L, V])) (fun v w' w'' _ h _ => h) (fun v w' w'' h k => h.below k) rfl (fun w6 hb6 hF6 hG6 => ⟨by go_simp, ?_⟩) ?_
  · have kb : Blk w6 bi (([k, L, V] : List Int).map (Value.int .i64)).toArray 3 := hF6.2
    refine (eight_any (w.heap.size + 1) vl [2] bi 3 [k, L, V] w6 hG6 (Nat.le_trans HBB.out hb6.size) kb rfl (by omega) (fun x hx => by
      simp only [List.mem_cons, List.not_mem_nil, or_false] at hx
      rcases hx with rfl | rfl | rfl
      · exact Hk.out
      · exact HL.out
      · exact HV.out) (by simp)).mono ?_
    rintro e w7 ⟨v', rfl, t7, o7⟩
    exact ⟨v', rfl, t7, trivial, o7⟩
  rintro v8 w6 hb6 hF6 _
  apply Exists.intro
  refine ⟨fun w4 hb4 hF4 => wpQuiet_nil rfl, ?_⟩
  refine FlowB.AlChk.nil ?_
  refine FlowB.Walk.blk rfl (fun b => .slice (some ⟨b, 0, none⟩) 2 2) (.cells (dcs [r, p]) 25 (0, 0)) (by simp) ?_
  intro bd w7 hb7 hF7 hge7 _
  apply Exists.intro
  refine ⟨fun w4 hb4 hF4 => wpQuiet_nil rfl, ?_⟩
  refine FlowB.AlChk.nil ?_
  refine FlowB.Walk.call rfl 28 #[v8, .slice (some ⟨bd, 0, none⟩) 2 2] (fun _ _ => True) (fun v w' => OwnB w' (w.heap.size + 1) 5 v (keyZ k L V r p)) (fun v w' w'' _ h _ => h) (fun v w' w'' h k => h.below k) rfl (fun w8 hb8 hF8 hG8 => ⟨by go_simp, ?_⟩) ?_
  · have kb : Blk w8 bd (dcs [r, p]) 25 := hF8.2
    refine (all_any (w.heap.size + 1) v8 ([2] ++ eightZ [k, L, V]) bd 2 [r, p] w8 hG8 (Nat.le_trans HBB.out hb8.size) kb (fun d hd => by
      simp only [List.mem_cons, List.not_mem_nil, or_false] at hd
      rcases hd with rfl | rfl
      · exact Hrd.out
      · exact Hpd.out) rfl (by omega) (by rw [List.length_append, eightZ_length]; simp)).mono ?_
    rintro e w9 ⟨v', rfl, t9, o9⟩
    rw [show [2] ++ eightZ [k, L, V] ++ ([r, p] : List (List Int)).flatten = (keyZ k L V r p) by unfold keyZ eightZ; simp] at o9
    exact ⟨v', rfl, t9, trivial, o9⟩
  rintro v9 w8 hb8 hF8 _
  apply Exists.intro
  refine ⟨fun w4 hb4 hF4 => wpQuiet_nil rfl, ?_⟩
  refine FlowB.AlChk.nil ?_
  refine FlowB.Walk.fin fun w9 h9 _ hG9 => ?_
  simp only [List.drop_succ_cons, List.drop_zero]
  have HF := hid (TextV.of_own hG9)
  have HB9 := hid (Below.trans0 (h9.below HBB.out) Hb.out (by omega))
  clear h9 hG9
  go_wp2_with fail
  go_ret
  exact ⟨_, rfl, HB9.out, HF.out⟩
end Go.Proofs.YtkakoiaahgchmaaGreatDoor
namespace Go.Proofs.YtkakoiaahgchmaaGreatDoor
set_option maxRecDepth 100000
open Go.ChangeShapes Go.WideShapes Go.ChangeAt Go.RowKit
theorem wpList_buildv_if {P : Program} {ops : Array Oper} {rest : List Oper} {op : Oper} {a : Act} {w : World} {Q : Exit → Act → World → Prop} (hw : Region.wanted op (yielded ops a.tmps) = true) (t : TypeId) (parts : List (Nat × Operand)) (ho : op.op = .build t parts.toArray) (vs : List (Nat × Value)) (hv : (parts.map fun x => (x.1, a.eval x.2)) = vs) (v : Value) (h : ∀ w', (Instr.build t vs.toArray).run P w' = .ok v w') (hk : wpList P ops Q rest (a.put op.dst v) w) : wpList P ops Q (op :: rest) a w := by
  unfold wpList
  rw [if_pos hw]
  refine .inl ?_
  have hm : (parts.map fun (x : Nat × Operand) => match x with | (i, x) => (i, a.eval x)) = vs := hv
  unfold Oper.wp execOp
  simp only [ho, List.map_toArray, hm, Sem.run_bind, h, Result.andThen_ok, Sem.run_pure, Oper.upon_value]
  exact hk
theorem build_head0 (w : World) : (Instr.build 29 #[]).run Tryz.prog w = .ok (.agg (pubC 0 0 zD zD).toArray) w := by
  refine run_build w _ _ _ ?_
  obtain ⟨i0, hi, hz0⟩ := Option.map_eq_some_iff.1 (show (Tryz.prog.info? 29).map (·.zero) = some (some (.agg (pubC 0 0 zD zD).toArray)) by kernel_rfl)
  obtain ⟨fields, hu, hq⟩ : ∃ fields, Tryz.prog.underlying 29 = some (.struct fields) ∧ fields.toList.mapM (fun f => (Tryz.prog.info? f.type).map fun i => (f.offset, i.size)) = some [(0, 1), (1, 1), (2, 32), (34, 32)] := ⟨_, Tryz.underlying29, by kernel_rfl⟩
  have hz : (Value.agg (pubC 0 0 zD zD).toArray).cells = (pubC 0 0 zD zD).toArray := rfl
  unfold Program.built
  simp only [hi, hu, hz0, hq, hz]
  rw [Instr.fill]
theorem build_pub0 (w : World) : (Instr.build 27 #[]).run Tryz.prog w = .ok (.agg (pubC 0 0 zD zD).toArray) w := by
  refine run_build w _ _ _ ?_
  obtain ⟨i0, hi, hz0⟩ := Option.map_eq_some_iff.1 (show (Tryz.prog.info? 27).map (·.zero) = some (some (.agg (pubC 0 0 zD zD).toArray)) by kernel_rfl)
  obtain ⟨fields, hu, hq⟩ : ∃ fields, Tryz.prog.underlying 27 = some (.struct fields) ∧ fields.toList.mapM (fun f => (Tryz.prog.info? f.type).map fun i => (f.offset, i.size)) = some [(0, 2), (2, 32), (34, 32)] := ⟨_, Tryz.underlying27, by kernel_rfl⟩
  have hz : (Value.agg (pubC 0 0 zD zD).toArray).cells = (pubC 0 0 zD zD).toArray := rfl
  unfold Program.built
  simp only [hi, hu, hz0, hq, hz]
  rw [Instr.fill]
end Go.Proofs.YtkakoiaahgchmaaGreatDoor
namespace Go.Proofs.YtkakoiaahgchmaaGreatDoor
set_option maxRecDepth 100000
open Go.ChangeShapes Go.WideShapes Go.ChangeAt Go.RowKit
theorem headZ_length {k q : Int} {t l : List Int} (ht : Dg t) (hl : Dg l) : (headZ k q t l).length = 81 := by simp [headZ, be_length, ht.len, hl.len]
theorem keyZ_length {k L V : Int} {t l : List Int} (ht : Dg t) (hl : Dg l) : (keyZ k L V t l).length = 89 := by simp [keyZ, be_length, ht.len, hl.len]
set_option maxHeartbeats 4000000 in
theorem vhead_any (L V i : Int) (root pub r : List Int) (k q : Int) (t l : List Int) (pa : Option Addr) (pn pc : Nat) (ps : List Prt) (w : World) (hk : -9223372036854775808 ≤ k ∧ k < 9223372036854775808) (hq : -9223372036854775808 ≤ q ∧ q < 9223372036854775808) (htd : Dg t) (hld : Dg l) (hr : Dg r) (hroot : Dg root) (hpub : Dg pub) (hP : PartsAt w pa pn pc ps) (tab : ShaTab w) :
    Calls Tryz.prog 11 #[.agg (pubC L V root pub).toArray, .agg (pubC k q t l).toArray, .agg (sigC i r (.slice pa pn pc)).toArray] w fun e w' => e = .returned (.bool (verB L V i root pub r ps (headZ k q t l))) ∧ Below w.heap.size w w' := by
  have b1 := (Below.refl w.heap.size w).alloc (Nat.le_refl _) (.cells (pubC L V root pub).toArray 27 (0, 0))
  have b2 := b1.alloc b1.size (.cells (pubC k q t l).toArray 29 (0, 0))
  have b3 := b2.alloc b2.size (.cells (sigC i r (.slice pa pn pc)).toArray 32 (0, 0))
  have Kp := hid (((Blk.new (w := w) (n := w.heap.size) rfl (pubC L V root pub).toArray 27).old (.cells (pubC k q t l).toArray 29 (0, 0))).old (.cells (sigC i r (.slice pa pn pc)).toArray 32 (0, 0)))
  have Kh := hid ((Blk.new (w := (w.alloc (.cells (pubC L V root pub).toArray 27 (0, 0)))) (n := w.heap.size + 1) (by simp only [World.size_alloc]) (pubC k q t l).toArray 29).old (.cells (sigC i r (.slice pa pn pc)).toArray 32 (0, 0)))
  have Kg := hid (Blk.new (w := ((w.alloc (.cells (pubC L V root pub).toArray 27 (0, 0))).alloc (.cells (pubC k q t l).toArray 29 (0, 0)))) (n := w.heap.size + 1 + 1) (by simp only [World.size_alloc]) (sigC i r (.slice pa pn pc)).toArray 32)
  have Hb := hid b3
  have hbz := b3.size
  have Hbs := hid (show w.heap.size + 1 + 1 + 1 = (((w.alloc (.cells (pubC L V root pub).toArray 27 (0, 0))).alloc (.cells (pubC k q t l).toArray 29 (0, 0))).alloc (.cells (sigC i r (.slice pa pn pc)).toArray 32 (0, 0))).heap.size by simp only [World.size_alloc])
  have Htab := hid tab
  clear b1 b2 b3 tab 
  have HZL := hid (headZ_length (k := k) (q := q) htd hld)
  go_enter Tryz.func11, Tryz.ntmps11
  go_wp2_with fail
  refine wp_region_flow 6 [0, 1, 2] [] [(.c 3, [], [4]), (.b 4, [], []), (.c 5, [], [])] (by kernel_rfl) (by kernel_rfl) ?_
  apply Exists.intro
  refine ⟨fun w0 hb0 hF0 => ?_, ?_⟩
  · skip
    have x0 : ∀ w', (∃ x : Ext w0, w' = x.at_) → ∃ T, Blk w' (w.heap.size) (pubC L V root pub).toArray T := fun w' ⟨x, hx⟩ => ⟨_, hx ▸ (Kp.out.below hb0).below x.same⟩
    have x1 : ∀ w', (∃ x : Ext w0, w' = x.at_) → ∃ T, Blk w' (w.heap.size + 1 + 1) (sigC i r (.slice pa pn pc)).toArray T := fun w' ⟨x, hx⟩ => ⟨_, hx ▸ (Kg.out.below hb0).below x.same⟩
    have x2 : ∀ w', (∃ x : Ext w0, w' = x.at_) → ∃ T, Blk w' (w.heap.size + 1) (pubC k q t l).toArray T := fun w' ⟨x, hx⟩ => ⟨_, hx ▸ (Kh.out.below hb0).below x.same⟩
    simp only [pick, List.getElem?_toArray, List.getElem?_cons_succ, List.getElem?_cons_zero, Option.toList_some, List.cons_append, List.nil_append]
    repeat (first | (go_big_quiet_want; refine quiet_load_blk 27 _ rfl (w.heap.size) rfl _ x0 _ Tryz.underlying27 rfl 66 size_public (pubC_size hroot hpub) ?_; go_big_quiet_on; simp only [Act.put, List.setIfInBounds_toArray, List.set_cons_zero, List.set_cons_succ]) | (go_big_quiet_want; refine quiet_load_blk 32 _ rfl (w.heap.size + 1 + 1) rfl _ x1 _ Tryz.underlying32 rfl 34 size_sig (sigC_size hr) ?_; go_big_quiet_on; simp only [Act.put, List.setIfInBounds_toArray, List.set_cons_zero, List.set_cons_succ]) | (go_big_quiet_want; refine quiet_load_blk 29 _ rfl (w.heap.size + 1) rfl _ x2 _ Tryz.underlying29 rfl 66 size_head (pubC_size htd hld) ?_; go_big_quiet_on; simp only [Act.put, List.setIfInBounds_toArray, List.set_cons_zero, List.set_cons_succ]) | go_big_quiet_step (fail))
    exact wpQuiet_nil rfl
  refine AlChk.nil ?_
  refine Walk.call rfl 32 #[.agg (pubC k q t l).toArray] (TextV (headZ k q t l)) (fun v w' w'' h k => h.below k) rfl (fun w1 hb1 hF1 => ⟨by go_simp, headtext_any k q t l w1 hk hq htd hld⟩) ?_
  rintro vt w1 hb1 hF1 ⟨fa, fn, fc, rfl, _⟩
  apply Exists.intro
  refine ⟨fun w2 hb2 hF2 => wpQuiet_nil rfl, ?_⟩
  refine AlChk.one rfl (fun b => .slice (some ⟨b, 0, none⟩) 1 1) (.cells #[.slice fa fn fc] 37 (0, 0)) rfl (fun w2 hb2 hF2 => by go_simp) ?_
  refine AlChk.nil ?_
  refine Walk.blk rfl (fun b => .slice (some ⟨b, 0, none⟩) 1 1) (.cells #[.slice fa fn fc] 37 (0, 0)) (by simp) ?_
  intro b9 w2 hb2 hF2 hge9 _
  apply Exists.intro
  refine ⟨fun w3 hb3 hF3 => wpQuiet_nil rfl, ?_⟩
  refine AlChk.nil ?_
  refine Walk.call rfl 31 #[.agg (pubC L V root pub).toArray, .agg (sigC i r (.slice pa pn pc)).toArray, .slice (some ⟨b9, 0, none⟩) 1 1] (fun v _ => v = .bool (verB L V i root pub r ps (headZ k q t l))) (fun _ _ _ h _ => h) rfl (fun w1 hb1 hF1 => ⟨by go_simp, ?_⟩) ?_
  · have k9 : Blk w1 b9 #[.slice fa fn fc] 37 := hF1.2
    have ht : TextAt w1 fa fn fc (headZ k q t l) := (show TextV (headZ k q t l) (.slice fa fn fc) w1 from hF1.1.2).text
    have hs := verify_b L V i root pub r pa pn pc ps (some ⟨b9, 0, none⟩) 1 1 [(headZ k q t l)] w1 hr hroot hpub (hP.below (Hb.out.trans (hb1.mono Hb.out.size))) (TextsAt.of_blk k9 rfl (Nat.le_refl _) (by omega) fun j hj => by
      match j, hj with
      | 0, _ => exact ⟨_, _, _, rfl, ht⟩) (by omega) (by simp only [sumLen, List.map_cons, List.map_nil, List.sum_cons, List.sum_nil]; rw [HZL.out]; omega) (Htab.out.below (Hb.out.trans (hb1.mono Hb.out.size)))
    rw [show ([(headZ k q t l)] : List (List Int)).flatten = (headZ k q t l) by simp] at hs
    refine hs.mono ?_
    rintro e w' ⟨rfl, b⟩
    exact ⟨_, rfl, b, rfl⟩
  rintro vb w1 hb1 hF1 rfl
  apply Exists.intro
  refine ⟨fun w3 hb3 hF3 => wpQuiet_nil rfl, ?_⟩
  refine AlChk.nil ?_
  refine Walk.fin fun w4 h4 hF4 _ => ?_
  simp only [List.drop_succ_cons, List.drop_zero]
  have HBw4 := hid (Below.on Hb.out h4)
  have hsw4 := HBw4.out.size
  have Kpw4 := hid (Kp.out.below h4)
  have Khw4 := hid (Kh.out.below h4)
  have Kgw4 := hid (Kg.out.below h4)
  clear h4 hF4
  go_wp2_with fail
  go_returns
  exact ⟨rfl, HBw4.out⟩
set_option maxHeartbeats 4000000 in
theorem vnext_any (L V i : Int) (root pub r : List Int) (k L2 V2 : Int) (t l : List Int) (pa : Option Addr) (pn pc : Nat) (ps : List Prt) (w : World) (hk : -9223372036854775808 ≤ k ∧ k < 9223372036854775808) (hL : -9223372036854775808 ≤ L2 ∧ L2 < 9223372036854775808) (hV : -9223372036854775808 ≤ V2 ∧ V2 < 9223372036854775808) (htd : Dg t) (hld : Dg l) (hr : Dg r) (hroot : Dg root) (hpub : Dg pub) (hP : PartsAt w pa pn pc ps) (tab : ShaTab w) :
    Calls Tryz.prog 12 #[.agg (pubC L V root pub).toArray, .int .i64 k, .agg (pubC L2 V2 t l).toArray, .agg (sigC i r (.slice pa pn pc)).toArray] w fun e w' => e = .returned (.bool (verB L V i root pub r ps (keyZ k L2 V2 t l))) ∧ Below w.heap.size w w' := by
  have b1 := (Below.refl w.heap.size w).alloc (Nat.le_refl _) (.cells (pubC L V root pub).toArray 27 (0, 0))
  have b2 := b1.alloc b1.size (.cells (pubC L2 V2 t l).toArray 27 (0, 0))
  have b3 := b2.alloc b2.size (.cells (sigC i r (.slice pa pn pc)).toArray 32 (0, 0))
  have Kp := hid (((Blk.new (w := w) (n := w.heap.size) rfl (pubC L V root pub).toArray 27).old (.cells (pubC L2 V2 t l).toArray 27 (0, 0))).old (.cells (sigC i r (.slice pa pn pc)).toArray 32 (0, 0)))
  have Kh := hid ((Blk.new (w := (w.alloc (.cells (pubC L V root pub).toArray 27 (0, 0)))) (n := w.heap.size + 1) (by simp only [World.size_alloc]) (pubC L2 V2 t l).toArray 27).old (.cells (sigC i r (.slice pa pn pc)).toArray 32 (0, 0)))
  have Kg := hid (Blk.new (w := ((w.alloc (.cells (pubC L V root pub).toArray 27 (0, 0))).alloc (.cells (pubC L2 V2 t l).toArray 27 (0, 0)))) (n := w.heap.size + 1 + 1) (by simp only [World.size_alloc]) (sigC i r (.slice pa pn pc)).toArray 32)
  have Hb := hid b3
  have hbz := b3.size
  have Hbs := hid (show w.heap.size + 1 + 1 + 1 = (((w.alloc (.cells (pubC L V root pub).toArray 27 (0, 0))).alloc (.cells (pubC L2 V2 t l).toArray 27 (0, 0))).alloc (.cells (sigC i r (.slice pa pn pc)).toArray 32 (0, 0))).heap.size by simp only [World.size_alloc])
  have Htab := hid tab
  clear b1 b2 b3 tab 
  have HZL := hid (keyZ_length (k := k) (L := L2) (V := V2) htd hld)
  go_enter Tryz.func12, Tryz.ntmps12
  go_wp2_with fail
  refine wp_region_flow 7 [0, 1, 2, 3] [] [(.c 4, [], [5]), (.b 5, [], []), (.c 6, [], [])] (by kernel_rfl) (by kernel_rfl) ?_
  apply Exists.intro
  refine ⟨fun w0 hb0 hF0 => ?_, ?_⟩
  · skip
    have x0 : ∀ w', (∃ x : Ext w0, w' = x.at_) → ∃ T, Blk w' (w.heap.size) (pubC L V root pub).toArray T := fun w' ⟨x, hx⟩ => ⟨_, hx ▸ (Kp.out.below hb0).below x.same⟩
    have x1 : ∀ w', (∃ x : Ext w0, w' = x.at_) → ∃ T, Blk w' (w.heap.size + 1 + 1) (sigC i r (.slice pa pn pc)).toArray T := fun w' ⟨x, hx⟩ => ⟨_, hx ▸ (Kg.out.below hb0).below x.same⟩
    have x2 : ∀ w', (∃ x : Ext w0, w' = x.at_) → ∃ T, Blk w' (w.heap.size + 1) (pubC L2 V2 t l).toArray T := fun w' ⟨x, hx⟩ => ⟨_, hx ▸ (Kh.out.below hb0).below x.same⟩
    simp only [pick, List.getElem?_toArray, List.getElem?_cons_succ, List.getElem?_cons_zero, Option.toList_some, List.cons_append, List.nil_append]
    repeat (first | (go_big_quiet_want; refine quiet_load_blk 27 _ rfl (w.heap.size) rfl _ x0 _ Tryz.underlying27 rfl 66 size_public (pubC_size hroot hpub) ?_; go_big_quiet_on; simp only [Act.put, List.setIfInBounds_toArray, List.set_cons_zero, List.set_cons_succ]) | (go_big_quiet_want; refine quiet_load_blk 32 _ rfl (w.heap.size + 1 + 1) rfl _ x1 _ Tryz.underlying32 rfl 34 size_sig (sigC_size hr) ?_; go_big_quiet_on; simp only [Act.put, List.setIfInBounds_toArray, List.set_cons_zero, List.set_cons_succ]) | (go_big_quiet_want; refine quiet_load_blk 27 _ rfl (w.heap.size + 1) rfl _ x2 _ Tryz.underlying27 rfl 66 size_public (pubC_size htd hld) ?_; go_big_quiet_on; simp only [Act.put, List.setIfInBounds_toArray, List.set_cons_zero, List.set_cons_succ]) | go_big_quiet_step (fail))
    exact wpQuiet_nil rfl
  refine AlChk.nil ?_
  refine Walk.call rfl 33 #[.int .i64 k, .agg (pubC L2 V2 t l).toArray] (TextV (keyZ k L2 V2 t l)) (fun v w' w'' h k => h.below k) rfl (fun w1 hb1 hF1 => ⟨by go_simp, keytext_any k L2 V2 t l w1 hk hL hV htd hld⟩) ?_
  rintro vt w1 hb1 hF1 ⟨fa, fn, fc, rfl, _⟩
  apply Exists.intro
  refine ⟨fun w2 hb2 hF2 => wpQuiet_nil rfl, ?_⟩
  refine AlChk.one rfl (fun b => .slice (some ⟨b, 0, none⟩) 1 1) (.cells #[.slice fa fn fc] 37 (0, 0)) rfl (fun w2 hb2 hF2 => by go_simp) ?_
  refine AlChk.nil ?_
  refine Walk.blk rfl (fun b => .slice (some ⟨b, 0, none⟩) 1 1) (.cells #[.slice fa fn fc] 37 (0, 0)) (by simp) ?_
  intro b9 w2 hb2 hF2 hge9 _
  apply Exists.intro
  refine ⟨fun w3 hb3 hF3 => wpQuiet_nil rfl, ?_⟩
  refine AlChk.nil ?_
  refine Walk.call rfl 31 #[.agg (pubC L V root pub).toArray, .agg (sigC i r (.slice pa pn pc)).toArray, .slice (some ⟨b9, 0, none⟩) 1 1] (fun v _ => v = .bool (verB L V i root pub r ps (keyZ k L2 V2 t l))) (fun _ _ _ h _ => h) rfl (fun w1 hb1 hF1 => ⟨by go_simp, ?_⟩) ?_
  · have k9 : Blk w1 b9 #[.slice fa fn fc] 37 := hF1.2
    have ht : TextAt w1 fa fn fc (keyZ k L2 V2 t l) := (show TextV (keyZ k L2 V2 t l) (.slice fa fn fc) w1 from hF1.1.2).text
    have hs := verify_b L V i root pub r pa pn pc ps (some ⟨b9, 0, none⟩) 1 1 [(keyZ k L2 V2 t l)] w1 hr hroot hpub (hP.below (Hb.out.trans (hb1.mono Hb.out.size))) (TextsAt.of_blk k9 rfl (Nat.le_refl _) (by omega) fun j hj => by
      match j, hj with
      | 0, _ => exact ⟨_, _, _, rfl, ht⟩) (by omega) (by simp only [sumLen, List.map_cons, List.map_nil, List.sum_cons, List.sum_nil]; rw [HZL.out]; omega) (Htab.out.below (Hb.out.trans (hb1.mono Hb.out.size)))
    rw [show ([(keyZ k L2 V2 t l)] : List (List Int)).flatten = (keyZ k L2 V2 t l) by simp] at hs
    refine hs.mono ?_
    rintro e w' ⟨rfl, b⟩
    exact ⟨_, rfl, b, rfl⟩
  rintro vb w1 hb1 hF1 rfl
  apply Exists.intro
  refine ⟨fun w3 hb3 hF3 => wpQuiet_nil rfl, ?_⟩
  refine AlChk.nil ?_
  refine Walk.fin fun w4 h4 hF4 _ => ?_
  simp only [List.drop_succ_cons, List.drop_zero]
  have HBw4 := hid (Below.on Hb.out h4)
  have hsw4 := HBw4.out.size
  have Kpw4 := hid (Kp.out.below h4)
  have Khw4 := hid (Kh.out.below h4)
  have Kgw4 := hid (Kg.out.below h4)
  clear h4 hF4
  go_wp2_with fail
  go_returns
  exact ⟨rfl, HBw4.out⟩
set_option maxHeartbeats 4000000 in
theorem vgrows_any (k q k2 q2 : Int) (t l t2 l2 : List Int) (ya : Option Addr) (yn yc : Nat) (ds : List (List Int)) (B : Bool) (w : World) (htd : Dg t) (hld : Dg l) (ht2 : Dg t2) (hl2 : Dg l2) (hD : DigsAt w ya yn yc ds) (tab : ShaTab w)
    (hG : ∀ W : World, DigsAt W ya yn yc ds → ShaTab W → Calls Tryz.prog 34 #[.agg (l.map (Value.int .u8)).toArray, .int .i64 q, .agg (l2.map (Value.int .u8)).toArray, .int .i64 q2, .slice ya yn yc] W fun e w' => e = .returned (.bool B) ∧ Below W.heap.size W w') :
    Calls Tryz.prog 13 #[.agg (pubC k q t l).toArray, .agg (pubC k2 q2 t2 l2).toArray, .slice ya yn yc] w fun e w' => e = .returned (.bool B) ∧ Below w.heap.size w w' := by
  have b1 := (Below.refl w.heap.size w).alloc (Nat.le_refl _) (.cells (pubC k q t l).toArray 29 (0, 0))
  have b2 := b1.alloc b1.size (.cells (pubC k2 q2 t2 l2).toArray 29 (0, 0))
  have Ka := hid ((Blk.new (w := w) (n := w.heap.size) rfl (pubC k q t l).toArray 29).old (.cells (pubC k2 q2 t2 l2).toArray 29 (0, 0)))
  have Kb := hid (Blk.new (w := (w.alloc (.cells (pubC k q t l).toArray 29 (0, 0)))) (n := w.heap.size + 1) (by simp only [World.size_alloc]) (pubC k2 q2 t2 l2).toArray 29)
  have Hb := hid b2
  have hbz := b2.size
  have Hbs := hid (show w.heap.size + 1 + 1 = ((w.alloc (.cells (pubC k q t l).toArray 29 (0, 0))).alloc (.cells (pubC k2 q2 t2 l2).toArray 29 (0, 0))).heap.size by simp only [World.size_alloc])
  have Htab := hid tab
  clear b1 b2 tab 
  go_enter Tryz.func13, Tryz.ntmps13
  have ca1 : ((w.alloc (.cells (pubC k q t l).toArray 29 (0, 0))).alloc (.cells (pubC k2 q2 t2 l2).toArray 29 (0, 0))).cell? ⟨w.heap.size, 1, none⟩ = some (.int .i64 q) := by rw [Ka.out.cell]; rfl
  have cb1 : ((w.alloc (.cells (pubC k q t l).toArray 29 (0, 0))).alloc (.cells (pubC k2 q2 t2 l2).toArray 29 (0, 0))).cell? ⟨w.heap.size + 1, 1, none⟩ = some (.int .i64 q2) := by rw [Kb.out.cell]; rfl
  go_wp2_with (first
     | (refine wpList_load_mid rfl 25 _ rfl (w.heap.size) 34 rfl _ _ (pubC_pub htd Ka.out) Tryz.underlying25 rfl (by rw [List.length_map, hld.len]; exact size_digest) ?_)
     | (refine wpList_load_mid rfl 25 _ rfl (w.heap.size + 1) 34 rfl _ _ (pubC_pub ht2 Kb.out) Tryz.underlying25 rfl (by rw [List.length_map, hl2.len]; exact size_digest) ?_))
  refine (hG _ (hD.below Hb.out) (Htab.out.below Hb.out)).mono ?_
  rintro e w1 ⟨rfl, bw1⟩
  have HBw1 := hid (Below.on Hb.out bw1)
  have hsw1 := HBw1.out.size
  have Kaw1 := hid (Ka.out.below bw1)
  have Kbw1 := hid (Kb.out.below bw1)
  clear bw1
  go_wp2_with fail
  go_returns
  exact ⟨rfl, HBw1.out⟩
end Go.Proofs.YtkakoiaahgchmaaGreatDoor
namespace Go.Proofs.YtkakoiaahgchmaaGreatDoor
set_option maxRecDepth 100000
open Go.ChangeShapes Go.WideShapes Go.ChangeAt Go.RowKit
/-- An answer's cells. -/
def ansC (s : Value) (n d : List Int) (v : Value) : List Value := s :: (n.map (Value.int .u8) ++ prC d v)
theorem ansC_size {s : Value} {n d : List Int} {v : Value} (hn : Dg n) (hd : Dg d) : (ansC s n d v).toArray.size = 66 := by simp [ansC, prC, hn.len, hd.len]
theorem size_answer : (Tryz.prog.info? 49).map (·.size) = some 66 := by kernel_rfl
theorem ansC_next {s : Value} {n d : List Int} {v : Value} {w : World} {b : Nat} {T : TypeId} (k : Blk w b (ansC s n d v).toArray T) : w.rangeAt b 1 (n.map (Value.int .u8)) := fun j u hu => by
  have hj : j < n.length := by have := (List.getElem?_eq_some_iff.1 hu).1; simpa using this
  rw [Nat.add_comm, k.cell, List.getElem?_toArray, ← hu]
  unfold ansC
  rw [List.getElem?_cons_succ, List.getElem?_append_left (by simpa using hj)]
set_option maxHeartbeats 4000000 in
theorem all_lookup (g : Nat) (p00 p10 p11 p12 p20 p21 p22 p23 : Value) (b0 b1 b2 : Bool) (w : World) (kg : Blk w g #[.func (.func 50) #[] #[p00], .func (.func 51) #[] #[p10, p11, p12], .func (.func 53) #[] #[p20, p21, p22, p23]] 35) (h0 : ∀ W : World, Below w.heap.size w W → Calls Tryz.prog 50 #[p00] W fun e w' => e = .returned (.bool b0) ∧ Below W.heap.size W w') (h1 : ∀ W : World, Below w.heap.size w W → Calls Tryz.prog 51 #[p10, p11, p12] W fun e w' => e = .returned (.bool b1) ∧ Below W.heap.size W w') (h2 : ∀ W : World, Below w.heap.size w W → Calls Tryz.prog 53 #[p20, p21, p22, p23] W fun e w' => e = .returned (.bool b2) ∧ Below W.heap.size W w') :
    Calls Tryz.prog 41 #[.slice (some ⟨g, 0, none⟩) 3 3] w fun e w' => e = .returned (.bool (b0 && (b1 && b2))) ∧ Below w.heap.size w w' := by
  have Hb := hid (Below.refl w.heap.size w)
  have Kg := hid kg
  have hgl := kg.lt
  have H0 := hid h0
  have H1 := hid h1
  have H2 := hid h2
  clear kg h0 h1 h2
  go_enter Tryz.func41, Tryz.ntmps41
  go_wp2_with fail
  go_loopw [7] (fun iv wr => ∃ k : Nat, k ≤ 3 ∧ iv = .int .i64 k ∧ (k ≥ 1 → b0 = true) ∧ (k ≥ 2 → b1 = true) ∧ (k ≥ 3 → b2 = true) ∧ Below w.heap.size w wr) (fun iv _ => 3 - (intOf iv).toNat)
  case atStart => exact ⟨0, Nat.zero_le _, rfl, fun h => absurd h (by omega), fun h => absurd h (by omega), fun h => absurd h (by omega), Hb.out⟩
  case round =>
    obtain ⟨k, hk, rfl, q0, q1, q2, bel⟩ := hrel
    have HBwr := hid bel
    have kgr := Kg.out.below bel
    clear bel
    rcases (show k = 0 ∨ k = 1 ∨ k = 2 ∨ k = 3 by omega) with rfl | rfl | rfl | rfl
    · skip
      have cg : wr.cell? ⟨g, 0, none⟩ = some (.func (.func 50) #[] #[p00]) := by rw [kgr.cell]; rfl
      clear kgr
      go_wp2_with fail
      refine (H0.out _ HBwr.out).mono ?_
      rintro e w1 ⟨rfl, b1w⟩
      have HB1 := hid (Below.on HBwr.out b1w)
      clear b1w
      cases hb : b0 with
      | true =>
        go_wp2_with fail
        exact ⟨⟨1, by omega, by first | rfl | simp, fun _ => hb, fun h => absurd h (by omega), fun h => absurd h (by omega), HB1.out⟩, by simp [intOf]⟩
      | false =>
        go_wp2_with fail
        go_returns
        exact ⟨by simp [hb], HB1.out⟩
    · skip
      have cg : wr.cell? ⟨g, 1, none⟩ = some (.func (.func 51) #[] #[p10, p11, p12]) := by rw [kgr.cell]; rfl
      clear kgr
      go_wp2_with fail
      refine (H1.out _ HBwr.out).mono ?_
      rintro e w1 ⟨rfl, b1w⟩
      have HB1 := hid (Below.on HBwr.out b1w)
      clear b1w
      cases hb : b1 with
      | true =>
        go_wp2_with fail
        exact ⟨⟨2, by omega, by first | rfl | simp, fun _ => q0 (by omega), fun h => hb, fun h => absurd h (by omega), HB1.out⟩, by simp [intOf]⟩
      | false =>
        go_wp2_with fail
        go_returns
        exact ⟨by simp [hb], HB1.out⟩
    · skip
      have cg : wr.cell? ⟨g, 2, none⟩ = some (.func (.func 53) #[] #[p20, p21, p22, p23]) := by rw [kgr.cell]; rfl
      clear kgr
      go_wp2_with fail
      refine (H2.out _ HBwr.out).mono ?_
      rintro e w1 ⟨rfl, b1w⟩
      have HB1 := hid (Below.on HBwr.out b1w)
      clear b1w
      cases hb : b2 with
      | true =>
        go_wp2_with fail
        exact ⟨⟨3, by omega, by first | rfl | simp, fun _ => q0 (by omega), fun h => q1 (by omega), fun h => hb, HB1.out⟩, by simp [intOf]⟩
      | false =>
        go_wp2_with fail
        go_returns
        exact ⟨by simp [hb], HB1.out⟩
    · skip
      clear kgr
      go_wp2_with fail
      go_returns
      exact ⟨by rw [q0 (by omega), q1 (by omega), q2 (by omega)]; rfl, HBwr.out⟩
set_option maxHeartbeats 4000000 in
theorem ends_none (t n d : List Int) (s v : Value) (last : Int) (w : World) (_ht : Dg t) (hn : Dg n) (_hd : Dg d) :
    Calls Tryz.prog 54 #[.agg (t.map (Value.int .u8)).toArray, .slice none 0 0, .int .i64 last, .agg (ansC s n d v).toArray] w fun e w' => e = .returned (.bool false) ∧ Below w.heap.size w w' := by
  have b1 := (Below.refl w.heap.size w).alloc (Nat.le_refl _) (.cells (t.map (Value.int .u8)).toArray 25 (0, 0))
  have b2 := b1.alloc b1.size (.cells (ansC s n d v).toArray 49 (0, 0))
  have Kt := hid ((Blk.new (w := w) (n := w.heap.size) rfl (t.map (Value.int .u8)).toArray 25).old (.cells (ansC s n d v).toArray 49 (0, 0)))
  have Ka := hid (Blk.new (w := (w.alloc (.cells (t.map (Value.int .u8)).toArray 25 (0, 0)))) (n := w.heap.size + 1) (by simp only [World.size_alloc]) (ansC s n d v).toArray 49)
  have Hb := hid b2
  have hbz := b2.size
  have Hbs := hid (show w.heap.size + 1 + 1 = ((w.alloc (.cells (t.map (Value.int .u8)).toArray 25 (0, 0))).alloc (.cells (ansC s n d v).toArray 49 (0, 0))).heap.size by simp only [World.size_alloc])
  clear b1 b2 
  go_enter Tryz.func54, Tryz.ntmps54
  have hwb : (0 = 0 ∨ 64 < 0) ∨ wrap64 (last + 1) < 1 := .inl (.inl rfl)
  go_wp2_with (refine wpList_load_mid rfl 25 _ rfl (w.heap.size + 1) 1 rfl _ _ (ansC_next Ka.out) Tryz.underlying25 rfl (by rw [List.length_map, hn.len]; exact size_digest) ?_)
  refine (cfrom_bad n _ none 0 0 _ hn (.inl (.inl rfl))).mono ?_
  rintro e w1 ⟨rfl, bw1⟩
  have HBw1 := hid (Below.on Hb.out bw1)
  have hsw1 := HBw1.out.size
  have Ktw1 := hid (Kt.out.below bw1)
  have Kaw1 := hid (Ka.out.below bw1)
  clear bw1
  go_wp2_with (
        refine wpList_store_blk rfl 25 _ _ rfl (w1.heap.size) (zD.map (Value.int .u8)).toArray rfl rfl _ 25 (Blk.new rfl (byteCells 32 []) _) 32 size_digest zsize Dg.zero.size (ints_one _ _) ?_
        intro w2 hbw2 hkw2
        have hw2 := hbw2.below ((Below.refl w1.heap.size w1).alloc (Nat.le_refl _) _) (by simp only [World.size_alloc]; omega) (Nat.le_refl _)
        have HBw2 := hid (Below.on HBw1.out hw2)
        have hsw2 := HBw2.out.size
        have Ktw2 := hid (Ktw1.out.below hw2)
        have hltw2 := Ktw1.out.lt
        have Kaw2 := hid (Kaw1.out.below hw2)
        have hlaw2 := Kaw1.out.lt
        have Kzw2 := hid hkw2
        have hfw2 : w.heap.size ≤ w1.heap.size := HBw1.out.size
        clear hbw2 hkw2 hw2)
  go_returns
  exact ⟨rfl, HBw2.out⟩
set_option maxHeartbeats 4000000 in
theorem shown_nil (t : List Int) (a : Value) (w : World) (_ht : Dg t) :
    Calls Tryz.prog 52 #[.agg (t.map (Value.int .u8)).toArray, a, .slice none 0 0] w fun e w' => e = .returned (.bool true) ∧ Below w.heap.size w w' := by
  have b1 := (Below.refl w.heap.size w).alloc (Nat.le_refl _) (.cells (t.map (Value.int .u8)).toArray 25 (0, 0))
  have Kt := hid (Blk.new (w := w) (n := w.heap.size) rfl (t.map (Value.int .u8)).toArray 25)
  have Hb := hid b1
  have hbz := b1.size
  have Hbs := hid (show w.heap.size + 1 = (w.alloc (.cells (t.map (Value.int .u8)).toArray 25 (0, 0))).heap.size by simp only [World.size_alloc])
  clear b1 
  go_enter Tryz.func52, Tryz.ntmps52
  go_wp2_with fail
  go_loopw [11] (fun iv wr => iv = .int .i64 0 ∧ Below w.heap.size w wr) (fun _ _ => 0)
  case atStart => exact ⟨rfl, Hb.out⟩
  case round =>
    obtain ⟨rfl, bel⟩ := hrel
    have HBwr := hid bel
    clear bel
    go_wp2_with fail
    go_returns
    exact ⟨rfl, HBwr.out⟩
end Go.Proofs.YtkakoiaahgchmaaGreatDoor
namespace Go.Proofs.YtkakoiaahgchmaaGreatDoor
set_option maxRecDepth 100000
open Go.ChangeShapes Go.WideShapes Go.ChangeAt Go.RowKit
/-- An answer of nothing. -/
def zAns : List Value := ansC (.slice none 0 0) zD zD (.slice none 0 0)
theorem zAns_size : zAns.toArray.size = 66 := ansC_size Dg.zero Dg.zero
set_option maxHeartbeats 4000000 in
theorem look1 (bt bn bl ba : Nat) (w : World) (kt : Blk w bt (zD.map (Value.int .u8)).toArray 25) (kn : Blk w bn #[.slice none 0 0] 37) (kl : Blk w bl #[.int .i64 0] 3) (ka : Blk w ba zAns.toArray 49) :
    Calls Tryz.prog 50 #[.pointer (some ⟨ba, 0, none⟩)] w fun e w' => e = .returned (.bool true) ∧ Below w.heap.size w w' := by
  have Hb := hid (Below.refl w.heap.size w)
  have Kt := hid kt
  have Ka := hid ka
  have ca : w.cell? ⟨ba, 0, none⟩ = some (.slice none 0 0) := by rw [ka.cell]; rfl
  have cn : w.cell? ⟨bn, 0, none⟩ = some (.slice none 0 0) := by rw [kn.cell]; rfl
  have cl : w.cell? ⟨bl, 0, none⟩ = some (.int .i64 0) := by rw [kl.cell]; rfl
  clear kt ka kn kl
  go_enter Tryz.func50, Tryz.ntmps50
  go_wp2_with fail
  go_returns
  exact ⟨by first | rfl | simp, Hb.out⟩
set_option maxHeartbeats 4000000 in
theorem look2 (bt bn bl ba : Nat) (w : World) (kt : Blk w bt (zD.map (Value.int .u8)).toArray 25) (kn : Blk w bn #[.slice none 0 0] 37) (kl : Blk w bl #[.int .i64 0] 3) (ka : Blk w ba zAns.toArray 49) :
    Calls Tryz.prog 51 #[.pointer (some ⟨bt, 0, none⟩), .pointer (some ⟨bn, 0, none⟩), .pointer (some ⟨ba, 0, none⟩)] w fun e w' => e = .returned (.bool true) ∧ Below w.heap.size w w' := by
  have Hb := hid (Below.refl w.heap.size w)
  have Kt := hid kt
  have Ka := hid ka
  have ca : w.cell? ⟨ba, 0, none⟩ = some (.slice none 0 0) := by rw [ka.cell]; rfl
  have cn : w.cell? ⟨bn, 0, none⟩ = some (.slice none 0 0) := by rw [kn.cell]; rfl
  have cl : w.cell? ⟨bl, 0, none⟩ = some (.int .i64 0) := by rw [kl.cell]; rfl
  clear kt ka kn kl
  go_enter Tryz.func51, Tryz.ntmps51
  go_wp2_with (first
     | (refine wpList_load_blk rfl 25 _ rfl (bt) rfl _ 25 Kt.out _ Tryz.underlying25 rfl 32 size_digest Dg.zero.size ?_)
     | (refine wpList_load_blk rfl 49 _ rfl (ba) rfl _ 49 Ka.out _ Tryz.underlying49 rfl 66 size_answer zAns_size ?_))
  refine (shown_nil zD (.slice none 0 0) _ Dg.zero).mono ?_
  rintro e w1 ⟨rfl, bw1⟩
  have HBw1 := hid (Below.on Hb.out bw1)
  have hsw1 := HBw1.out.size
  have Ktw1 := hid (Kt.out.below bw1)
  have Kaw1 := hid (Ka.out.below bw1)
  clear bw1
  go_wp2_with fail
  go_returns
  exact ⟨by first | rfl | simp, HBw1.out⟩
set_option maxHeartbeats 4000000 in
theorem look3 (bt bn bl ba : Nat) (w : World) (kt : Blk w bt (zD.map (Value.int .u8)).toArray 25) (kn : Blk w bn #[.slice none 0 0] 37) (kl : Blk w bl #[.int .i64 0] 3) (ka : Blk w ba zAns.toArray 49) :
    Calls Tryz.prog 53 #[.pointer (some ⟨bt, 0, none⟩), .pointer (some ⟨bn, 0, none⟩), .pointer (some ⟨bl, 0, none⟩), .pointer (some ⟨ba, 0, none⟩)] w fun e w' => e = .returned (.bool false) ∧ Below w.heap.size w w' := by
  have Hb := hid (Below.refl w.heap.size w)
  have Kt := hid kt
  have Ka := hid ka
  have ca : w.cell? ⟨ba, 0, none⟩ = some (.slice none 0 0) := by rw [ka.cell]; rfl
  have cn : w.cell? ⟨bn, 0, none⟩ = some (.slice none 0 0) := by rw [kn.cell]; rfl
  have cl : w.cell? ⟨bl, 0, none⟩ = some (.int .i64 0) := by rw [kl.cell]; rfl
  clear kt ka kn kl
  go_enter Tryz.func53, Tryz.ntmps53
  go_wp2_with (first
     | (refine wpList_load_blk rfl 25 _ rfl (bt) rfl _ 25 Kt.out _ Tryz.underlying25 rfl 32 size_digest Dg.zero.size ?_)
     | (refine wpList_load_blk rfl 49 _ rfl (ba) rfl _ 49 Ka.out _ Tryz.underlying49 rfl 66 size_answer zAns_size ?_))
  refine (ends_none zD zD zD (.slice none 0 0) (.slice none 0 0) 0 _ Dg.zero Dg.zero Dg.zero).mono ?_
  rintro e w1 ⟨rfl, bw1⟩
  have HBw1 := hid (Below.on Hb.out bw1)
  have hsw1 := HBw1.out.size
  have Ktw1 := hid (Kt.out.below bw1)
  have Kaw1 := hid (Ka.out.below bw1)
  clear bw1
  go_wp2_with fail
  go_returns
  exact ⟨by first | rfl | simp, HBw1.out⟩
set_option maxHeartbeats 4000000 in
theorem vlookup_none (w : World) :
    Calls Tryz.prog 18 #[.agg (zD.map (Value.int .u8)).toArray, .slice none 0 0, .agg zAns.toArray] w fun e w' => e = .returned (.bool false) ∧ Below w.heap.size w w' := by
  have b1 := (Below.refl w.heap.size w).alloc (Nat.le_refl _) (.cells (zD.map (Value.int .u8)).toArray 25 (0, 0))
  have b2 := b1.alloc b1.size (.cells #[.slice none 0 0] 37 (0, 0))
  have b3 := b2.alloc b2.size (.cells zAns.toArray 49 (0, 0))
  have Kt := hid (((Blk.new (w := w) (n := w.heap.size) rfl (zD.map (Value.int .u8)).toArray 25).old (.cells #[.slice none 0 0] 37 (0, 0))).old (.cells zAns.toArray 49 (0, 0)))
  have Kn := hid ((Blk.new (w := (w.alloc (.cells (zD.map (Value.int .u8)).toArray 25 (0, 0)))) (n := w.heap.size + 1) (by simp only [World.size_alloc]) #[.slice none 0 0] 37).old (.cells zAns.toArray 49 (0, 0)))
  have Ka := hid (Blk.new (w := ((w.alloc (.cells (zD.map (Value.int .u8)).toArray 25 (0, 0))).alloc (.cells #[.slice none 0 0] 37 (0, 0)))) (n := w.heap.size + 1 + 1) (by simp only [World.size_alloc]) zAns.toArray 49)
  have Hb := hid b3
  have hbz := b3.size
  have Hbs := hid (show w.heap.size + 1 + 1 + 1 = (((w.alloc (.cells (zD.map (Value.int .u8)).toArray 25 (0, 0))).alloc (.cells #[.slice none 0 0] 37 (0, 0))).alloc (.cells zAns.toArray 49 (0, 0))).heap.size by simp only [World.size_alloc])
  clear b1 b2 b3 
  have ca : (((w.alloc (.cells (zD.map (Value.int .u8)).toArray 25 (0, 0))).alloc (.cells #[.slice none 0 0] 37 (0, 0))).alloc (.cells zAns.toArray 49 (0, 0))).cell? ⟨w.heap.size + 1 + 1, 0, none⟩ = some (.slice none 0 0) := by rw [Ka.out.cell]; rfl
  go_enter Tryz.func18, Tryz.ntmps18
  have Hbl := hid (Hb.out.alloc Hb.out.size (.cells #[.int .i64 0] 3 (0, 0)))
  have Ktl := hid (Kt.out.old (.cells #[.int .i64 0] 3 (0, 0)))
  have Knl := hid (Kn.out.old (.cells #[.int .i64 0] 3 (0, 0)))
  have Kal := hid (Ka.out.old (.cells #[.int .i64 0] 3 (0, 0)))
  have Kll := hid (Blk.new (w := (((w.alloc (.cells (zD.map (Value.int .u8)).toArray 25 (0, 0))).alloc (.cells #[.slice none 0 0] 37 (0, 0))).alloc (.cells zAns.toArray 49 (0, 0)))) (n := w.heap.size + 1 + 1 + 1) Hbs.out.symm #[.int .i64 0] 3)
  have cal : ((((w.alloc (.cells (zD.map (Value.int .u8)).toArray 25 (0, 0))).alloc (.cells #[.slice none 0 0] 37 (0, 0))).alloc (.cells zAns.toArray 49 (0, 0))).alloc (.cells #[.int .i64 0] 3 (0, 0))).cell? ⟨w.heap.size + 1 + 1, 0, none⟩ = some (.slice none 0 0) := by rw [Kal.out.cell]; rfl
  go_wp2_with fail
  go_loopw [13] (fun iv wr => iv = .int .i64 0 ∧ Blk wr w.heap.size (zD.map (Value.int .u8)).toArray 25 ∧ Blk wr (w.heap.size + 1) #[.slice none 0 0] 37 ∧ Blk wr (w.heap.size + 1 + 1) zAns.toArray 49 ∧ Blk wr (w.heap.size + 1 + 1 + 1) #[.int .i64 0] 3 ∧ Below w.heap.size w wr) (fun _ _ => 0)
  case atStart => exact ⟨rfl, Ktl.out, Knl.out, Kal.out, Kll.out, Hbl.out⟩
  case round =>
    obtain ⟨rfl, kt, kn, ka, kl, bel⟩ := hrel
    have Kt1 := hid kt
    have Kn1 := hid kn
    have Ka1 := hid ka
    have Kl1 := hid kl
    have HBwr := hid bel
    clear kt kn ka kl bel
    go_wp2_with fail
    have ball := hid (HBwr.out.alloc HBwr.out.size (.cells #[.func (.func 50) #[] #[.pointer (some ⟨(w.heap.size + 1 + 1), 0, none⟩)], .func (.func 51) #[] #[.pointer (some ⟨w.heap.size, 0, none⟩), .pointer (some ⟨(w.heap.size + 1), 0, none⟩), .pointer (some ⟨(w.heap.size + 1 + 1), 0, none⟩)], .func (.func 53) #[] #[.pointer (some ⟨w.heap.size, 0, none⟩), .pointer (some ⟨(w.heap.size + 1), 0, none⟩), .pointer (some ⟨(w.heap.size + 1 + 1 + 1), 0, none⟩), .pointer (some ⟨(w.heap.size + 1 + 1), 0, none⟩)]] 35 (0, 0)))
    have KT := Kt1.out.old (.cells #[.func (.func 50) #[] #[.pointer (some ⟨(w.heap.size + 1 + 1), 0, none⟩)], .func (.func 51) #[] #[.pointer (some ⟨w.heap.size, 0, none⟩), .pointer (some ⟨(w.heap.size + 1), 0, none⟩), .pointer (some ⟨(w.heap.size + 1 + 1), 0, none⟩)], .func (.func 53) #[] #[.pointer (some ⟨w.heap.size, 0, none⟩), .pointer (some ⟨(w.heap.size + 1), 0, none⟩), .pointer (some ⟨(w.heap.size + 1 + 1 + 1), 0, none⟩), .pointer (some ⟨(w.heap.size + 1 + 1), 0, none⟩)]] 35 (0, 0))
    refine (all_lookup wr.heap.size _ _ _ _ _ _ _ _ true true false _ (Blk.new (w := wr) rfl _ 35) (fun W hW => look1 w.heap.size (w.heap.size + 1) (w.heap.size + 1 + 1 + 1) (w.heap.size + 1 + 1) W (KT.below hW) ((Kn1.out.old _).below hW) ((Kl1.out.old _).below hW) ((Ka1.out.old _).below hW)) (fun W hW => look2 w.heap.size (w.heap.size + 1) (w.heap.size + 1 + 1 + 1) (w.heap.size + 1 + 1) W (KT.below hW) ((Kn1.out.old _).below hW) ((Kl1.out.old _).below hW) ((Ka1.out.old _).below hW)) (fun W hW => look3 w.heap.size (w.heap.size + 1) (w.heap.size + 1 + 1 + 1) (w.heap.size + 1 + 1) W (KT.below hW) ((Kn1.out.old _).below hW) ((Kl1.out.old _).below hW) ((Ka1.out.old _).below hW))).mono ?_
    rintro e w5 ⟨rfl, b5⟩
    have HB5 := hid (Below.on ball.out b5)
    clear b5 ball KT
    go_wp2_with fail
    go_returns
    exact ⟨by first | rfl | simp, HB5.out⟩
theorem build_sig0 (w : World) : (Instr.build 32 #[]).run Tryz.prog w = .ok (.agg zSig.toArray) w := by
  refine run_build w _ _ _ ?_
  obtain ⟨i0, hi, hz0⟩ := Option.map_eq_some_iff.1 (show (Tryz.prog.info? 32).map (·.zero) = some (some (.agg zSig.toArray)) by kernel_rfl)
  obtain ⟨fields, hu, hq⟩ : ∃ fields, Tryz.prog.underlying 32 = some (.struct fields) ∧ fields.toList.mapM (fun f => (Tryz.prog.info? f.type).map fun i => (f.offset, i.size)) = some [(0, 1), (1, 32), (33, 1)] := ⟨_, Tryz.underlying32, by kernel_rfl⟩
  have hz : (Value.agg zSig.toArray).cells = zSig.toArray := rfl
  unfold Program.built
  simp only [hi, hu, hz0, hq, hz]
  rw [Instr.fill]
theorem build_ans0 (w : World) : (Instr.build 49 #[]).run Tryz.prog w = .ok (.agg zAns.toArray) w := by
  refine run_build w _ _ _ ?_
  obtain ⟨i0, hi, hz0⟩ := Option.map_eq_some_iff.1 (show (Tryz.prog.info? 49).map (·.zero) = some (some (.agg zAns.toArray)) by kernel_rfl)
  obtain ⟨fields, hu, hq⟩ : ∃ fields, Tryz.prog.underlying 49 = some (.struct fields) ∧ fields.toList.mapM (fun f => (Tryz.prog.info? f.type).map fun i => (f.offset, i.size)) = some [(0, 1), (1, 32), (33, 33)] := ⟨_, Tryz.underlying49, by kernel_rfl⟩
  have hz : (Value.agg zAns.toArray).cells = zAns.toArray := rfl
  unfold Program.built
  simp only [hi, hu, hz0, hq, hz]
  rw [Instr.fill]
theorem build_head1 (w : World) : (Instr.build 29 #[(1, .int .i64 1)]).run Tryz.prog w = .ok (.agg (pubC 0 1 zD zD).toArray) w := by
  refine run_build w _ _ _ ?_
  obtain ⟨i0, hi, hz0⟩ := Option.map_eq_some_iff.1 (show (Tryz.prog.info? 29).map (·.zero) = some (some (.agg (pubC 0 0 zD zD).toArray)) by kernel_rfl)
  obtain ⟨fields, hu, hq⟩ : ∃ fields, Tryz.prog.underlying 29 = some (.struct fields) ∧ fields.toList.mapM (fun f => (Tryz.prog.info? f.type).map fun i => (f.offset, i.size)) = some [(0, 1), (1, 1), (2, 32), (34, 32)] := ⟨_, Tryz.underlying29, by kernel_rfl⟩
  have hz : (Value.agg (pubC 0 0 zD zD).toArray).cells = (pubC 0 0 zD zD).toArray := rfl
  unfold Program.built
  simp only [hi, hu, hz0, hq, hz]
  have t0 : splice ((pubC 0 0 zD zD).toArray).toList 1 (Value.int .i64 1).cells.toList = pubC 0 1 zD zD := by rfl
  rw [fill_part _ _ 1 1 _ _ (by rfl) (by decide +kernel), t0, Instr.fill]
theorem verB_zero : verB 0 0 0 zD zD zD [] (headZ 0 0 zD zD) = false := by
  unfold verB
  rw [show formB 0 0 0 [] = false by decide]
  rfl
theorem gro_one : (decide ((groZ 1 zD 1 1 false [] ((0 : Nat) : Int)).2 = 0) && decide ((groZ 1 zD 1 1 false [] ((0 : Nat) : Int)).1.1 = zD) && decide ((groZ 1 zD 1 1 false [] ((0 : Nat) : Int)).1.2 = zD)) = true := by decide +kernel
set_option maxHeartbeats 4000000 in
theorem knows22 (w : World) (tab : ShaTab w) :
    Calls Tryz.prog 6 #[] w fun e w' => e = .returned (.bool true) ∧ Below w.heap.size w w' := by
  have Hb := hid (Below.refl w.heap.size w)
  have Htab := hid tab
  clear tab
  go_enter Tryz.func6, Tryz.ntmps6
  go_wp2_with (first
     | (with_reducible show wpList _ _ _ (⟨some 1, _, _, _, _, _⟩ :: _) _ _; refine wpList_buildv_if (by first | rfl | go_simp) 27 [] rfl [] rfl _ build_pub0 ?_)
     | (with_reducible show wpList _ _ _ (⟨some 2, _, _, _, _, _⟩ :: _) _ _; refine wpList_buildv_if (by first | rfl | go_simp) 29 [] rfl [] rfl _ build_head0 ?_)
     | (with_reducible show wpList _ _ _ (⟨some 3, _, _, _, _, _⟩ :: _) _ _; refine wpList_buildv_if (by first | rfl | go_simp) 32 [] rfl [] rfl _ build_sig0 ?_))
  refine (show Calls Tryz.prog 11 _ w (fun e w' => e = .returned (.bool false) ∧ Below w.heap.size w w') from by
    have h := vhead_any 0 0 0 zD zD zD 0 0 zD zD none 0 0 [] w (by omega) (by omega) Dg.zero Dg.zero Dg.zero Dg.zero Dg.zero (PartsAt.nil w) Htab.out
    rw [verB_zero] at h
    exact h).mono ?_
  rintro e w1 ⟨rfl, b1⟩
  have HBw1 := hid (Below.on Hb.out b1)
  have hsw1 := HBw1.out.size
  clear b1
  go_wp2_with (first
     | (with_reducible show wpList _ _ _ (⟨some 7, _, _, _, _, _⟩ :: _) _ _; refine wpList_buildv_if (by first | rfl | go_simp) 29 [(1, .const (.int .i64 1))] rfl [(1, .int .i64 1)] rfl _ build_head1 ?_)
     | (with_reducible show wpList _ _ _ (⟨some 8, _, _, _, _, _⟩ :: _) _ _; refine wpList_buildv_if (by first | rfl | go_simp) 29 [(1, .const (.int .i64 1))] rfl [(1, .int .i64 1)] rfl _ build_head1 ?_))
  refine (vgrows_any 0 1 0 1 zD zD zD zD none 0 0 [] true _ Dg.zero Dg.zero Dg.zero Dg.zero (DigsAt.nil _) (Htab.out.below HBw1.out) (fun W hW hT => by
    have h := grows_good zD zD 1 1 none 0 0 [] W Dg.zero Dg.zero (by omega) (by omega) (by omega) hW (by omega) hT
    rw [gro_one] at h
    exact h)).mono ?_
  rintro e w2 ⟨rfl, b2⟩
  have HBw2 := hid (Below.on HBw1.out b2)
  have hsw2 := HBw2.out.size
  clear b2
  go_wp2_with (with_reducible show wpList _ _ _ (⟨some 13, _, _, _, _, _⟩ :: _) _ _; refine wpList_buildv_if (by first | rfl | go_simp) 49 [] rfl [] rfl _ build_ans0 ?_)
  refine (vlookup_none _).mono ?_
  rintro e w3 ⟨rfl, bw3⟩
  have HBw3 := hid (Below.on HBw2.out bw3)
  have hsw3 := HBw3.out.size
  clear bw3
  go_wp2_with fail
  go_returns
  exact ⟨by first | rfl | simp, HBw3.out⟩
end Go.Proofs.YtkakoiaahgchmaaGreatDoor
namespace Go.Proofs.YtkakoiaahgchmaaGreatDoor
set_option maxRecDepth 100000
open Go.ChangeShapes Go.WideShapes Go.ChangeAt Go.RowKit
set_option maxHeartbeats 4000000 in
/-- A head, as it comes in. -/
theorem open_head {H : Type} {enc : TypeId × Value → H} {W : World} {base : Nat} {v : Value} {d : DataW H} {p : List MemPlace} (hv : Value.okWide Tryz.prog W .any base 29 v) (h : DataW.Trod enc Tryz.prog W 0 (fun _ => true) true 29 v d p) :
    ∃ (k q : Int) (t l : List Int), v = .agg (pubC k q t l).toArray ∧ (Lit.int .i64 k).wf = true ∧ (Lit.int .i64 q).wf = true ∧ Dg t ∧ Dg l := by
  obtain ⟨f0, f1, f2, f3, hu, t0, t1, t2, t3, o0, o1, o2, o3⟩ : ∃ f0 f1 f2 f3 : Field, Tryz.prog.underlying 29 = some (.struct #[f0, f1, f2, f3]) ∧ f0.type = 3 ∧ f1.type = 3 ∧ f2.type = 25 ∧ f3.type = 25 ∧ f0.offset = 0 ∧ f1.offset = 1 ∧ f2.offset = 2 ∧ f3.offset = 34 := ⟨_, _, _, _, Tryz.underlying29, rfl, rfl, rfl, rfl, rfl, rfl, rfl, rfl⟩
  have c32 : Tryz.prog.cellsOf 25 = 32 := by kernel_rfl
  have c66 : Tryz.prog.cellsOf 29 = 66 := by kernel_rfl
  have c1 : Tryz.prog.cellsOf 5 = 1 := by kernel_rfl
  have ci : Tryz.prog.cellsOf 3 = 1 := by kernel_rfl
  unfold Value.okWide at hv
  rw [hu] at hv
  obtain ⟨cs, rfl, hsz, _⟩ := hv
  obtain ⟨fuel, hf⟩ := h
  have hf : DataW.trod enc Tryz.prog W 0 (fun _ => true) true fuel 29 cs.toList = some (d, p) := hf
  obtain ⟨y0, y1, y2, y3, n, _, hl, q0, q1, q2, q3⟩ := Go.Joins.trod_struct4 hu hf
  rw [t0, o0, ci] at q0
  rw [t1, o1, ci] at q1
  rw [t2, o2, c32] at q2
  rw [t3, o3, c32] at q3
  obtain ⟨x, e0, _, w0⟩ := DataW.trod_int Tryz.underlying3 q0
  obtain ⟨y, e1, _, w1⟩ := DataW.trod_int Tryz.underlying3 q1
  obtain ⟨root, k1, e2⟩ := digest_cells Tryz.underlying25 Tryz.underlying5 c32 c1 q2
  obtain ⟨pub, k2, e3⟩ := digest_cells Tryz.underlying25 Tryz.underlying5 c32 c1 q3
  refine ⟨x, y, root, pub, ?_, w0, w1, k1, k2⟩
  refine congrArg Value.agg ?_
  apply Array.ext'
  rw [c66] at hl
  have h3 : cs.toList = (cs.toList.drop 0).take 1 ++ ((cs.toList.drop 1).take 1 ++ ((cs.toList.drop 2).take 32 ++ (cs.toList.drop 34).take 32)) := by
    rw [List.take_of_length_le (l := cs.toList.drop 34) (by rw [List.length_drop]; omega)]
    rw [show cs.toList.drop 34 = (cs.toList.drop 2).drop 32 by rw [List.drop_drop], List.take_append_drop, show cs.toList.drop 2 = (cs.toList.drop 1).drop 1 by rw [List.drop_drop], List.take_append_drop, List.drop_zero, List.take_append_drop]
  rw [h3, e0, e1, e2, e3]
  rfl
set_option maxHeartbeats 4000000 in
theorem heads_many (L V i k q k2 q2 : Int) (root pub r t l t2 l2 : List Int) (pa : Option Addr) (pn pc : Nat) (ps : List Prt) (ya : Option Addr) (yn yc : Nat) (ds : List (List Int)) (w : World) (_hL : -9223372036854775808 ≤ L ∧ L < 9223372036854775808) (_hV : -9223372036854775808 ≤ V ∧ V < 9223372036854775808) (_hk : -9223372036854775808 ≤ k ∧ k < 9223372036854775808) (_hq : -9223372036854775808 ≤ q ∧ q < 9223372036854775808) (_hk2 : -9223372036854775808 ≤ k2 ∧ k2 < 9223372036854775808) (_hroot : Dg root) (_hpub : Dg pub) (hr : Dg r) (_htd : Dg t) (_hld : Dg l) (_ht2 : Dg t2) (_hl2 : Dg l2) (hP : PartsAt w pa pn pc ps) (hD : DigsAt w ya yn yc ds) (tab : ShaTab w) (hfw : fewP ps = false) :
    Calls Tryz.prog 3 #[.agg (pubC L V root pub).toArray, .agg (pubC k q t l).toArray, .agg (pubC k2 q2 t2 l2).toArray, .agg (sigC i r (.slice pa pn pc)).toArray, .slice ya yn yc] w fun e w' => e = .returned (.bool true) ∧ Below w.heap.size w w' := by
  have b1 := (Below.refl w.heap.size w).alloc (Nat.le_refl _) (.cells (pubC L V root pub).toArray 27 (0, 0))
  have b2 := b1.alloc b1.size (.cells (pubC k q t l).toArray 29 (0, 0))
  have b3 := b2.alloc b2.size (.cells (pubC k2 q2 t2 l2).toArray 29 (0, 0))
  have b4 := b3.alloc b3.size (.cells (sigC i r (.slice pa pn pc)).toArray 32 (0, 0))
  have Kp := hid ((((Blk.new (w := w) (n := w.heap.size) rfl (pubC L V root pub).toArray 27).old (.cells (pubC k q t l).toArray 29 (0, 0))).old (.cells (pubC k2 q2 t2 l2).toArray 29 (0, 0))).old (.cells (sigC i r (.slice pa pn pc)).toArray 32 (0, 0)))
  have Kh := hid (((Blk.new (w := (w.alloc (.cells (pubC L V root pub).toArray 27 (0, 0)))) (n := w.heap.size + 1) (by simp only [World.size_alloc]) (pubC k q t l).toArray 29).old (.cells (pubC k2 q2 t2 l2).toArray 29 (0, 0))).old (.cells (sigC i r (.slice pa pn pc)).toArray 32 (0, 0)))
  have Ko := hid ((Blk.new (w := ((w.alloc (.cells (pubC L V root pub).toArray 27 (0, 0))).alloc (.cells (pubC k q t l).toArray 29 (0, 0)))) (n := w.heap.size + 1 + 1) (by simp only [World.size_alloc]) (pubC k2 q2 t2 l2).toArray 29).old (.cells (sigC i r (.slice pa pn pc)).toArray 32 (0, 0)))
  have Kg := hid (Blk.new (w := (((w.alloc (.cells (pubC L V root pub).toArray 27 (0, 0))).alloc (.cells (pubC k q t l).toArray 29 (0, 0))).alloc (.cells (pubC k2 q2 t2 l2).toArray 29 (0, 0)))) (n := w.heap.size + 1 + 1 + 1) (by simp only [World.size_alloc]) (sigC i r (.slice pa pn pc)).toArray 32)
  have Hb := hid b4
  have hbz := b4.size
  have Hbs := hid (show w.heap.size + 1 + 1 + 1 + 1 = ((((w.alloc (.cells (pubC L V root pub).toArray 27 (0, 0))).alloc (.cells (pubC k q t l).toArray 29 (0, 0))).alloc (.cells (pubC k2 q2 t2 l2).toArray 29 (0, 0))).alloc (.cells (sigC i r (.slice pa pn pc)).toArray 32 (0, 0))).heap.size by simp only [World.size_alloc])
  have Htab := hid tab
  clear b1 b2 b3 b4 tab 
  have HP := hid hP
  have HDs := hid hD
  clear hP hD
  have FE := hid (fun (W : World) (h : PartsAt W pa pn pc ps) => reffew_any i r pa pn pc ps W hr h)
  rw [hfw] at FE
  go_enter Tryz.func3, Tryz.ntmps3
  go_wp2_with (refine wpList_load_blk rfl 32 _ rfl (w.heap.size + 1 + 1 + 1) rfl _ 32 Kg.out _ Tryz.underlying32 rfl 34 size_sig (sigC_size hr) ?_)
  refine (FE.out _ (HP.out.below Hb.out)).mono ?_
  rintro e w21 ⟨rfl, bw21⟩
  have HBw21 := hid (Below.on Hb.out bw21)
  have hsw21 := HBw21.out.size
  have Kpw21 := hid (Kp.out.below bw21)
  have Khw21 := hid (Kh.out.below bw21)
  have Kow21 := hid (Ko.out.below bw21)
  have Kgw21 := hid (Kg.out.below bw21)
  clear bw21
  go_wp2_with fail
  refine (knows22 _ (Htab.out.below HBw21.out)).mono ?_
  rintro e w22 ⟨rfl, bw22⟩
  have HBw22 := hid (Below.on HBw21.out bw22)
  have hsw22 := HBw22.out.size
  have Kpw22 := hid (Kpw21.out.below bw22)
  have Khw22 := hid (Khw21.out.below bw22)
  have Kow22 := hid (Kow21.out.below bw22)
  have Kgw22 := hid (Kgw21.out.below bw22)
  clear bw22
  go_wp2_with fail
  go_returns
  exact ⟨by first | rfl | simp, HBw22.out⟩
set_option maxHeartbeats 4000000 in
theorem heads_long (L V i k q k2 q2 : Int) (root pub r t l t2 l2 : List Int) (pa : Option Addr) (pn pc : Nat) (ps : List Prt) (ya : Option Addr) (yn yc : Nat) (ds : List (List Int)) (w : World) (_hL : -9223372036854775808 ≤ L ∧ L < 9223372036854775808) (_hV : -9223372036854775808 ≤ V ∧ V < 9223372036854775808) (_hk : -9223372036854775808 ≤ k ∧ k < 9223372036854775808) (_hq : -9223372036854775808 ≤ q ∧ q < 9223372036854775808) (_hk2 : -9223372036854775808 ≤ k2 ∧ k2 < 9223372036854775808) (_hroot : Dg root) (_hpub : Dg pub) (hr : Dg r) (_htd : Dg t) (_hld : Dg l) (_ht2 : Dg t2) (_hl2 : Dg l2) (hP : PartsAt w pa pn pc ps) (hD : DigsAt w ya yn yc ds) (tab : ShaTab w) (hfw : fewP ps = true) (hyn : 40 < yn) :
    Calls Tryz.prog 3 #[.agg (pubC L V root pub).toArray, .agg (pubC k q t l).toArray, .agg (pubC k2 q2 t2 l2).toArray, .agg (sigC i r (.slice pa pn pc)).toArray, .slice ya yn yc] w fun e w' => e = .returned (.bool true) ∧ Below w.heap.size w w' := by
  have b1 := (Below.refl w.heap.size w).alloc (Nat.le_refl _) (.cells (pubC L V root pub).toArray 27 (0, 0))
  have b2 := b1.alloc b1.size (.cells (pubC k q t l).toArray 29 (0, 0))
  have b3 := b2.alloc b2.size (.cells (pubC k2 q2 t2 l2).toArray 29 (0, 0))
  have b4 := b3.alloc b3.size (.cells (sigC i r (.slice pa pn pc)).toArray 32 (0, 0))
  have Kp := hid ((((Blk.new (w := w) (n := w.heap.size) rfl (pubC L V root pub).toArray 27).old (.cells (pubC k q t l).toArray 29 (0, 0))).old (.cells (pubC k2 q2 t2 l2).toArray 29 (0, 0))).old (.cells (sigC i r (.slice pa pn pc)).toArray 32 (0, 0)))
  have Kh := hid (((Blk.new (w := (w.alloc (.cells (pubC L V root pub).toArray 27 (0, 0)))) (n := w.heap.size + 1) (by simp only [World.size_alloc]) (pubC k q t l).toArray 29).old (.cells (pubC k2 q2 t2 l2).toArray 29 (0, 0))).old (.cells (sigC i r (.slice pa pn pc)).toArray 32 (0, 0)))
  have Ko := hid ((Blk.new (w := ((w.alloc (.cells (pubC L V root pub).toArray 27 (0, 0))).alloc (.cells (pubC k q t l).toArray 29 (0, 0)))) (n := w.heap.size + 1 + 1) (by simp only [World.size_alloc]) (pubC k2 q2 t2 l2).toArray 29).old (.cells (sigC i r (.slice pa pn pc)).toArray 32 (0, 0)))
  have Kg := hid (Blk.new (w := (((w.alloc (.cells (pubC L V root pub).toArray 27 (0, 0))).alloc (.cells (pubC k q t l).toArray 29 (0, 0))).alloc (.cells (pubC k2 q2 t2 l2).toArray 29 (0, 0)))) (n := w.heap.size + 1 + 1 + 1) (by simp only [World.size_alloc]) (sigC i r (.slice pa pn pc)).toArray 32)
  have Hb := hid b4
  have hbz := b4.size
  have Hbs := hid (show w.heap.size + 1 + 1 + 1 + 1 = ((((w.alloc (.cells (pubC L V root pub).toArray 27 (0, 0))).alloc (.cells (pubC k q t l).toArray 29 (0, 0))).alloc (.cells (pubC k2 q2 t2 l2).toArray 29 (0, 0))).alloc (.cells (sigC i r (.slice pa pn pc)).toArray 32 (0, 0))).heap.size by simp only [World.size_alloc])
  have Htab := hid tab
  clear b1 b2 b3 b4 tab 
  have HP := hid hP
  have HDs := hid hD
  clear hP hD
  have FE := hid (fun (W : World) (h : PartsAt W pa pn pc ps) => reffew_any i r pa pn pc ps W hr h)
  rw [hfw] at FE
  have hy : (40 : Int) < (yn : Int) := by omega
  go_enter Tryz.func3, Tryz.ntmps3
  go_wp2_with (refine wpList_load_blk rfl 32 _ rfl (w.heap.size + 1 + 1 + 1) rfl _ 32 Kg.out _ Tryz.underlying32 rfl 34 size_sig (sigC_size hr) ?_)
  refine (FE.out _ (HP.out.below Hb.out)).mono ?_
  rintro e w21 ⟨rfl, bw21⟩
  have HBw21 := hid (Below.on Hb.out bw21)
  have hsw21 := HBw21.out.size
  have Kpw21 := hid (Kp.out.below bw21)
  have Khw21 := hid (Kh.out.below bw21)
  have Kow21 := hid (Ko.out.below bw21)
  have Kgw21 := hid (Kg.out.below bw21)
  clear bw21
  go_wp2_with fail
  refine (knows22 _ (Htab.out.below HBw21.out)).mono ?_
  rintro e w22 ⟨rfl, bw22⟩
  have HBw22 := hid (Below.on HBw21.out bw22)
  have hsw22 := HBw22.out.size
  have Kpw22 := hid (Kpw21.out.below bw22)
  have Khw22 := hid (Khw21.out.below bw22)
  have Kow22 := hid (Kow21.out.below bw22)
  have Kgw22 := hid (Kgw21.out.below bw22)
  clear bw22
  go_wp2_with fail
  go_returns
  exact ⟨by first | rfl | simp, HBw22.out⟩
set_option maxHeartbeats 4000000 in
theorem heads_good (L V i k q k2 q2 : Int) (root pub r t l t2 l2 : List Int) (pa : Option Addr) (pn pc : Nat) (ps : List Prt) (ya : Option Addr) (yn yc : Nat) (ds : List (List Int)) (w : World) (hL : -9223372036854775808 ≤ L ∧ L < 9223372036854775808) (hV : -9223372036854775808 ≤ V ∧ V < 9223372036854775808) (hk : -9223372036854775808 ≤ k ∧ k < 9223372036854775808) (hq : -9223372036854775808 ≤ q ∧ q < 9223372036854775808) (hk2 : -9223372036854775808 ≤ k2 ∧ k2 < 9223372036854775808) (hroot : Dg root) (hpub : Dg pub) (hr : Dg r) (htd : Dg t) (hld : Dg l) (ht2 : Dg t2) (hl2 : Dg l2) (hP : PartsAt w pa pn pc ps) (hD : DigsAt w ya yn yc ds) (tab : ShaTab w) (hfw : fewP ps = true) (hyn : yn ≤ 40) :
    Calls Tryz.prog 3 #[.agg (pubC L V root pub).toArray, .agg (pubC k q t l).toArray, .agg (pubC k2 q2 t2 l2).toArray, .agg (sigC i r (.slice pa pn pc)).toArray, .slice ya yn yc] w fun e w' => e = .returned (.bool true) ∧ Below w.heap.size w w' := by
  have b1 := (Below.refl w.heap.size w).alloc (Nat.le_refl _) (.cells (pubC L V root pub).toArray 27 (0, 0))
  have b2 := b1.alloc b1.size (.cells (pubC k q t l).toArray 29 (0, 0))
  have b3 := b2.alloc b2.size (.cells (pubC k2 q2 t2 l2).toArray 29 (0, 0))
  have b4 := b3.alloc b3.size (.cells (sigC i r (.slice pa pn pc)).toArray 32 (0, 0))
  have Kp := hid ((((Blk.new (w := w) (n := w.heap.size) rfl (pubC L V root pub).toArray 27).old (.cells (pubC k q t l).toArray 29 (0, 0))).old (.cells (pubC k2 q2 t2 l2).toArray 29 (0, 0))).old (.cells (sigC i r (.slice pa pn pc)).toArray 32 (0, 0)))
  have Kh := hid (((Blk.new (w := (w.alloc (.cells (pubC L V root pub).toArray 27 (0, 0)))) (n := w.heap.size + 1) (by simp only [World.size_alloc]) (pubC k q t l).toArray 29).old (.cells (pubC k2 q2 t2 l2).toArray 29 (0, 0))).old (.cells (sigC i r (.slice pa pn pc)).toArray 32 (0, 0)))
  have Ko := hid ((Blk.new (w := ((w.alloc (.cells (pubC L V root pub).toArray 27 (0, 0))).alloc (.cells (pubC k q t l).toArray 29 (0, 0)))) (n := w.heap.size + 1 + 1) (by simp only [World.size_alloc]) (pubC k2 q2 t2 l2).toArray 29).old (.cells (sigC i r (.slice pa pn pc)).toArray 32 (0, 0)))
  have Kg := hid (Blk.new (w := (((w.alloc (.cells (pubC L V root pub).toArray 27 (0, 0))).alloc (.cells (pubC k q t l).toArray 29 (0, 0))).alloc (.cells (pubC k2 q2 t2 l2).toArray 29 (0, 0)))) (n := w.heap.size + 1 + 1 + 1) (by simp only [World.size_alloc]) (sigC i r (.slice pa pn pc)).toArray 32)
  have Hb := hid b4
  have hbz := b4.size
  have Hbs := hid (show w.heap.size + 1 + 1 + 1 + 1 = ((((w.alloc (.cells (pubC L V root pub).toArray 27 (0, 0))).alloc (.cells (pubC k q t l).toArray 29 (0, 0))).alloc (.cells (pubC k2 q2 t2 l2).toArray 29 (0, 0))).alloc (.cells (sigC i r (.slice pa pn pc)).toArray 32 (0, 0))).heap.size by simp only [World.size_alloc])
  have Htab := hid tab
  clear b1 b2 b3 b4 tab 
  have HP := hid hP
  have HDs := hid hD
  clear hP hD
  have FE := hid (fun (W : World) (h : PartsAt W pa pn pc ps) => reffew_any i r pa pn pc ps W hr h)
  rw [hfw] at FE
  have hy : ¬ (40 : Int) < (yn : Int) := by omega
  obtain ⟨G, G1, G2⟩ := grows_two l l2 q q2 ya yn yc ds hld hl2 hyn HDs.out.length
  have HG1 := hid G1
  have HG2 := hid G2
  have HZ1 := hid (headZ_length (k := k) (q := q) htd hld)
  have HZ2 := hid (keyZ_length (k := k2) (L := L) (V := V) ht2 hl2)
  have C1 := hid (fun (W : World) (a : Option Addr) (n c : Nat) (h : PartsAt W pa pn pc ps) (ht : TextAt W a n c (headZ k q t l)) (hn : n ≤ 1000) => refverify_b L V i root pub r pa pn pc ps a n c (headZ k q t l) W hr hroot hpub h ht (by omega))
  have C2 := hid (fun (W : World) (a : Option Addr) (n c : Nat) (h : PartsAt W pa pn pc ps) (ht : TextAt W a n c (keyZ k2 L V t2 l2)) (hn : n ≤ 1000) => refverify_b L V i root pub r pa pn pc ps a n c (keyZ k2 L V t2 l2) W hr hroot hpub h ht (by omega))
  have C3 := hid (fun (W : World) (h : PartsAt W pa pn pc ps) (tb : ShaTab W) => vhead_any L V i root pub r k q t l pa pn pc ps W hk hq htd hld hr hroot hpub h tb)
  have C4 := hid (fun (W : World) (h : PartsAt W pa pn pc ps) (tb : ShaTab W) => vnext_any L V i root pub r k2 L V t2 l2 pa pn pc ps W hk2 hL hV ht2 hl2 hr hroot hpub h tb)
  have C5 := hid (fun (W : World) => refheadtext_any k q t l W hk hq htd hld)
  have C6 := hid (fun (W : World) => refkeytext_any k2 L V t2 l2 W hk2 hL hV ht2 hl2)
  have C7 := hid (fun (W : World) (h : DigsAt W ya yn yc ds) (tb : ShaTab W) => vgrows_any k q k2 q2 t l t2 l2 ya yn yc ds G W htd hld ht2 hl2 h tb HG1.out)
  clear G1 G2
  generalize verB L V i root pub r ps (headZ k q t l) = B1 at *
  generalize verB L V i root pub r ps (keyZ k2 L V t2 l2) = B2 at *
  generalize headZ k q t l = T1 at *
  generalize keyZ k2 L V t2 l2 = T2 at *
  go_enter Tryz.func3, Tryz.ntmps3
  go_wp2_with (refine wpList_load_blk rfl 32 _ rfl (w.heap.size + 1 + 1 + 1) rfl _ 32 Kg.out _ Tryz.underlying32 rfl 34 size_sig (sigC_size hr) ?_)
  refine (FE.out _ (HP.out.below Hb.out)).mono ?_
  rintro e w21 ⟨rfl, bw21⟩
  have HBw21 := hid (Below.on Hb.out bw21)
  have hsw21 := HBw21.out.size
  have Kpw21 := hid (Kp.out.below bw21)
  have Khw21 := hid (Kh.out.below bw21)
  have Kow21 := hid (Ko.out.below bw21)
  have Kgw21 := hid (Kg.out.below bw21)
  clear bw21
  go_wp2_with (first
     | (refine wpList_load_mid rfl 23 _ rfl (w.heap.size) 0 rfl _ _ (pubC_shape Kpw21.out) Tryz.underlying23 rfl size_shape ?_)
     | (refine wpList_load_mid rfl 25 _ rfl (w.heap.size + 1 + 1) 2 rfl _ _ (pubC_root Kow21.out) Tryz.underlying25 rfl (by rw [List.length_map, ht2.len]; exact size_digest) ?_)
     | (refine wpList_load_mid rfl 25 _ rfl (w.heap.size + 1 + 1) 34 rfl _ _ (pubC_pub ht2 Kow21.out) Tryz.underlying25 rfl (by rw [List.length_map, hl2.len]; exact size_digest) ?_)
     | (refine wpList_buildv rfl 27 _ rfl [(0, .agg (shC L V)), (1, .agg (t2.map (Value.int .u8)).toArray), (2, .agg (l2.map (Value.int .u8)).toArray)] rfl _ (build_pub L V t2 l2 ht2 hl2) ?_)
     | (
        refine wpList_store_blk rfl 27 _ _ rfl (w21.heap.size) (pubC L V t2 l2).toArray rfl rfl _ 27 (Blk.new rfl zPub.toArray _) 66 size_public zPub_size (pubC_size ht2 hl2) (pubC_ones L V t2 l2) ?_
        intro w22 hbw22 hkw22
        have hw22 := hbw22.below ((Below.refl w21.heap.size w21).alloc (Nat.le_refl _) _) (by simp only [World.size_alloc]; omega) (Nat.le_refl _)
        have HBw22 := hid (Below.on HBw21.out hw22)
        have hsw22 := HBw22.out.size
        have Kpw22 := hid (Kpw21.out.below hw22)
        have hlpw22 := Kpw21.out.lt
        have Khw22 := hid (Khw21.out.below hw22)
        have hlhw22 := Khw21.out.lt
        have Kow22 := hid (Kow21.out.below hw22)
        have hlow22 := Kow21.out.lt
        have Kgw22 := hid (Kgw21.out.below hw22)
        have hlgw22 := Kgw21.out.lt
        have Knw22 := hid hkw22
        have hfw22 : w.heap.size ≤ w21.heap.size := HBw21.out.size
        clear hbw22 hkw22 hw22))
  simp only [Act.put]
  refine wp_region_flow 12 [0, 1, 2, 3, 4, 5, 6, 7, 8, 9] [] [(.c 10, [], []), (.c 11, [], [])] (by kernel_rfl) (by kernel_rfl) ?_
  apply Exists.intro
  refine ⟨fun w0 hb0 hF0 => ?_, ?_⟩
  · skip
    have x0 : ∀ w', (∃ x : Ext w0, w' = x.at_) → ∃ T, Blk w' (w.heap.size) (pubC L V root pub).toArray T := fun w' ⟨x, hx⟩ => ⟨_, hx ▸ (Kpw22.out.below hb0).below x.same⟩
    have x1 : ∀ w', (∃ x : Ext w0, w' = x.at_) → ∃ T, Blk w' (w.heap.size + 1 + 1 + 1) (sigC i r (.slice pa pn pc)).toArray T := fun w' ⟨x, hx⟩ => ⟨_, hx ▸ (Kgw22.out.below hb0).below x.same⟩
    have y0 : ∀ w', (∃ x : Ext w0, w' = x.at_) → w'.cell? ⟨w.heap.size + 1, 0, none⟩ = some (.int .i64 k) := fun w' ⟨x, hx⟩ => by rw [hx, ((Khw22.out.below hb0).below x.same).cell]; rfl
    have y1 : ∀ w', (∃ x : Ext w0, w' = x.at_) → w'.cell? ⟨w.heap.size + 1, 1, none⟩ = some (.int .i64 q) := fun w' ⟨x, hx⟩ => by rw [hx, ((Khw22.out.below hb0).below x.same).cell]; rfl
    have z0 : ∀ w', (∃ x : Ext w0, w' = x.at_) → w'.rangeAt (w.heap.size + 1) 2 (t.map (Value.int .u8)) := fun w' ⟨x, hx⟩ => hx ▸ pubC_root ((Khw22.out.below hb0).below x.same)
    have z1 : ∀ w', (∃ x : Ext w0, w' = x.at_) → w'.rangeAt (w.heap.size + 1) 34 (l.map (Value.int .u8)) := fun w' ⟨x, hx⟩ => hx ▸ pubC_pub htd ((Khw22.out.below hb0).below x.same)
    simp only [pick, List.getElem?_toArray, List.getElem?_cons_succ, List.getElem?_cons_zero, Option.toList_some, List.cons_append, List.nil_append]
    repeat (first | (go_big_quiet_want; refine quiet_load_blk 27 _ rfl (w.heap.size) rfl _ x0 _ Tryz.underlying27 rfl 66 size_public (pubC_size hroot hpub) ?_; go_big_quiet_on; simp only [Act.put, List.setIfInBounds_toArray, List.set_cons_zero, List.set_cons_succ]) | (go_big_quiet_want; refine quiet_load_blk 32 _ rfl (w.heap.size + 1 + 1 + 1) rfl _ x1 _ Tryz.underlying32 rfl 34 size_sig (sigC_size hr) ?_; go_big_quiet_on; simp only [Act.put, List.setIfInBounds_toArray, List.set_cons_zero, List.set_cons_succ]) | (go_big_quiet_want; refine quiet_load_one 3 _ rfl ⟨w.heap.size + 1, 0, none⟩ rfl _ y0 _ Tryz.underlying3 rfl ?_; go_big_quiet_on; simp only [Act.put, List.setIfInBounds_toArray, List.set_cons_zero, List.set_cons_succ]) | (go_big_quiet_want; refine quiet_load_one 3 _ rfl ⟨w.heap.size + 1, 1, none⟩ rfl _ y1 _ Tryz.underlying3 rfl ?_; go_big_quiet_on; simp only [Act.put, List.setIfInBounds_toArray, List.set_cons_zero, List.set_cons_succ]) | (go_big_quiet_want; refine quiet_load_mid 25 _ rfl (w.heap.size + 1) 2 rfl _ z0 _ Tryz.underlying25 rfl (by rw [List.length_map, htd.len]; exact size_digest) ?_; go_big_quiet_on; simp only [Act.put, List.setIfInBounds_toArray, List.set_cons_zero, List.set_cons_succ]) | (go_big_quiet_want; refine quiet_load_mid 25 _ rfl (w.heap.size + 1) 34 rfl _ z1 _ Tryz.underlying25 rfl (by rw [List.length_map, hld.len]; exact size_digest) ?_; go_big_quiet_on; simp only [Act.put, List.setIfInBounds_toArray, List.set_cons_zero, List.set_cons_succ]) | go_big_quiet_step (fail))
    exact wpQuiet_nil rfl
  refine AlChk.nil ?_
  refine Walk.call rfl 8 #[.int .i64 k, .int .i64 q, .agg (t.map (Value.int .u8)).toArray, .agg (l.map (Value.int .u8)).toArray] (TextV T1) (fun v w' w'' h k => h.below k) rfl (fun w1 hb1 hF1 => ⟨by go_simp, ?_⟩) ?_
  · skip
    refine (C5.out w1).mono ?_
    rintro e w2 ⟨v', rfl, b', t'⟩
    exact ⟨_, rfl, b', t'⟩
  rintro v0 w1 hb1 hF1 ⟨fa, fn, fc, rfl, _⟩
  apply Exists.intro
  refine ⟨fun w0 hb0 hF0 => ?_, ?_⟩
  · skip
    exact wpQuiet_nil rfl
  refine AlChk.nil ?_
  refine Walk.call rfl 7 #[.agg (pubC L V root pub).toArray, .agg (sigC i r (.slice pa pn pc)).toArray, .slice fa fn fc] (fun v _ => v = .bool B1) (fun _ _ _ h _ => h) rfl (fun w1 hb1 hF1 => ⟨by go_simp, ?_⟩) ?_
  · skip
    have ht : TextAt w1 fa fn fc T1 := (show TextV T1 (.slice fa fn fc) w1 from hF1.2).text
    have hn := ht.length
    refine (C1.out w1 fa fn fc (HP.out.below (Below.on HBw22.out hb1)) ht (by rw [← hn, HZ1.out]; omega)).mono ?_
    rintro e w2 ⟨rfl, b2⟩
    exact ⟨_, rfl, b2, rfl⟩
  rintro v1 w1 hb1 hF1 rfl
  apply Exists.intro
  refine ⟨fun w0 hb0 hF0 => ?_, ?_⟩
  · skip
    exact wpQuiet_nil rfl
  refine AlChk.nil ?_
  refine Walk.fin fun w23 hw23 hFw23 _ => ?_
  simp only [List.drop_succ_cons, List.drop_zero]
  have HFw23 := hid hFw23
  have HBw23 := hid (Below.on HBw22.out hw23)
  have hsw23 := HBw23.out.size
  have Kpw23 := hid (Kpw22.out.below hw23)
  have Khw23 := hid (Khw22.out.below hw23)
  have Kow23 := hid (Kow22.out.below hw23)
  have Kgw23 := hid (Kgw22.out.below hw23)
  have Knw23 := hid (Knw22.out.below hw23)
  clear hw23 hFw23
  go_wp2_with fail
  refine wp_region_flow 7 [0, 1, 2, 3, 4] [] [(.c 5, [], []), (.c 6, [], [])] (by kernel_rfl) (by kernel_rfl) ?_
  apply Exists.intro
  refine ⟨fun w0 hb0 hF0 => ?_, ?_⟩
  · skip
    have x0 : ∀ w', (∃ x : Ext w0, w' = x.at_) → ∃ T, Blk w' (w.heap.size) (pubC L V root pub).toArray T := fun w' ⟨x, hx⟩ => ⟨_, hx ▸ (Kpw23.out.below hb0).below x.same⟩
    have x1 : ∀ w', (∃ x : Ext w0, w' = x.at_) → ∃ T, Blk w' (w.heap.size + 1 + 1 + 1) (sigC i r (.slice pa pn pc)).toArray T := fun w' ⟨x, hx⟩ => ⟨_, hx ▸ (Kgw23.out.below hb0).below x.same⟩
    have x2 : ∀ w', (∃ x : Ext w0, w' = x.at_) → ∃ T, Blk w' (w21.heap.size) (pubC L V t2 l2).toArray T := fun w' ⟨x, hx⟩ => ⟨_, hx ▸ (Knw23.out.below hb0).below x.same⟩
    have y0 : ∀ w', (∃ x : Ext w0, w' = x.at_) → w'.cell? ⟨w.heap.size + 1 + 1, 0, none⟩ = some (.int .i64 k2) := fun w' ⟨x, hx⟩ => by rw [hx, ((Kow23.out.below hb0).below x.same).cell]; rfl
    simp only [pick, List.getElem?_toArray, List.getElem?_cons_succ, List.getElem?_cons_zero, Option.toList_some, List.cons_append, List.nil_append]
    repeat (first | (go_big_quiet_want; refine quiet_load_blk 27 _ rfl (w.heap.size) rfl _ x0 _ Tryz.underlying27 rfl 66 size_public (pubC_size hroot hpub) ?_; go_big_quiet_on; simp only [Act.put, List.setIfInBounds_toArray, List.set_cons_zero, List.set_cons_succ]) | (go_big_quiet_want; refine quiet_load_blk 32 _ rfl (w.heap.size + 1 + 1 + 1) rfl _ x1 _ Tryz.underlying32 rfl 34 size_sig (sigC_size hr) ?_; go_big_quiet_on; simp only [Act.put, List.setIfInBounds_toArray, List.set_cons_zero, List.set_cons_succ]) | (go_big_quiet_want; refine quiet_load_blk 27 _ rfl (w21.heap.size) rfl _ x2 _ Tryz.underlying27 rfl 66 size_public (pubC_size ht2 hl2) ?_; go_big_quiet_on; simp only [Act.put, List.setIfInBounds_toArray, List.set_cons_zero, List.set_cons_succ]) | (go_big_quiet_want; refine quiet_load_one 3 _ rfl ⟨w.heap.size + 1 + 1, 0, none⟩ rfl _ y0 _ Tryz.underlying3 rfl ?_; go_big_quiet_on; simp only [Act.put, List.setIfInBounds_toArray, List.set_cons_zero, List.set_cons_succ]) | go_big_quiet_step (fail))
    exact wpQuiet_nil rfl
  refine AlChk.nil ?_
  refine Walk.call rfl 9 #[.int .i64 k2, .agg (pubC L V t2 l2).toArray] (TextV T2) (fun v w' w'' h k => h.below k) rfl (fun w1 hb1 hF1 => ⟨by go_simp, ?_⟩) ?_
  · skip
    refine (C6.out w1).mono ?_
    rintro e w2 ⟨v', rfl, b', t'⟩
    exact ⟨_, rfl, b', t'⟩
  rintro v0 w1 hb1 hF1 ⟨fa, fn, fc, rfl, _⟩
  apply Exists.intro
  refine ⟨fun w0 hb0 hF0 => ?_, ?_⟩
  · skip
    exact wpQuiet_nil rfl
  refine AlChk.nil ?_
  refine Walk.call rfl 7 #[.agg (pubC L V root pub).toArray, .agg (sigC i r (.slice pa pn pc)).toArray, .slice fa fn fc] (fun v _ => v = .bool B2) (fun _ _ _ h _ => h) rfl (fun w1 hb1 hF1 => ⟨by go_simp, ?_⟩) ?_
  · skip
    have ht : TextAt w1 fa fn fc T2 := (show TextV T2 (.slice fa fn fc) w1 from hF1.2).text
    have hn := ht.length
    refine (C2.out w1 fa fn fc (HP.out.below (Below.on HBw23.out hb1)) ht (by rw [← hn, HZ2.out]; omega)).mono ?_
    rintro e w2 ⟨rfl, b2⟩
    exact ⟨_, rfl, b2, rfl⟩
  rintro v1 w1 hb1 hF1 rfl
  apply Exists.intro
  refine ⟨fun w0 hb0 hF0 => ?_, ?_⟩
  · skip
    exact wpQuiet_nil rfl
  refine AlChk.nil ?_
  refine Walk.fin fun w24 hw24 hFw24 _ => ?_
  simp only [List.drop_succ_cons, List.drop_zero]
  have HFw24 := hid hFw24
  have HBw24 := hid (Below.on HBw23.out hw24)
  have hsw24 := HBw24.out.size
  have Kpw24 := hid (Kpw23.out.below hw24)
  have Khw24 := hid (Khw23.out.below hw24)
  have Kow24 := hid (Kow23.out.below hw24)
  have Kgw24 := hid (Kgw23.out.below hw24)
  have Knw24 := hid (Knw23.out.below hw24)
  clear hw24 hFw24
  have ch1a : w24.cell? ⟨w.heap.size + 1, 1, none⟩ = some (.int .i64 q) := by rw [Khw24.out.cell]; rfl
  have co1a : w24.cell? ⟨w.heap.size + 1 + 1, 1, none⟩ = some (.int .i64 q2) := by rw [Kow24.out.cell]; rfl
  have co0a : w24.cell? ⟨w.heap.size + 1 + 1, 0, none⟩ = some (.int .i64 k2) := by rw [Kow24.out.cell]; rfl
  go_wp2_with (first
     | (refine wpList_load_mid rfl 25 _ rfl (w.heap.size + 1) 34 rfl _ _ (pubC_pub htd Khw24.out) Tryz.underlying25 rfl (by rw [List.length_map, hld.len]; exact size_digest) ?_)
     | (refine wpList_load_mid rfl 25 _ rfl (w.heap.size + 1 + 1) 34 rfl _ _ (pubC_pub ht2 Kow24.out) Tryz.underlying25 rfl (by rw [List.length_map, hl2.len]; exact size_digest) ?_))
  clear ch1a co1a co0a
  refine (HG2.out _ (HDs.out.below HBw24.out) (Htab.out.below HBw24.out)).mono ?_
  rintro e w25 ⟨rfl, bw25⟩
  have HBw25 := hid (Below.on HBw24.out bw25)
  have hsw25 := HBw25.out.size
  have Kpw25 := hid (Kpw24.out.below bw25)
  have Khw25 := hid (Khw24.out.below bw25)
  have Kow25 := hid (Kow24.out.below bw25)
  have Kgw25 := hid (Kgw24.out.below bw25)
  have Knw25 := hid (Knw24.out.below bw25)
  clear bw25
  go_wp2_with (first
     | (refine wpList_load_blk rfl 27 _ rfl (w.heap.size) rfl _ 27 Kpw25.out _ Tryz.underlying27 rfl 66 size_public (pubC_size hroot hpub) ?_)
     | (refine wpList_load_blk rfl 29 _ rfl (w.heap.size + 1) rfl _ 29 Khw25.out _ Tryz.underlying29 rfl 66 size_head (pubC_size htd hld) ?_)
     | (refine wpList_load_blk rfl 32 _ rfl (w.heap.size + 1 + 1 + 1) rfl _ 32 Kgw25.out _ Tryz.underlying32 rfl 34 size_sig (sigC_size hr) ?_))
  refine (C3.out _ (HP.out.below HBw25.out) (Htab.out.below HBw25.out)).mono ?_
  rintro e w26 ⟨rfl, bw26⟩
  have HBw26 := hid (Below.on HBw25.out bw26)
  have hsw26 := HBw26.out.size
  have Kpw26 := hid (Kpw25.out.below bw26)
  have Khw26 := hid (Khw25.out.below bw26)
  have Kow26 := hid (Kow25.out.below bw26)
  have Kgw26 := hid (Kgw25.out.below bw26)
  have Knw26 := hid (Knw25.out.below bw26)
  clear bw26
  have ch1b : w26.cell? ⟨w.heap.size + 1, 1, none⟩ = some (.int .i64 q) := by rw [Khw26.out.cell]; rfl
  have co1b : w26.cell? ⟨w.heap.size + 1 + 1, 1, none⟩ = some (.int .i64 q2) := by rw [Kow26.out.cell]; rfl
  have co0b : w26.cell? ⟨w.heap.size + 1 + 1, 0, none⟩ = some (.int .i64 k2) := by rw [Kow26.out.cell]; rfl
  go_wp2_with (first
     | (with_reducible show wpList _ _ _ (⟨some 67, _, _, _, _, _⟩ :: _) _ _; refine wpList_load_blk_if (by first | rfl | go_simp) 27 _ rfl (w.heap.size) rfl _ 27 Kpw26.out _ Tryz.underlying27 rfl 66 size_public (pubC_size hroot hpub) ?_)
     | (with_reducible show wpList _ _ _ (⟨some 70, _, _, _, _, _⟩ :: _) _ _; refine wpList_load_blk_if (by first | rfl | go_simp) 27 _ rfl (w21.heap.size) rfl _ 27 Knw26.out _ Tryz.underlying27 rfl 66 size_public (pubC_size ht2 hl2) ?_)
     | (with_reducible show wpList _ _ _ (⟨some 71, _, _, _, _, _⟩ :: _) _ _; refine wpList_load_blk_if (by first | rfl | go_simp) 32 _ rfl (w.heap.size + 1 + 1 + 1) rfl _ 32 Kgw26.out _ Tryz.underlying32 rfl 34 size_sig (sigC_size hr) ?_))
  clear ch1b co1b co0b
  refine (C4.out _ (HP.out.below HBw26.out) (Htab.out.below HBw26.out)).mono ?_
  rintro e w27 ⟨rfl, bw27⟩
  have HBw27 := hid (Below.on HBw26.out bw27)
  have hsw27 := HBw27.out.size
  have Kpw27 := hid (Kpw26.out.below bw27)
  have Khw27 := hid (Khw26.out.below bw27)
  have Kow27 := hid (Kow26.out.below bw27)
  have Kgw27 := hid (Kgw26.out.below bw27)
  have Knw27 := hid (Knw26.out.below bw27)
  clear bw27
  go_wp2_with (first
     | (with_reducible show wpList _ _ _ (⟨some 77, _, _, _, _, _⟩ :: _) _ _; refine wpList_load_blk_if (by first | rfl | go_simp) 29 _ rfl (w.heap.size + 1) rfl _ 29 Khw27.out _ Tryz.underlying29 rfl 66 size_head (pubC_size htd hld) ?_)
     | (with_reducible show wpList _ _ _ (⟨some 78, _, _, _, _, _⟩ :: _) _ _; refine wpList_load_blk_if (by first | rfl | go_simp) 29 _ rfl (w.heap.size + 1 + 1) rfl _ 29 Kow27.out _ Tryz.underlying29 rfl 66 size_head (pubC_size ht2 hl2) ?_))
  refine (C7.out _ (HDs.out.below HBw27.out) (Htab.out.below HBw27.out)).mono ?_
  rintro e w28 ⟨rfl, bw28⟩
  have HBw28 := hid (Below.on HBw27.out bw28)
  have hsw28 := HBw28.out.size
  have Kpw28 := hid (Kpw27.out.below bw28)
  have Khw28 := hid (Khw27.out.below bw28)
  have Kow28 := hid (Kow27.out.below bw28)
  have Kgw28 := hid (Kgw27.out.below bw28)
  have Knw28 := hid (Knw27.out.below bw28)
  clear bw28
  go_wp2_with fail
  refine (knows22 _ (Htab.out.below HBw28.out)).mono ?_
  rintro e w29 ⟨rfl, bw29⟩
  have HBw29 := hid (Below.on HBw28.out bw29)
  have hsw29 := HBw29.out.size
  have Kpw29 := hid (Kpw28.out.below bw29)
  have Khw29 := hid (Khw28.out.below bw29)
  have Kow29 := hid (Kow28.out.below bw29)
  have Kgw29 := hid (Kgw28.out.below bw29)
  have Knw29 := hid (Knw28.out.below bw29)
  clear bw29
  go_wp2_with fail
  go_returns
  exact ⟨by first | rfl | simp, HBw29.out⟩
theorem verifyHeads_any (L V i k q k2 q2 : Int) (root pub r t l t2 l2 : List Int) (pa : Option Addr) (pn pc : Nat) (ps : List Prt) (ya : Option Addr) (yn yc : Nat) (ds : List (List Int)) (w : World) (hL : -9223372036854775808 ≤ L ∧ L < 9223372036854775808) (hV : -9223372036854775808 ≤ V ∧ V < 9223372036854775808) (hk : -9223372036854775808 ≤ k ∧ k < 9223372036854775808) (hq : -9223372036854775808 ≤ q ∧ q < 9223372036854775808) (hk2 : -9223372036854775808 ≤ k2 ∧ k2 < 9223372036854775808) (hroot : Dg root) (hpub : Dg pub) (hr : Dg r) (htd : Dg t) (hld : Dg l) (ht2 : Dg t2) (hl2 : Dg l2) (hP : PartsAt w pa pn pc ps) (hD : DigsAt w ya yn yc ds) (tab : ShaTab w) :
    Calls Tryz.prog 3 #[.agg (pubC L V root pub).toArray, .agg (pubC k q t l).toArray, .agg (pubC k2 q2 t2 l2).toArray, .agg (sigC i r (.slice pa pn pc)).toArray, .slice ya yn yc] w fun e w' => e = .returned (.bool true) ∧ Below w.heap.size w w' := by
  cases hf : fewP ps with
  | false => exact heads_many L V i k q k2 q2 root pub r t l t2 l2 pa pn pc ps ya yn yc ds w hL hV hk hq hk2 hroot hpub hr htd hld ht2 hl2 hP hD tab hf
  | true =>
    rcases Nat.lt_or_ge 40 yn with h | h
    · exact heads_long L V i k q k2 q2 root pub r t l t2 l2 pa pn pc ps ya yn yc ds w hL hV hk hq hk2 hroot hpub hr htd hld ht2 hl2 hP hD tab hf h
    · exact heads_good L V i k q k2 q2 root pub r t l t2 l2 pa pn pc ps ya yn yc ds w hL hV hk hq hk2 hroot hpub hr htd hld ht2 hl2 hP hD tab hf h
end Go.Proofs.YtkakoiaahgchmaaGreatDoor
