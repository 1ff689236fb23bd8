/-
  A region that draws its order, with calls that hand back new memory and with blocks that are made in no order: the walk takes what is made where it is first wanted.
-/
import Derived.Test.YtmpgnpkodapidaaDMPhases
namespace Go.Proofs.Ytmpgnpkodapidaa
namespace FlowB
open Go.RowKit

/-- A block of this kind stays, once it is made. -/
def St (R : World → World → Prop) (w : World) (obj : Obj) : Prop := ∀ w1 w2 b, R w w1 → R w1 w2 → w.heap.size ≤ b → w1.heap[b]? = some obj → w2.heap[b]? = some obj

section
variable {P : Program} {ops : Array Oper} {md : Region.Mode}

/-- An operation waits for another one, by way of others too. -/
def waitB_ (md : Region.Mode) (ops : Array Oper) : Nat → Nat → Nat → Bool
  | 0, t, i => Region.waitsFor md ops t i
  | n + 1, t, i => Region.waitsFor md ops t i || (List.range t).any fun j => Region.waitsFor md ops t j && waitB_ md ops n j i
set_option maxRecDepth 100000 in
theorem waitB_listed {listed : Array Bool} (hstep : ∀ j j', listed.getD j false = true → Region.waitsFor md ops j j' = true → listed.getD j' false = true) : ∀ (n t i : Nat), (∀ j, Region.waitsFor md ops t j = true → listed.getD j false = true) → waitB_ md ops n t i = true → listed.getD i false = true
  | 0, _, i, h, hw => h i hw
  | n + 1, t, i, h, hw => by
    simp only [waitB_, Bool.or_eq_true, List.any_eq_true, Bool.and_eq_true] at hw
    rcases hw with hw | ⟨j, _, h1, h2⟩
    · exact h i hw
    · exact waitB_listed hstep n j i (fun j' hw' => hstep j j' (h j h1) hw') h2

/-- What the theorem asks of the region. -/
structure Fg (md : Region.Mode) (ops : Array Oper) (N1 : Nat) : Prop where
  sel : ∀ (j : Nat) (o : Oper) cs b, ops[j]? = some o → o.op ≠ .select cs b
  le : N1 ≤ ops.size
  apart : ∀ i j, i < N1 → j < N1 → i ≠ j → ∀ d, (ops[i]?).bind (·.dst) = some d → (ops[j]?).bind (·.dst) ≠ some d
  tail : ∀ t i, t < ops.size → N1 ≤ t → i < N1 → waitB_ md ops 5 t i = true
  down : ∀ (j : Nat) (o : Oper) e, ops[j]? = some o → e ∈ o.after → Region.binds md e = true → e.on < j
  seq : Region.seqB md ops (ops.size - N1) N1 (full ops.size N1) = true
set_option maxRecDepth 100000 in
theorem Fg.level {N1 : Nat} (g : Fg md ops N1) {from_ lv : List Nat} (h : levB md ops N1 from_ lv = true) :
    (∀ o ∈ lv.filterMap (ops[·]?), ∃ j ∈ lv, ops[j]? = some o) ∧
    ((lv.filterMap (ops[·]?)).Pairwise fun x y => ∀ e, x.dst = some e → y.dst ≠ some e) ∧
    (∀ (k k' : Nat) (x y : Oper) (d : Tmp), (lv.filterMap (ops[·]?))[k]? = some x → (lv.filterMap (ops[·]?))[k']? = some y → k ≤ k' → y.dst = some d → d ∉ x.looksAt ops) := level_of g.le g.apart h

/-- A step of the walk: a call in its turn; a block that is made, met where it is first wanted. -/
inductive Nd where
  | c (j : Nat)
  | b (j : Nat)
abbrev Pend := List (Nat × (Nat → Value) × Obj)

/-- The operation makes this block, and yields a value made of its number. -/
def AlOK (P : Program) (ops : Array Oper) (R : World → World → Prop) (w : World) (A : Act) (F : World → Prop) (mk : Nat → Value) (obj : Obj) (o : Oper) : Prop :=
  (Region.wanted o (yielded ops A.tmps) = true ∧ ∀ w1, R w w1 → F w1 → (execOp A.eval o).run P w1 = .ok (.value (mk w1.heap.size)) (w1.alloc obj)) ∧ St R w obj

def AlChk (P : Program) (ops : Array Oper) (R : World → World → Prop) (w : World) (A : Act) (F : World → Prop) (K : Pend → Prop) : List Nat → Pend → Prop
  | [], pd => K pd
  | j :: al, pd => ∃ o, ops[j]? = some o ∧ ∃ mk obj, AlOK P ops R w A F mk obj o ∧ AlChk P ops R w A F K al ((j, mk, obj) :: pd)

def After (P : Program) (ops : Array Oper) (R : World → World → Prop) (w : World) (F : World → Prop) (K : Pend → Act → Prop) (lv al : List Nat) (pd : Pend) (A : Act) : Prop :=
  ∃ A', (∀ w1, R w w1 → F w1 → wpQuiet P ops (fun w' => ∃ x : Ext w1, w' = x.at_) (fun a' => a' = A') (pick ops lv) A) ∧ AlChk P ops R w A' F (fun pd' => K pd' A') al pd

/-- A call, or a builtin, or a store. -/
def NdB (P : Program) (ops : Array Oper) (R : World → World → Prop) (A : Act) (w1 : World) (Fact : Value → World → Prop) (o : Oper) : Prop :=
  Region.wanted o (yielded ops A.tmps) = true ∧
  ((∃ v w2, (execOp A.eval o).run P w1 = .ok (.value v) w2 ∧ R w1 w2 ∧ Fact v w2) ∨
   (∃ f args, (execOp A.eval o).run P w1 = .ok (.enter f args) w1 ∧ Calls P f args w1 fun e w2 => ∃ v, e = .returned v ∧ R w1 w2 ∧ Fact v w2) ∨
   ∃ w2, (execOp A.eval o).run P w1 = .ok .skip w2 ∧ R w1 w2 ∧ Fact undef w2)


def Walk (P : Program) (ops : Array Oper) (R : World → World → Prop) (w : World) (Fin : Act → World → Prop) : List (Nd × List Nat × List Nat) → Pend → Act → (World → Prop) → (World → Prop) → Prop
  | [], _, A, F, G => ∀ w1, R w w1 → F w1 → G w1 → Fin A w1
  | (.c j, lv, al) :: ph, pd, A, F, G => ∃ o, ops[j]? = some o ∧ ∃ Fact Gact : Value → World → Prop, (∀ v w' w'', R w w' → Fact v w' → R w' w'' → Fact v w'') ∧ (∀ v w' w'', Gact v w' → Below w'.heap.size w' w'' → Gact v w'') ∧
      (∀ w1, R w w1 → F w1 → G w1 → NdB P ops R A w1 (fun v w2 => Fact v w2 ∧ Gact v w2) o) ∧
      ∀ v w0, R w w0 → F w0 → Fact v w0 → After P ops R w (fun w1 => F w1 ∧ Fact v w1) (fun pd' A' => Walk P ops R w Fin ph pd' A' (fun w1 => F w1 ∧ Fact v w1) (Gact v)) lv al pd (A.put o.dst v)
  | (.b j, lv, al) :: ph, pd, A, F, G => ∃ o, ops[j]? = some o ∧ ∃ mk obj, (j, mk, obj) ∈ pd ∧
      ∀ b w0, R w w0 → F w0 → w.heap.size ≤ b → w0.heap[b]? = some obj → After P ops R w (fun w1 => F w1 ∧ w1.heap[b]? = some obj) (fun pd' A' => Walk P ops R w Fin ph pd' A' (fun w1 => F w1 ∧ w1.heap[b]? = some obj) G) lv al pd (A.put o.dst (mk b))

/-- the operations that these steps bring in -/
def intro_ : List (Nd × List Nat × List Nat) → List Nat
  | [] => []
  | (.c j, lv, al) :: ph => j :: (lv ++ al ++ intro_ ph)
  | (.b _, lv, al) :: ph => lv ++ al ++ intro_ ph

def alB (md : Region.Mode) (ops : Array Oper) (N1 : Nat) (from_ pend : List Nat) (al : List Nat) : Bool :=
  al.all fun j => decide (j < N1) && !from_.contains j && !pend.contains j && looksB md ops N1 from_ j

def waitB (md : Region.Mode) (ops : Array Oper) (j : Nat) (later : List Nat) : Bool :=
  later.all fun i => (j :: later).any fun i' => Region.waitsFor md ops i i'

def fB (md : Region.Mode) (ops : Array Oper) (N1 : Nat) : List Nat → List Nat → List (Nd × List Nat × List Nat) → Bool
  | from_, pend, [] => pend.all fun j => from_.contains j
  | from_, pend, (.c j, lv, al) :: ph => decide (j < N1) && !from_.contains j && !pend.contains j && looksB md ops N1 from_ j && levB md ops N1 (from_ ++ [j]) lv && (lv.all fun k => !pend.contains k) && alB md ops N1 (from_ ++ [j] ++ lv) pend al &&
      waitB md ops j (lv ++ al ++ intro_ ph) && fB md ops N1 (from_ ++ [j] ++ lv) (pend ++ al) ph
  | from_, pend, (.b j, lv, al) :: ph => pend.contains j && !from_.contains j && levB md ops N1 (from_ ++ [j]) lv && (lv.all fun k => !pend.contains k) && alB md ops N1 (from_ ++ [j] ++ lv) pend al &&
      waitB md ops j (lv ++ al ++ intro_ ph) && fB md ops N1 (from_ ++ [j] ++ lv) (pend ++ al) ph

def flowB (md : Region.Mode) (ops : Array Oper) (N1 : Nat) (lev al : List Nat) (ph : List (Nd × List Nat × List Nat)) : Bool :=
  Region.noSelect ops && decide (N1 ≤ ops.size) &&
  ((List.range N1).all fun i => (List.range N1).all fun j => decide (j ≤ i) || match (ops[i]?).bind (·.dst) with
    | some d => (ops[j]?).bind (·.dst) != some d
    | none => true) &&
  levB md ops N1 [] lev && alB md ops N1 lev [] al && fB md ops N1 lev al ph && ((List.range N1).all fun i => (lev ++ al ++ intro_ ph).contains i) &&
  ((List.range ops.size).all fun t => decide (t < N1) || (List.range N1).all fun i => waitB_ md ops 5 t i) &&
  ((List.range ops.size).all fun j => match ops[j]? with
    | some o => o.after.all fun e => !Region.binds md e || decide (e.on < j)
    | none => true) &&
  Region.seqB md ops (ops.size - N1) N1 (full ops.size N1)

set_option maxRecDepth 100000 in
theorem alB_at {N1 : Nat} {from_ pend al : List Nat} (h : alB md ops N1 from_ pend al = true) : ∀ j ∈ al, j < N1 ∧ j ∉ from_ ∧ j ∉ pend ∧ looksB md ops N1 from_ j = true := by
  intro j hj
  simp only [alB, List.all_eq_true, Bool.and_eq_true, decide_eq_true_eq, Bool.not_eq_true'] at h
  obtain ⟨⟨⟨h1, h2⟩, h3⟩, h4⟩ := h j hj
  exact ⟨h1, by simpa using h2, by simpa using h3, h4⟩

set_option maxRecDepth 100000 in
theorem levB_mem {N1 : Nat} {lv from_ : List Nat} (h : levB md ops N1 from_ lv = true) : ∀ j ∈ lv, j < N1 ∧ j ∉ from_ ∧ looksB md ops N1 (from_ ++ lv) j = true := by
  intro j hj
  obtain ⟨p, hp, he⟩ := List.getElem_of_mem hj
  have := levB_at lv _ h p j (by rw [List.getElem?_eq_getElem hp, he])
  refine ⟨this.1, fun hm => this.2.1 (List.mem_append_left _ hm), looksB_mono (fun k hk => ?_) this.2.2⟩
  rw [List.mem_append] at hk ⊢
  exact hk.imp id List.mem_of_mem_take

set_option maxRecDepth 100000 in
theorem fB_off {N1 : Nat} : ∀ (ph : List (Nd × List Nat × List Nat)) (from_ pend : List Nat), fB md ops N1 from_ pend ph = true → ∀ k ∈ intro_ ph, k ∉ from_ ∧ k ∉ pend
  | [], _, _, _, k, hk => by simp [intro_] at hk
  | (.c j, lv, al) :: ph, from_, pend, h, k, hk => by
    simp only [fB, Bool.and_eq_true, decide_eq_true_eq, Bool.not_eq_true'] at h
    obtain ⟨⟨⟨⟨⟨⟨⟨⟨h1, h2⟩, h3⟩, h4⟩, h5⟩, h6⟩, h7⟩, h8⟩, h9⟩ := h
    simp only [intro_, List.mem_cons, List.mem_append] at hk
    rcases hk with rfl | (hk | hk) | hk
    · exact ⟨by simpa using h2, by simpa using h3⟩
    · have := levB_mem h5 k hk
      have h6 := List.all_eq_true.1 h6 k hk
      exact ⟨fun h => this.2.1 (by simp [h]), by simpa using h6⟩
    · have := alB_at h7 k hk
      exact ⟨fun h => this.2.1 (by simp [h]), this.2.2.1⟩
    · have := fB_off ph _ _ h9 k hk
      exact ⟨fun h => this.1 (by simp [h]), fun h => this.2 (by simp [h])⟩
  | (.b j, lv, al) :: ph, from_, pend, h, k, hk => by
    simp only [fB, Bool.and_eq_true, Bool.not_eq_true'] at h
    obtain ⟨⟨⟨⟨⟨⟨h3, h2⟩, h5⟩, h6⟩, h7⟩, h8⟩, h9⟩ := h
    simp only [intro_, List.mem_append] at hk
    rcases hk with (hk | hk) | hk
    · have := levB_mem h5 k hk
      have h6 := List.all_eq_true.1 h6 k hk
      exact ⟨fun h => this.2.1 (by simp [h]), by simpa using h6⟩
    · have := alB_at h7 k hk
      exact ⟨fun h => this.2.1 (by simp [h]), this.2.2.1⟩
    · have := fB_off ph _ _ h9 k hk
      exact ⟨fun h => this.1 (by simp [h]), fun h => this.2 (by simp [h])⟩

/-- What a slot reads as behind a write, in a frame of n slots. -/
def slotV (n d : Nat) (v : Value) : Option Value := if d < n then some v else none
set_option maxRecDepth 100000 in
theorem put_slotV (c : Act) (d : Tmp) (v : Value) : (c.put (some d) v).tmps[d]? = slotV c.tmps.size d v := by
  simp only [Act.put, slotV]
  rw [Array.getElem?_setIfInBounds]
  simp

structure FInv (R : World → World → Prop) (P : Program) (md : Region.Mode) (ops : Array Oper) (N1 : Nat) (a0 : Act) (w : World) (from_ : List Nat) (pd : Pend) (A : Act) (F G : World → Prop) (listed : Array Bool) : Prop where
  lt : ∀ j ∈ from_, j < N1
  looks : ∀ j ∈ from_, looksB md ops N1 from_ j = true
  det : ∀ j ∈ from_, ∀ o, ops[j]? = some o → listed.getD j false = false → Det P ops R w A F o
  plt : ∀ p ∈ pd, p.1 < N1
  plooks : ∀ p ∈ pd, looksB md ops N1 from_ p.1 = true
  pok : ∀ p ∈ pd, ∀ o, ops[p.1]? = some o → AlOK P ops R w A F p.2.1 p.2.2 o
  old : ∀ d, (∀ k ∈ from_, (ops[k]?).bind (·.dst) ≠ some d) → A.tmps[d]? = a0.tmps[d]?
  sz : A.tmps.size = a0.tmps.size
  df : A.defers = a0.defers
  stab : ∀ w' w'', R w w' → F w' → R w' w'' → F w''
  gstab : ∀ w' w'', G w' → Below w'.heap.size w' w'' → G w''

structure FAt (R : World → World → Prop) (ops : Array Oper) (a0 : Act) (w : World) (from_ : List Nat) (pd : Pend) (A : Act) (F G : World → Prop) (listed : Array Bool) (a' : Act) (w' : World) : Prop where
  rel : R w w'
  fact : F w'
  gact : G w'
  sz : a'.tmps.size = A.tmps.size
  df : a'.defers = A.defers
  sub : ∀ j, listed.getD j false = true → j ∈ from_ ∨ ∃ p ∈ pd, p.1 = j
  on : ∀ j d, j ∈ from_ → listed.getD j false = true → (ops[j]?).bind (·.dst) = some d → a'.tmps[d]? = A.tmps[d]?
  onp : ∀ p ∈ pd, p.1 ∉ from_ → listed.getD p.1 false = true → ∃ b, w.heap.size ≤ b ∧ w'.heap[b]? = some p.2.2 ∧ ∀ d, (ops[p.1]?).bind (·.dst) = some d → a'.tmps[d]? = slotV a'.tmps.size d (p.2.1 b)
  off : ∀ d, (∀ j, listed.getD j false = true → (ops[j]?).bind (·.dst) ≠ some d) → a'.tmps[d]? = a0.tmps[d]?

set_option maxRecDepth 100000 in
/-- What an operation looks at stands in the frame as in the walk's, once all that it waits for has come up. -/
theorem fsame_of {R : World → World → Prop} {N1 i : Nat} {a0 A a' : Act} {w w' : World} {from_ : List Nat} {pd : Pend} {F G : World → Prop} {listed : Array Bool} {o : Oper} (hI : FInv R P md ops N1 a0 w from_ pd A F G listed) (hA : FAt R ops a0 w from_ pd A F G listed a' w')
    (hl : looksB md ops N1 from_ i = true) (ho : ops[i]? = some o) (hdeps : ∀ e ∈ o.after, Region.binds md e = true → listed.getD e.on false = true) : Same ops o a' A := by
  refine ⟨fun d hd => ?_⟩
  by_cases h : ∃ k, k < N1 ∧ (ops[k]?).bind (·.dst) = some d
  · obtain ⟨k, hk, hkd⟩ := h
    obtain ⟨hkf, hwf⟩ := looks_spec hl ho k d hk hkd hd
    obtain ⟨oj, hoj, e, he, hb, hon⟩ := Region.waitsFor_spec hwf
    have : oj = o := Option.some.inj (hoj.symm.trans ho)
    subst this
    have := hdeps e he hb
    rw [hon] at this
    exact hA.on k d hkf this hkd
  · rw [hA.off d (fun j hj hjd => h ⟨j, (hA.sub j hj).elim (hI.lt j) (fun ⟨p, hp, hpj⟩ => hpj ▸ hI.plt p hp), hjd⟩), hI.old d (fun k hk hkd => h ⟨k, hI.lt k hk, hkd⟩)]

set_option maxRecDepth 100000 in
theorem AlOK.mono {R : World → World → Prop} {w : World} {A A2 : Act} {F F2 : World → Prop} {mk : Nat → Value} {obj : Obj} {o : Oper} (h : AlOK P ops R w A F mk obj o) (hs : ∀ cs b, o.op ≠ .select cs b) (hF : ∀ w', F2 w' → F w') (hl : Same ops o A2 A) : AlOK P ops R w A2 F2 mk obj o :=
  ⟨⟨by rw [hl.wanted]; exact h.1.1, fun w1 hr hf => by rw [hl.exec hs]; exact h.1.2 w1 hr (hF w1 hf)⟩, h.2⟩

set_option maxRecDepth 100000 in
/-- The walk goes on behind a step whose operation has come up. -/
theorem enter {R : World → World → Prop} {N1 j : Nat} {a0 A A' a' : Act} {w w' : World} {from_ lv al : List Nat} {pd pd' : Pend} {F F2 G G2 : World → Prop} {listed : Array Bool} {o : Oper} {v : Value} (g : Fg md ops N1)
    (hI : FInv R P md ops N1 a0 w from_ pd A F G listed) (hj1 : j < N1) (hjf : j ∉ from_) (hjl : looksB md ops N1 from_ j = true) (ho : ops[j]? = some o) (hlj : listed.getD j false = true)
    (hrel : R w w') (hF2 : F2 w') (hG2 : G2 w') (hmono : ∀ w1, F2 w1 → F w1) (hstab : ∀ w1 w2, R w w1 → F2 w1 → R w1 w2 → F2 w2) (hgstab : ∀ w1 w2, G2 w1 → Below w1.heap.size w1 w2 → G2 w2)
    (hsz : a'.tmps.size = A.tmps.size) (hdf : a'.defers = A.defers) (hsub : ∀ i, listed.getD i false = true → i = j ∨ i ∈ from_ ∨ ∃ p ∈ pd, p.1 = i)
    (hon : ∀ i d, i ∈ from_ → listed.getD i false = true → (ops[i]?).bind (·.dst) = some d → a'.tmps[d]? = A.tmps[d]?)
    (honj : ∀ d, o.dst = some d → a'.tmps[d]? = slotV a'.tmps.size d v)
    (honp : ∀ p ∈ pd, p.1 ≠ j → p.1 ∉ from_ → listed.getD p.1 false = true → ∃ b, w.heap.size ≤ b ∧ w'.heap[b]? = some p.2.2 ∧ ∀ d, (ops[p.1]?).bind (·.dst) = some d → a'.tmps[d]? = slotV a'.tmps.size d (p.2.1 b))
    (hoff : ∀ d, (∀ i, listed.getD i false = true → (ops[i]?).bind (·.dst) ≠ some d) → a'.tmps[d]? = a0.tmps[d]?)
    (hwalk : ∀ w1, R w w1 → F2 w1 → wpQuiet P ops (fun w' => ∃ x : Ext w1, w' = x.at_) (fun a' => a' = A') (pick ops lv) (A.put o.dst v))
    (hlev : levB md ops N1 (from_ ++ [j]) lv = true) (hlp : ∀ k ∈ lv, ∀ p ∈ pd, p.1 ≠ k) (hal : ∀ k ∈ al, k < N1 ∧ k ∉ from_ ++ [j] ++ lv ∧ (∀ p ∈ pd, p.1 ≠ k) ∧ looksB md ops N1 (from_ ++ [j] ++ lv) k = true)
    (hpd : ∀ p ∈ pd', p ∈ pd ∨ (p.1 ∈ al ∧ ∀ o, ops[p.1]? = some o → AlOK P ops R w A' F2 p.2.1 p.2.2 o)) (hpd2 : ∀ p ∈ pd, p ∈ pd') :
    FInv R P md ops N1 a0 w (from_ ++ [j] ++ lv) pd' A' F2 G2 listed ∧ FAt R ops a0 w (from_ ++ [j] ++ lv) pd' A' F2 G2 listed a' w' := by
  have hlvlt := levB_mem hlev
  have hlvl := g.level hlev
  rw [← pick_eq] at hwalk
  obtain ⟨r1, r2, r3⟩ := walk_rest (hwalk w' hrel hF2)
  have hsz' : A'.tmps.size = A.tmps.size := by rw [r1, put_size]
  -- slots of older operations stay
  have hkeep : ∀ d, (∀ i, i = j ∨ i ∈ lv → (ops[i]?).bind (·.dst) ≠ some d) → A'.tmps[d]? = A.tmps[d]? := fun d hd => by
    rw [r3 d fun oo hoo he => by
      obtain ⟨i, hi, hoi⟩ := hlvl.1 oo hoo
      exact hd i (.inr hi) (by rw [hoi]; exact he)]
    exact put_get_ne _ _ _ _ fun he => hd j (.inl rfl) (by rw [ho]; exact he)
  have hkeep2 : ∀ i d, i ∈ from_ → (ops[i]?).bind (·.dst) = some d → A'.tmps[d]? = A.tmps[d]? := fun i d hi hid =>
    hkeep d fun i' hi' hid' => by
      have hne : i ≠ i' := by
        rintro rfl
        rcases hi' with rfl | hi'
        · exact hjf hi
        · exact (hlvlt i hi').2.1 (List.mem_append_left _ hi)
      refine g.apart i i' (hI.lt i hi) ?_ hne d hid hid'
      rcases hi' with rfl | hi'
      · exact hj1
      · exact (hlvlt i' hi').1
  have hnew : ∀ i, i = j ∨ i ∈ lv → i < N1 := fun i hi => by
    rcases hi with rfl | hi
    · exact hj1
    · exact (hlvlt i hi).1
  have hsameA : ∀ (i : Nat) (oi : Oper), ops[i]? = some oi → looksB md ops N1 from_ i = true → Same ops oi A' A := fun i oi hoi hl => ⟨fun d hd => by
    by_cases h : ∃ kk, kk < N1 ∧ (ops[kk]?).bind (·.dst) = some d
    · obtain ⟨kk, hk, hkd⟩ := h
      exact hkeep2 kk d (looks_spec hl hoi kk d hk hkd hd).1 hkd
    · exact hkeep d fun j' hj' hjd' => h ⟨j', hnew j' hj', hjd'⟩⟩
  have hmem : ∀ {k : Nat}, k ∈ from_ ++ [j] ++ lv → k ∈ from_ ∨ k = j ∨ k ∈ lv := fun hk => by simpa [or_assoc] using hk
  have hin : ∀ {k : Nat}, k ∈ from_ → k ∈ from_ ++ [j] ++ lv := fun hk => by simp [hk]
  -- what the walk brings in has not come up
  have hlv0 : ∀ k ∈ lv, listed.getD k false = false := fun k hk => by
    cases h : listed.getD k false
    · rfl
    · exfalso
      rcases hsub k h with rfl | h | ⟨p, hp, hpk⟩
      · exact (hlvlt k hk).2.1 (by simp)
      · exact (hlvlt k hk).2.1 (by simp [h])
      · exact hlp k hk p hp hpk
  have hal0 : ∀ k ∈ al, listed.getD k false = false := fun k hk => by
    cases h : listed.getD k false
    · rfl
    · exfalso
      obtain ⟨_, q2, q3, _⟩ := hal k hk
      rcases hsub k h with rfl | h | ⟨p, hp, hpk⟩
      · exact q2 (by simp)
      · exact q2 (by simp [h])
      · exact q3 p hp hpk
  refine ⟨⟨fun i hi => ?_, fun i hi => ?_, fun i hi oi hoi hl => ?_, fun p hp => ?_, fun p hp => ?_, fun p hp oi hoi => ?_, fun d hd => ?_, hsz'.trans hI.sz, by rw [r2, put_defers]; exact hI.df, hstab, hgstab⟩,
    ⟨hrel, hF2, hG2, by rw [hsz, hsz'], by rw [hdf, r2, put_defers], fun i hi => ?_, fun i d hi hl hid => ?_, fun p hp hpf hl => ?_, hoff⟩⟩
  · rcases hmem hi with hi | rfl | hi
    · exact hI.lt i hi
    · exact hj1
    · exact (hlvlt i hi).1
  · rcases hmem hi with hi | rfl | hi
    · exact looksB_mono (fun k hk => hin hk) (hI.looks i hi)
    · exact looksB_mono (fun k hk => hin hk) hjl
    · exact (hlvlt i hi).2.2
  · rcases hmem hi with hi | rfl | hi
    · refine (hI.det i hi oi hoi hl).mono hsz' hmono (hsameA i oi hoi (hI.looks i hi)) ?_
      cases hod : oi.dst with
      | none => rfl
      | some d =>
        have := hkeep2 i d hi (by rw [hoi]; exact hod)
        simp only [slotOf, Array.getD_eq_getD_getElem?, this]
    · rw [hlj] at hl; cases hl
    · refine det_of_walk ?_ hlvl.2.1 hlvl.2.2 hwalk oi (List.mem_filterMap.2 ⟨i, hi, hoi⟩)
      intro oo hoo cs b
      obtain ⟨i', _, hoi'⟩ := hlvl.1 oo hoo
      exact g.sel i' oo cs b hoi'
  · rcases hpd p hp with h | h
    · exact hI.plt p h
    · exact (hal _ h.1).1
  · rcases hpd p hp with h | h
    · exact looksB_mono (fun k hk => hin hk) (hI.plooks p h)
    · exact (hal _ h.1).2.2.2
  · rcases hpd p hp with h | h
    · exact (hI.pok p h oi hoi).mono (fun cs b => g.sel p.1 oi cs b hoi) hmono (hsameA p.1 oi hoi (hI.plooks p h))
    · exact h.2 oi hoi
  · rw [hkeep d fun i hi => hd i (by rcases hi with rfl | hi <;> simp [*])]
    exact hI.old d fun k hk => hd k (hin hk)
  · rcases hsub i hi with rfl | h | ⟨p, hp, hpi⟩
    · left; simp
    · left; exact hin h
    · right; exact ⟨p, hpd2 p hp, hpi⟩
  · rcases hmem hi with hi | rfl | hi
    · rw [hkeep2 i d hi hid]
      exact hon i d hi hl hid
    · have hod : o.dst = some d := by rw [ho] at hid; exact hid
      have e1 : A'.tmps[d]? = (A.put o.dst v).tmps[d]? := r3 d fun oo hoo he => by
        obtain ⟨i', hi', hoi'⟩ := hlvl.1 oo hoo
        refine g.apart i i' hj1 (hlvlt i' hi').1 ?_ d hid (by rw [hoi']; exact he)
        rintro rfl
        exact (hlvlt i hi').2.1 (by simp)
      rw [e1, hod, put_slotV, honj d hod, hsz]
    · rw [hlv0 i hi] at hl; cases hl
  · rcases hpd p hp with h | h
    · exact honp p h (fun he => hpf (by simp [he])) (fun hf => hpf (hin hf)) hl
    · rw [hal0 _ h.1] at hl; cases hl

set_option maxRecDepth 100000 in
theorem waitB_at {j : Nat} {later : List Nat} (h : waitB md ops j later = true) : ∀ i ∈ later, ∃ k, (k = j ∨ k ∈ later) ∧ Region.waitsFor md ops i k = true := by
  intro i hi
  simp only [waitB, List.all_eq_true, List.any_eq_true] at h
  obtain ⟨k, hk, hw⟩ := h i hi
  exact ⟨k, by simpa using hk, hw⟩

set_option maxRecDepth 100000 in
theorem AlChk.out {R : World → World → Prop} {w : World} {A : Act} {F : World → Prop} {K : Pend → Prop} : ∀ (al : List Nat) (pd : Pend), AlChk P ops R w A F K al pd →
    ∃ pd', K pd' ∧ (∀ p ∈ pd', p ∈ pd ∨ (p.1 ∈ al ∧ ∀ o, ops[p.1]? = some o → AlOK P ops R w A F p.2.1 p.2.2 o)) ∧ (∀ p ∈ pd, p ∈ pd') ∧ (∀ j, (∃ p ∈ pd', p.1 = j) ↔ (∃ p ∈ pd, p.1 = j) ∨ j ∈ al)
  | [], pd, h => ⟨pd, h, fun p hp => .inl hp, fun p hp => hp, fun j => by simp⟩
  | j :: al, pd, ⟨o, ho, mk, obj, hok, h⟩ => by
    obtain ⟨pd', h1, h2, h3, h4⟩ := AlChk.out al _ h
    refine ⟨pd', h1, fun p hp => ?_, fun p hp => h3 p (by simp [hp]), fun i => ?_⟩
    · rcases h2 p hp with h | h
      · simp only [List.mem_cons] at h
        rcases h with rfl | h
        · right
          refine ⟨by simp, fun o' ho' => ?_⟩
          have : o = o' := Option.some.inj (ho.symm.trans ho')
          subst this
          exact hok
        · exact .inl h
      · right; exact ⟨by simp [h.1], h.2⟩
    · rw [h4 i]
      simp only [List.mem_cons]
      constructor
      · rintro (⟨p, rfl | hp, hpi⟩ | h)
        · right; left; exact hpi.symm
        · left; exact ⟨p, hp, hpi⟩
        · right; right; exact h
      · rintro (⟨p, hp, hpi⟩ | rfl | h)
        · left; exact ⟨p, .inr hp, hpi⟩
        · left; exact ⟨_, .inl rfl, rfl⟩
        · right; exact h

set_option maxRecDepth 100000 in
theorem FInv.st {R : World → World → Prop} {N1 : Nat} {l : List Oper} {a0 A : Act} {w : World} {from_ : List Nat} {pd : Pend} {F G : World → Prop} {listed : Array Bool} (h : FInv R P md l.toArray N1 a0 w from_ pd A F G listed) (g : Fg md l.toArray N1) : ∀ p ∈ pd, St R w p.2.2 := fun p hp => by
  have h1 := h.plt p hp
  have h2 : N1 ≤ l.length := by simpa using g.le
  exact (h.pok p hp l[p.1] (by simp [show p.1 < l.length by omega])).2

set_option maxRecDepth 100000 in
theorem advance_b {R : World → World → Prop} (_hR : Rel R) {N1 : Nat} {l : List Oper} {a0 a' A : Act} {w w' : World} {Fin : Act → World → Prop} (g : Fg md l.toArray N1)
    (_hRs : ∀ w1, R w w1 → w.heap.size ≤ w1.heap.size)
    {j : Nat} {lv al : List Nat} {ph : List (Nd × List Nat × List Nat)} {from_ pend : List Nat} {pd : Pend} {F G : World → Prop} {listed : Array Bool} {C : Prop}
    (hpe : ∀ j, (∃ p ∈ pd, p.1 = j) ↔ j ∈ pend) (hph : fB md l.toArray N1 from_ pend ((.b j, lv, al) :: ph) = true) (hcov : ∀ i, i < N1 → i ∈ from_ ∨ i ∈ pend ∨ i ∈ intro_ ((.b j, lv, al) :: ph))
    (hlex : Walk P l.toArray R w Fin ((.b j, lv, al) :: ph) pd A F G) (hI : FInv R P md l.toArray N1 a0 w from_ pd A F G listed) (hA : FAt R l.toArray a0 w from_ pd A F G listed a' w') (hlj : listed.getD j false = true)
    (next : ∀ (from2 pend2 : List Nat) (pd2 : Pend) (A2 : Act) (F2 G2 : World → Prop), fB md l.toArray N1 from2 pend2 ph = true → (∀ j, (∃ p ∈ pd2, p.1 = j) ↔ j ∈ pend2) → (∀ i, i < N1 → i ∈ from2 ∨ i ∈ pend2 ∨ i ∈ intro_ ph) →
      Walk P l.toArray R w Fin ph pd2 A2 F2 G2 → FInv R P md l.toArray N1 a0 w from2 pd2 A2 F2 G2 listed → FAt R l.toArray a0 w from2 pd2 A2 F2 G2 listed a' w' → C) : C := by
  simp only [fB, Bool.and_eq_true, Bool.not_eq_true'] at hph
  obtain ⟨⟨⟨⟨⟨⟨h3, h2⟩, h5⟩, h6⟩, h7⟩, h8⟩, h9⟩ := hph
  have hjf : j ∉ from_ := by simpa using h2
  obtain ⟨o, ho, mk, obj, hmem, hnext⟩ := hlex
  obtain ⟨b, hb, hheap, hslot⟩ := hA.onp _ hmem hjf hlj
  obtain ⟨A', hq, hal⟩ := hnext b w' hA.rel hA.fact hb hheap
  obtain ⟨pd', hK, hp1, hp2, hp3⟩ := hal.out
  have hE := enter (o := o) (v := mk b) (F2 := fun w1 => F w1 ∧ w1.heap[b]? = some obj) (G2 := G) (lv := lv) (al := al) (pd' := pd') g hI (hI.plt _ hmem) hjf (hI.plooks _ hmem) ho hlj hA.rel ⟨hA.fact, hheap⟩ hA.gact (fun _ h => h.1)
    (fun w1 w2 hr h hr2 => ⟨hI.stab _ _ hr h.1 hr2, hI.st g _ hmem _ _ _ hr hr2 hb h.2⟩) hI.gstab hA.sz hA.df (fun i hi => .inr (hA.sub i hi)) hA.on (fun d hd => hslot d (by rw [ho]; exact hd)) (fun p hp _ => hA.onp p hp) hA.off hq h5
    (fun k hk p hp hpk => by
      have := List.all_eq_true.1 h6 k hk
      have h2 : k ∉ pend := by simpa using this
      exact h2 ((hpe k).1 ⟨p, hp, hpk⟩))
    (fun k hk => by
      obtain ⟨q1, q2, q3, q4⟩ := alB_at h7 k hk
      exact ⟨q1, q2, fun p hp hpk => q3 ((hpe k).1 ⟨p, hp, hpk⟩), q4⟩) hp1 hp2
  refine next _ _ pd' A' _ G h9 (fun i => ?_) (fun i hi => ?_) hK hE.1 hE.2
  · rw [hp3 i, hpe i, List.mem_append]
  · have := hcov i hi
    simp only [intro_, List.mem_append, List.mem_singleton] at this ⊢
    rcases this with h | h | (h | h) | h <;> simp [h]

set_option maxRecDepth 100000 in
theorem flow_step {R : World → World → Prop} (hR : Rel R) {N1 : Nat} {Q : Exit → Act → World → Prop} {l : List Oper} {a0 a' A : Act} {w w' : World} {Fin : Act → World → Prop} (g : Fg md l.toArray N1)
    (hRs : ∀ w1, R w w1 → w.heap.size ≤ w1.heap.size)
    {k : Nat} {ph : List (Nd × List Nat × List Nat)} {from_ pend : List Nat} {pd : Pend} {F G : World → Prop} {listed : Array Bool}
    (hs : listed.size = l.length) (ht : ∀ t, N1 ≤ t → listed.getD t false = false) (hcl : ∀ j o, l.toArray[j]? = some o → listed.getD j false = true → ∀ e ∈ o.after, Region.binds md e = true → listed.getD e.on false = true) (hc : cnt N1 listed = k + 1) (hph : fB md l.toArray N1 from_ pend ph = true) (hpe : ∀ j, (∃ p ∈ pd, p.1 = j) ↔ j ∈ pend) (hcov : ∀ i, i < N1 → i ∈ from_ ∨ i ∈ pend ∨ i ∈ intro_ ph)
    (hlex : Walk P l.toArray R w Fin ph pd A F G) (hI : FInv R P md l.toArray N1 a0 w from_ pd A F G listed) (hA : FAt R l.toArray a0 w from_ pd A F G listed a' w')
    (hb : ∀ j lv al ph', ph = (.b j, lv, al) :: ph' → listed.getD j false = false)
    (ih : ∀ (ph : List (Nd × List Nat × List Nat)) (listed : Array Bool) (a' : Act) (w' : World) (from_ pend : List Nat) (pd : Pend) (A : Act) (F G : World → Prop), listed.size = l.length → (∀ t, N1 ≤ t → listed.getD t false = false) → (∀ j o, l.toArray[j]? = some o → listed.getD j false = true → ∀ e ∈ o.after, Region.binds md e = true → listed.getD e.on false = true) → cnt N1 listed = k →
      fB md l.toArray N1 from_ pend ph = true → (∀ j, (∃ p ∈ pd, p.1 = j) ↔ j ∈ pend) → (∀ i, i < N1 → i ∈ from_ ∨ i ∈ pend ∨ i ∈ intro_ ph) → Walk P l.toArray R w Fin ph pd A F G →
      FInv R P md l.toArray N1 a0 w from_ pd A F G listed → FAt R l.toArray a0 w from_ pd A F G listed a' w' → wpAny P md l.toArray Q (k + (l.length - N1)) listed a' w') : wpAny P md l.toArray Q (k + 1 + (l.length - N1)) listed a' w' := by
  have hle3 : N1 ≤ l.length := by simpa using g.le
  obtain ⟨i0, hi0, hu0⟩ := cnt_succ hc
  rw [show k + 1 + (l.length - N1) = (k + (l.length - N1)) + 1 by omega]
  refine ⟨fun h0 => ?_, fun i hi => ?_⟩
  · obtain ⟨j, hj⟩ := ready_of g.down (listed := listed) (by simpa using hs) i0 (by simp; omega) hu0
    rw [h0] at hj; cases hj
  obtain ⟨hiu, o, ho, hdeps⟩ := mem_ready.1 hi
  have ho' : l[i]? = some o := by simpa using ho
  have hil : i < l.length := (List.getElem?_eq_some_iff.1 ho').1
  have hi1 : i < N1 := by
    rcases Nat.lt_or_ge i N1 with h | h
    · exact h
    · have hdir : ∀ j, Region.waitsFor md l.toArray i j = true → listed.getD j false = true := fun j hwf => by
        obtain ⟨oj, hoj, e, he, hb, hon⟩ := Region.waitsFor_spec hwf
        have : oj = o := Option.some.inj (hoj.symm.trans ho)
        subst this
        have := hdeps e he hb
        rwa [hon] at this
      have hstep : ∀ j j', listed.getD j false = true → Region.waitsFor md l.toArray j j' = true → listed.getD j' false = true := fun j j' hj hwf2 => by
        obtain ⟨oj, hoj, e, he, hb, hon⟩ := Region.waitsFor_spec hwf2
        have := hcl j oj hoj hj e he hb
        rwa [hon] at this
      have := waitB_listed hstep 5 i i0 hdir (g.tail i i0 (by simpa using hil) h hi0)
      rw [hu0] at this; cases this
  have hfn : listed.getD i false = false := getD_both hiu
  have hcnt := cnt_set hi1 (by omega) hfn
  have hseti : (listed.setIfInBounds i true).getD i false = true := by simp [hs, hil]
  have hset : ∀ j, (listed.setIfInBounds i true).getD j false = true → j = i ∨ listed.getD j false = true := fun j hj => by
    by_cases h : j = i
    · exact .inl h
    · right; rw [getD_set_ne false (Ne.symm h)] at hj; exact hj
  have hset2 : ∀ j, listed.getD j false = true → (listed.setIfInBounds i true).getD j false = true := fun j hj => by
    by_cases h : j = i
    · subst h; exact hseti
    · rw [getD_set_ne false (Ne.symm h)]; exact hj
  have hset3 : ∀ j, (listed.setIfInBounds i true).getD j false = false → listed.getD j false = false := fun j hj => by
    cases h : listed.getD j false
    · rfl
    · rw [hset2 j h] at hj; cases hj
  have htail' : ∀ t, N1 ≤ t → (listed.setIfInBounds i true).getD t false = false := fun t htt => by rw [getD_set_ne false (by omega)]; exact ht t htt
  have hcl' : ∀ j o', l.toArray[j]? = some o' → (listed.setIfInBounds i true).getD j false = true → ∀ e ∈ o'.after, Region.binds md e = true → (listed.setIfInBounds i true).getD e.on false = true := fun j o' hj hl e he hb => by
    rcases hset j hl with rfl | hl
    · have : o' = o := Option.some.inj (hj.symm.trans ho)
      subst this
      exact hset2 _ (hdeps e he hb)
    · exact hset2 _ (hcl j o' hj hl e he hb)
  have hdone : ∀ kk, Region.waitsFor md l.toArray i kk = true → listed.getD kk false = true := fun kk hwf => by
    obtain ⟨oj, hoj, e, he, hb, hon⟩ := Region.waitsFor_spec hwf
    have : oj = o := Option.some.inj (hoj.symm.trans ho)
    subst this
    have := hdeps e he hb
    rwa [hon] at this
  -- slots of the others stay
  have hput : ∀ (v : Value) (d : Tmp) (j : Nat), j < N1 → j ≠ i → (l.toArray[j]?).bind (·.dst) = some d → (a'.put o.dst v).tmps[d]? = a'.tmps[d]? := fun v d j hj hne hjd =>
    put_get_ne _ _ _ _ fun he => g.apart j i hj hi1 hne d hjd (by rw [ho]; exact he)
  by_cases hif : i ∈ from_
  · -- an operation whose value is known
    have hsame := fsame_of hI hA (hI.looks i hif) ho hdeps
    obtain ⟨v, hy, hputv⟩ := hI.det i hif o ho hfn w' hA.rel hA.fact a' hA.sz hsame
    refine wpOp_of_qOp (C := fun w'' => ∃ x : Ext w', w'' = x.at_) (K := fun a'' => a'' = a'.put o.dst v) ⟨⟨w', Below.refl _ _⟩, rfl⟩ ?_ (hy.qOp ho rfl)
    rintro a'' w'' ⟨x, rfl⟩ rfl
    have hrx := hR.of x.same
    rw [hputv a' hA.sz]
    refine ih ph _ _ _ from_ pend pd A F G (by simpa using hs) htail' hcl' (by omega) hph hpe hcov hlex ?_ ?_
    · exact ⟨hI.lt, hI.looks, fun j hj oj hoj hl => hI.det j hj oj hoj (hset3 j hl), hI.plt, hI.plooks, hI.pok, hI.old, hI.sz, hI.df, hI.stab, hI.gstab⟩
    · refine ⟨hR.trans hA.rel hrx, hI.stab _ _ hA.rel hA.fact hrx, hI.gstab _ _ hA.gact x.same, by rw [put_size]; exact hA.sz, by rw [put_defers]; exact hA.df, fun j hj => ?_, fun j d hjf hj hjd => ?_, fun p hp hpf hj => ?_, fun d hd => ?_⟩
      · rcases hset j hj with rfl | h
        · exact .inl hif
        · exact hA.sub j h
      · by_cases hod : o.dst = some d
        · rw [hod]; exact put_get_self a' A d hA.sz
        · rw [put_get_ne _ _ _ _ hod]
          rcases hset j hj with rfl | h
          · rw [ho] at hjd; exact absurd hjd hod
          · exact hA.on j d hjf h hjd
      · have hne : p.1 ≠ i := fun h => hpf (h ▸ hif)
        have hjl : listed.getD p.1 false = true := (hset _ hj).resolve_left hne
        obtain ⟨b, hb1, hb2, hb3⟩ := hA.onp p hp hpf hjl
        refine ⟨b, hb1, hI.st g _ hp _ _ _ hA.rel hrx hb1 hb2, fun d hd => ?_⟩
        rw [hput _ d p.1 (hI.plt p hp) hne hd, put_size]
        exact hb3 d hd
      · have hod : o.dst ≠ some d := fun he => hd i hseti (by rw [ho]; exact he)
        rw [put_get_ne _ _ _ _ hod]
        exact hA.off d fun j hj => hd j (hset2 j hj)
  · by_cases hip : ∃ p ∈ pd, p.1 = i
    · -- a block that is made
      obtain ⟨p, hp, rfl⟩ := hip
      have hsame := fsame_of hI hA (hI.plooks p hp) ho hdeps
      obtain ⟨⟨hwant, hrun⟩, _⟩ := hI.pok p hp o ho
      have hrun := hrun w' hA.rel hA.fact
      unfold wpOp
      simp only [ho]
      rw [if_pos (by rw [hsame.wanted]; exact hwant)]
      left
      unfold Oper.wp
      rw [hsame.exec (fun cs b => g.sel p.1 o cs b ho), hrun, Oper.upon_value]
      have hbel : Below w'.heap.size w' (w'.alloc p.2.2) := (Below.refl _ _).alloc (Nat.le_refl _) _
      have hrx := hR.of hbel
      have hnewb : (w'.alloc p.2.2).heap[w'.heap.size]? = some p.2.2 := by
        show (w'.heap.push _)[w'.heap.size]? = _
        simp
      refine ih ph _ _ _ from_ pend pd A F G (by simpa using hs) htail' hcl' (by omega) hph hpe hcov hlex ?_ ?_
      · exact ⟨hI.lt, hI.looks, fun j hj oj hoj hl => hI.det j hj oj hoj (hset3 j hl), hI.plt, hI.plooks, hI.pok, hI.old, hI.sz, hI.df, hI.stab, hI.gstab⟩
      · refine ⟨hR.trans hA.rel hrx, hI.stab _ _ hA.rel hA.fact hrx, hI.gstab _ _ hA.gact hbel, by rw [put_size]; exact hA.sz, by rw [put_defers]; exact hA.df, fun j hj => ?_, fun j d hjf hj hjd => ?_, fun q hq hqf hj => ?_, fun d hd => ?_⟩
        · rcases hset j hj with rfl | h
          · exact .inr ⟨p, hp, rfl⟩
          · exact hA.sub j h
        · have hne : j ≠ p.1 := fun h => hif (h ▸ hjf)
          rw [hput _ d j (hI.lt j hjf) hne hjd]
          exact hA.on j d hjf ((hset j hj).resolve_left hne) hjd
        · by_cases hqp : q.1 = p.1
          · obtain ⟨⟨_, hrun2⟩, _⟩ := hI.pok q hq o (by rw [hqp]; exact ho)
            have hrun2 := hrun2 w' hA.rel hA.fact
            rw [← hsame.exec (fun cs b => g.sel p.1 o cs b ho)] at hrun hrun2
            rw [hrun] at hrun2
            simp only [Result.ok.injEq, Next.value.injEq] at hrun2
            obtain ⟨e1, e2⟩ := hrun2
            have e3 : p.2.2 = q.2.2 := by
              have := congrArg (fun x : World => x.heap[w'.heap.size]?) e2
              rw [hnewb, show (w'.alloc q.2.2).heap[w'.heap.size]? = some q.2.2 by show (w'.heap.push _)[w'.heap.size]? = _; simp] at this
              exact Option.some.inj this
            refine ⟨w'.heap.size, hRs _ hA.rel, by rw [hnewb, e3], fun d hd => ?_⟩
            rw [hqp, ho] at hd
            have hd : o.dst = some d := hd
            rw [hd, put_slotV, put_size, e1]
          · have hjl : listed.getD q.1 false = true := (hset _ hj).resolve_left hqp
            obtain ⟨b, hb1, hb2, hb3⟩ := hA.onp q hq hqf hjl
            refine ⟨b, hb1, hI.st g _ hq _ _ _ hA.rel hrx hb1 hb2, fun d hd => ?_⟩
            rw [hput _ d q.1 (hI.plt q hq) hqp hd, put_size]
            exact hb3 d hd
        · have hod : o.dst ≠ some d := fun he => hd p.1 hseti (by rw [ho]; exact he)
          rw [put_get_ne _ _ _ _ hod]
          exact hA.off d fun j hj => hd j (hset2 j hj)
    · -- a call in its turn
      have hint : i ∈ intro_ ph := (hcov i hi1).resolve_left hif |>.resolve_left fun h => hip ((hpe i).2 h)
      have hoff := fB_off _ _ _ hph
      have hun : ∀ kk ∈ intro_ ph, listed.getD kk false = false := fun kk hk => by
        cases h : listed.getD kk false
        · rfl
        · exfalso
          rcases hA.sub kk h with h | h
          · exact (hoff kk hk).1 h
          · exact (hoff kk hk).2 ((hpe kk).1 h)
      cases ph with
      | nil => simp [intro_] at hint
      | cons x ph =>
      obtain ⟨nd, lv, al⟩ := x
      cases nd with
      | b j =>
        exfalso
        have huj := hb j lv al ph rfl
        simp only [fB, Bool.and_eq_true, Bool.not_eq_true'] at hph
        obtain ⟨⟨⟨⟨⟨⟨h3, h2⟩, h5⟩, h6⟩, h7⟩, h8⟩, h9⟩ := hph
        obtain ⟨kk, hk, hwf⟩ := waitB_at h8 i (by simpa [intro_] using hint)
        have := hdone kk hwf
        rcases hk with rfl | hk
        · rw [huj] at this; cases this
        · rw [hun kk (by simpa [intro_] using hk)] at this; cases this
      | c j =>
      have hph0 := hph
      simp only [fB, Bool.and_eq_true, decide_eq_true_eq, Bool.not_eq_true'] at hph0
      obtain ⟨⟨⟨⟨⟨⟨⟨⟨h1, h2⟩, h3⟩, h4⟩, h5⟩, h6⟩, h7⟩, h8⟩, h9⟩ := hph0
      have hij : i = j := by
        simp only [intro_, List.mem_cons] at hint
        rcases hint with h | h
        · exact h
        · exfalso
          obtain ⟨kk, hk, hwf⟩ := waitB_at h8 i h
          have := hdone kk hwf
          rw [hun kk (by simpa [intro_] using hk)] at this
          cases this
      subst hij
      obtain ⟨o2, ho2, Fact, Gact, hstab, hgstab, hnd, hnext⟩ := hlex
      have : o2 = o := Option.some.inj (ho2.symm.trans ho)
      subst this
      have hsame := fsame_of hI hA h4 ho hdeps
      have key : ∀ v w2, R w' w2 → (Fact v w2 ∧ Gact v w2) → wpAny P md l.toArray Q (k + (l.length - N1)) (listed.setIfInBounds i true) (a'.put o2.dst v) w2 := by
        intro v w2 hb2 hfg2
        obtain ⟨hf2, hg2⟩ := hfg2
        have hrel := hR.trans hA.rel hb2
        have hF' := hI.stab _ _ hA.rel hA.fact hb2
        obtain ⟨A', hq, hal⟩ := hnext v w2 hrel hF' hf2
        obtain ⟨pd', hK, hp1, hp2, hp3⟩ := hal.out
        have hI2 : FInv R P md l.toArray N1 a0 w from_ pd A F G (listed.setIfInBounds i true) := ⟨hI.lt, hI.looks, fun j hj oj hoj hl => hI.det j hj oj hoj (hset3 j hl), hI.plt, hI.plooks, hI.pok, hI.old, hI.sz, hI.df, hI.stab, hI.gstab⟩
        have hE := enter (o := o2) (v := v) (F2 := fun w1 => F w1 ∧ Fact v w1) (G2 := Gact v) (lv := lv) (al := al) (pd' := pd') (a' := a'.put o2.dst v) (w' := w2) g hI2 hi1 hif h4 ho hseti hrel ⟨hF', hf2⟩ hg2 (fun _ h => h.1)
          (fun w1 w2 hr h hr2 => ⟨hI.stab _ _ hr h.1 hr2, hstab _ _ _ hr h.2 hr2⟩) (fun w1 w2 => hgstab _ w1 w2) (by rw [put_size]; exact hA.sz) (by rw [put_defers]; exact hA.df)
          (fun kk hk => (hset kk hk).imp id (hA.sub kk))
          (fun kk d hkf hk hkd => by
            have hne : kk ≠ i := fun h => hif (h ▸ hkf)
            rw [hput _ d kk (hI.lt kk hkf) hne hkd]
            exact hA.on kk d hkf ((hset kk hk).resolve_left hne) hkd)
          (fun d hd => by rw [hd, put_slotV, put_size])
          (fun p hp hne hpf hl => by
            obtain ⟨b, hb1, hb2', hb3⟩ := hA.onp p hp hpf ((hset _ hl).resolve_left hne)
            refine ⟨b, hb1, hI.st g _ hp _ _ _ hA.rel hb2 hb1 hb2', fun d hd => ?_⟩
            rw [hput _ d p.1 (hI.plt p hp) hne hd, put_size]
            exact hb3 d hd)
          (fun d hd => by
            have hod : o2.dst ≠ some d := fun he => hd i hseti (by rw [ho]; exact he)
            rw [put_get_ne _ _ _ _ hod]
            exact hA.off d fun j hj => hd j (hset2 j hj))
          hq h5
          (fun kk hk p hp hpk => by
            have := List.all_eq_true.1 h6 kk hk
            have h2 : kk ∉ pend := by simpa using this
            exact h2 ((hpe kk).1 ⟨p, hp, hpk⟩))
          (fun kk hk => by
            obtain ⟨q1, q2, q3, q4⟩ := alB_at h7 kk hk
            exact ⟨q1, q2, fun p hp hpk => q3 ((hpe kk).1 ⟨p, hp, hpk⟩), q4⟩) hp1 hp2
        refine ih ph _ _ _ _ _ pd' A' _ _ (by simpa using hs) htail' hcl' (by omega) h9 (fun kk => ?_) (fun kk hk => ?_) hK hE.1 hE.2
        · rw [hp3 kk, hpe kk, List.mem_append]
        · have := hcov kk hk
          simp only [intro_, List.mem_append, List.mem_cons] at this ⊢
          rcases this with h | h | h | (h | h) | h <;> simp [h]
      obtain ⟨hwant, hrun⟩ := hnd w' hA.rel hA.fact hA.gact
      unfold wpOp
      simp only [ho]
      rw [if_pos (by rw [hsame.wanted]; exact hwant)]
      left
      unfold Oper.wp
      rw [hsame.exec (fun cs b => g.sel i o2 cs b ho)]
      rcases hrun with ⟨v, w2, hr, hb2, hf2⟩ | ⟨f, args, hr, hcall⟩ | ⟨w2, hr, hb2, hf2⟩
      · rw [hr, Oper.upon_value]
        exact key v w2 hb2 hf2
      · rw [hr, Oper.upon_enter]
        refine hcall.mono fun e w2 h => ?_
        obtain ⟨v, rfl, hb2, hf2⟩ := h
        exact key v w2 hb2 hf2
      · rw [hr]
        exact key undef w2 hb2 hf2

set_option maxRecDepth 100000 in
theorem wpAny_flow {R : World → World → Prop} (hR : Rel R) {N1 : Nat} {Q : Exit → Act → World → Prop} {l : List Oper} {a0 : Act} {w : World} (g : Fg md l.toArray N1)
    (hRs : ∀ w1, R w w1 → w.heap.size ≤ w1.heap.size) :
    ∀ (k : Nat) (ph : List (Nd × List Nat × List Nat)) (listed : Array Bool) (a' : Act) (w' : World) (from_ pend : List Nat) (pd : Pend) (A : Act) (F G : World → Prop), listed.size = l.length → (∀ t, N1 ≤ t → listed.getD t false = false) → (∀ j o, l.toArray[j]? = some o → listed.getD j false = true → ∀ e ∈ o.after, Region.binds md e = true → listed.getD e.on false = true) → cnt N1 listed = k →
      fB md l.toArray N1 from_ pend ph = true → (∀ j, (∃ p ∈ pd, p.1 = j) ↔ j ∈ pend) → (∀ i, i < N1 → i ∈ from_ ∨ i ∈ pend ∨ i ∈ intro_ ph) → Walk P l.toArray R w (fun A w1 => wpList P l.toArray Q (l.drop N1) A w1) ph pd A F G →
      FInv R P md l.toArray N1 a0 w from_ pd A F G listed → FAt R l.toArray a0 w from_ pd A F G listed a' w' → wpAny P md l.toArray Q (k + (l.length - N1)) listed a' w' := by
  have hle3 : N1 ≤ l.length := by simpa using g.le
  intro k
  induction k with
  | zero =>
    intro ph
    induction ph with
    | nil =>
      intro listed a' w' from_ pend pd A F G hs ht hcl hc hph hpe hcov hlex hI hA
      have hall := cnt_zero hc
      have hfull : listed = full l.length N1 := full_eq hs hall ht
      have hseq := g.seq
      have hdl : (l.drop N1).length = l.length - N1 := by simp
      have hbound : ∀ j ∈ pend, j ∈ from_ := fun j hj => by
        simp only [fB, List.all_eq_true] at hph
        simpa using hph j hj
      have haA : a' = A := by
        have e : a'.tmps = A.tmps := by
          apply Array.ext_getElem?
          intro d
          by_cases h : ∃ j, listed.getD j false = true ∧ ((l.toArray)[j]?).bind (·.dst) = some d
          · obtain ⟨j, h1, h2⟩ := h
            have hjf : j ∈ from_ := (hA.sub j h1).elim id fun ⟨p, hp, hpj⟩ => hbound j ((hpe j).1 ⟨p, hp, hpj⟩)
            exact hA.on j d hjf h1 h2
          · rw [hA.off d (fun j hj hjd => h ⟨j, hj, hjd⟩), hI.old d (fun k hk hkd => h ⟨k, hall k (hI.lt k hk), hkd⟩)]
        have e2 := hA.df
        cases a'; cases A
        simp only at e e2
        rw [e, e2]
      subst haA
      rw [Nat.zero_add, ← hdl]
      exact wpAny_of_seq (l.drop N1) N1 listed a' w' (fun j => by simp [List.getElem?_drop]) (by rw [hdl, hfull]; simpa using hseq) (hlex w' hA.rel hA.fact hA.gact)
    | cons x ph ihp =>
      intro listed a' w' from_ pend pd A F G hs ht hcl hc hph hpe hcov hlex hI hA
      have hall := cnt_zero hc
      obtain ⟨nd, lv, al⟩ := x
      cases nd with
      | c j =>
        exfalso
        simp only [fB, Bool.and_eq_true, decide_eq_true_eq, Bool.not_eq_true'] at hph
        obtain ⟨⟨⟨⟨⟨⟨⟨⟨h1, h2⟩, h3⟩, h4⟩, h5⟩, h6⟩, h7⟩, h8⟩, h9⟩ := hph
        rcases hA.sub j (hall j h1) with h | ⟨p, hp, hpj⟩
        · have : j ∉ from_ := by simpa using h2
          exact this h
        · have : j ∉ pend := by simpa using h3
          exact this ((hpe j).1 ⟨p, hp, hpj⟩)
      | b j => exact advance_b hR g hRs hpe hph hcov hlex hI hA (by
          simp only [fB, Bool.and_eq_true, Bool.not_eq_true'] at hph
          have hj : j ∈ pend := by simpa using hph.1.1.1.1.1.1
          obtain ⟨p, hp, rfl⟩ := (hpe j).2 hj
          exact hall _ (hI.plt p hp)) fun from2 pend2 pd2 A2 F2 G2 q1 q2 q3 q4 q5 q6 => ihp listed a' w' from2 pend2 pd2 A2 F2 G2 hs ht hcl hc q1 q2 q3 q4 q5 q6
  | succ k ih =>
    intro ph
    induction ph with
    | nil =>
      intro listed a' w' from_ pend pd A F G hs ht hcl hc hph hpe hcov hlex hI hA
      exact flow_step hR g hRs hs ht hcl hc hph hpe hcov hlex hI hA (fun j lv al ph' h => by cases h) fun ph2 listed2 a2 w2 from2 pend2 pd2 A2 F2 G2 => ih ph2 listed2 a2 w2 from2 pend2 pd2 A2 F2 G2
    | cons x ph ihp =>
      intro listed a' w' from_ pend pd A F G hs ht hcl hc hph hpe hcov hlex hI hA
      obtain ⟨nd, lv, al⟩ := x
      cases nd with
      | c j => exact flow_step hR g hRs hs ht hcl hc hph hpe hcov hlex hI hA (fun j lv al ph' h => by cases h) fun ph2 listed2 a2 w2 from2 pend2 pd2 A2 F2 G2 => ih ph2 listed2 a2 w2 from2 pend2 pd2 A2 F2 G2
      | b j =>
        cases hlj : listed.getD j false with
        | true => exact advance_b hR g hRs hpe hph hcov hlex hI hA hlj fun from2 pend2 pd2 A2 F2 G2 q1 q2 q3 q4 q5 q6 => ihp listed a' w' from2 pend2 pd2 A2 F2 G2 hs ht hcl hc q1 q2 q3 q4 q5 q6
        | false => exact flow_step hR g hRs hs ht hcl hc hph hpe hcov hlex hI hA (fun j2 lv2 al2 ph' h => by cases h; exact hlj) fun ph2 listed2 a2 w2 from2 pend2 pd2 A2 F2 G2 => ih ph2 listed2 a2 w2 from2 pend2 pd2 A2 F2 G2

set_option maxRecDepth 100000 in
theorem fgl_of {N1 : Nat} {lev al : List Nat} {ph : List (Nd × List Nat × List Nat)} (h : flowB md ops N1 lev al ph = true) : Fg md ops N1 ∧ levB md ops N1 [] lev = true ∧ alB md ops N1 lev [] al = true ∧ fB md ops N1 lev al ph = true ∧ ∀ i, i < N1 → i ∈ lev ∨ i ∈ al ∨ i ∈ intro_ ph := by
  simp only [flowB, Bool.and_eq_true, decide_eq_true_eq, List.all_eq_true, List.mem_range] at h
  obtain ⟨⟨⟨⟨⟨⟨⟨⟨⟨h1, h2⟩, h3⟩, h4⟩, h5⟩, h5b⟩, h6⟩, h7⟩, h8⟩, h9⟩ := h
  refine ⟨⟨fun j o cs b => Region.noSelect_spec h1 j o cs b, h2, ?_, ?_, ?_, h9⟩, h4, h5, h5b, fun i hi => by simpa [or_assoc] using h6 i hi⟩
  · have key : ∀ i j, i < N1 → j < N1 → i < j → ∀ d, (ops[i]?).bind (·.dst) = some d → (ops[j]?).bind (·.dst) ≠ some d := by
      intro i j hi hj hij d hd he
      have := h3 i hi j hj
      simp only [hd, Bool.or_eq_true, decide_eq_true_eq] at this
      rcases this with h | h
      · omega
      · rw [he] at h; simp at h
    intro i j hi hj hne d hd he
    rcases Nat.lt_or_gt_of_ne hne with h | h
    · exact key i j hi hj h d hd he
    · exact key j i hj hi h d he hd
  · intro t i ht hN hi
    have := h7 t ht
    simp only [Bool.or_eq_true, decide_eq_true_eq, List.all_eq_true, List.mem_range] at this
    rcases this with h | h
    · omega
    · exact h i hi
  · intro j o e ho he hb
    have hlt : j < ops.size := (Array.getElem?_eq_some_iff.1 ho).1
    have := h8 j hlt
    simp only [ho, Array.all_eq_true_iff_forall_mem, Bool.or_eq_true, decide_eq_true_eq, Bool.not_eq_true'] at this
    rcases this e he with h | h
    · rw [hb] at h; cases h
    · exact h

set_option maxRecDepth 100000 in
/-- The whole region: what is quiet first; blocks and calls in their turn; then a tail in the order of the text. -/
theorem wp_region_flow_in {R : World → World → Prop} (hR : Rel R) (G : World → Prop) {id : Nat} (N1 : Nat) (lev al : List Nat) (ph : List (Nd × List Nat × List Nat)) {Q : Exit → Act → World → Prop} {a : Act} {w : World} {l : List Oper} (hm : P.follows .mixedOrders = true) (hB : flowB .any l.toArray N1 lev al ph = true)
    (hRs : ∀ w1, R w w1 → w.heap.size ≤ w1.heap.size) (hG : G w) (hGs : ∀ w' w'', G w' → Below w'.heap.size w' w'' → G w'')
    (h : After P l.toArray R w (fun _ => True) (fun pd' A' => Walk P l.toArray R w (fun A w1 => wpList P l.toArray Q (l.drop N1) A w1) ph pd' A' (fun _ => True) G) lev al [] a) : (Code.region id l.toArray true).wp P Q a w := by
  obtain ⟨A, hlev, hal⟩ := h
  obtain ⟨g, hlB, haB, hpB, hcov⟩ := fgl_of hB
  have hle : N1 ≤ l.length := by simpa using g.le
  have hlvl := g.level hlB
  have hrel : R w w.drew := hR.of (Below.refl _ _).drew
  rw [← pick_eq] at hlev
  obtain ⟨r1, r2, r3⟩ := walk_rest (hlev w.drew hrel trivial)
  obtain ⟨pd', hK, hp1, hp2, hp3⟩ := hal.out
  have hno : ∀ j, (Array.replicate l.length false).getD j false = false := fun j => getD_replicate_false _ _
  have hpa : ∀ p ∈ pd', p.1 ∈ al ∧ ∀ o, l.toArray[p.1]? = some o → AlOK P l.toArray R w A (fun _ => True) p.2.1 p.2.2 o := fun p hp => by
    rcases hp1 p hp with h | h
    · simp at h
    · exact h
  refine wp_region_any hm ?_
  have hI : FInv R P .any l.toArray N1 a w lev pd' A (fun _ => True) G (Array.replicate l.length false) := by
    refine ⟨fun j hj => (levB_mem hlB j hj).1, fun j hj => by simpa using (levB_mem hlB j hj).2.2, fun j hj o ho _ => ?_, fun p hp => (alB_at haB _ (hpa p hp).1).1, fun p hp => (alB_at haB _ (hpa p hp).1).2.2.2, fun p hp => (hpa p hp).2, fun d hd => ?_, r1, r2, fun _ _ _ _ _ => trivial, hGs⟩
    · refine det_of_walk (fun oo hoo cs b => ?_) hlvl.2.1 hlvl.2.2 hlev o (List.mem_filterMap.2 ⟨j, hj, ho⟩)
      obtain ⟨j', _, hoj'⟩ := hlvl.1 oo hoo
      exact g.sel j' oo cs b hoj'
    · refine r3 d fun oo hoo he => ?_
      obtain ⟨j, hj, hoj⟩ := hlvl.1 oo hoo
      exact hd j hj (by rw [hoj]; exact he)
  have hA : FAt R l.toArray a w lev pd' A (fun _ => True) G (Array.replicate l.length false) a w.drew := by
    refine ⟨hrel, trivial, hGs _ _ hG (Below.refl _ _).drew, r1.symm, r2.symm, fun j hj => ?_, fun j d _ hj => ?_, fun p _ _ hj => ?_, fun d _ => rfl⟩
    all_goals (rw [hno] at hj; cases hj)
  have := wpAny_flow hR (Q := Q) (a0 := a) g hRs N1 ph (Array.replicate l.length false) a w.drew lev al pd' A (fun _ => True) G (by simp) (fun t _ => hno _) (fun j o _ hj => by rw [hno] at hj; cases hj) (cnt_start N1 _ hle) hpB (fun j => by rw [hp3 j]; simp) hcov hK hI hA
  rw [show N1 + (l.length - N1) = l.toArray.size by simp; omega] at this
  simpa using this

set_option maxRecDepth 100000 in
/-- A call in its turn, in a region whose callees may do R; what it leaves for good (Fact), and what holds till the next one (Gact). -/
theorem Walk.call {R : World → World → Prop} {w : World} {Fin : Act → World → Prop} {j : Nat} {lv al : List Nat} {ph : List (Nd × List Nat × List Nat)} {pd : Pend} {A : Act} {F G : World → Prop} {l : List Oper} {o : Oper} (ho : l[j]? = some o) (f : FuncId) (args : Array Value) (Fact Gact : Value → World → Prop)
    (hstab : ∀ v w' w'', R w w' → Fact v w' → R w' w'' → Fact v w'') (hgst : ∀ v w' w'', Gact v w' → Below w'.heap.size w' w'' → Gact v w'') (hw : Region.wanted o (yielded l.toArray A.tmps) = true)
    (hnd : ∀ w1, R w w1 → F w1 → G w1 → (execOp A.eval o).run P w1 = .ok (.enter f args) w1 ∧ Calls P f args w1 fun e w2 => ∃ v, e = .returned v ∧ R w1 w2 ∧ Fact v w2 ∧ Gact v w2)
    (hnext : ∀ v w0, R w w0 → F w0 → Fact v w0 → After P l.toArray R w (fun w1 => F w1 ∧ Fact v w1) (fun pd' A' => Walk P l.toArray R w Fin ph pd' A' (fun w1 => F w1 ∧ Fact v w1) (Gact v)) lv al pd (A.put o.dst v)) :
    Walk P l.toArray R w Fin ((.c j, lv, al) :: ph) pd A F G :=
  ⟨o, by simpa using ho, Fact, Gact, hstab, hgst, fun w1 hb hF hG => ⟨hw, .inr (.inl ⟨f, args, (hnd w1 hb hF hG).1, (hnd w1 hb hF hG).2.mono fun _ _ ⟨v, h1, h2, h3⟩ => ⟨v, h1, h2, h3⟩⟩)⟩, hnext⟩

set_option maxRecDepth 100000 in
/-- A builtin in its turn. -/
theorem Walk.does {R : World → World → Prop} {w : World} {Fin : Act → World → Prop} {j : Nat} {lv al : List Nat} {ph : List (Nd × List Nat × List Nat)} {pd : Pend} {A : Act} {F G : World → Prop} {l : List Oper} {o : Oper} (ho : l[j]? = some o) (Fact Gact : Value → World → Prop)
    (hstab : ∀ v w' w'', R w w' → Fact v w' → R w' w'' → Fact v w'') (hgst : ∀ v w' w'', Gact v w' → Below w'.heap.size w' w'' → Gact v w'') (hw : Region.wanted o (yielded l.toArray A.tmps) = true)
    (hnd : ∀ w1, R w w1 → F w1 → G w1 → ∃ v w2, (execOp A.eval o).run P w1 = .ok (.value v) w2 ∧ R w1 w2 ∧ Fact v w2 ∧ Gact v w2)
    (hnext : ∀ v w0, R w w0 → F w0 → Fact v w0 → After P l.toArray R w (fun w1 => F w1 ∧ Fact v w1) (fun pd' A' => Walk P l.toArray R w Fin ph pd' A' (fun w1 => F w1 ∧ Fact v w1) (Gact v)) lv al pd (A.put o.dst v)) :
    Walk P l.toArray R w Fin ((.c j, lv, al) :: ph) pd A F G :=
  ⟨o, by simpa using ho, Fact, Gact, hstab, hgst, fun w1 hb hF hG => ⟨hw, .inl (by
    obtain ⟨v, w2, h1, h2, h3⟩ := hnd w1 hb hF hG
    exact ⟨v, w2, h1, h2, h3⟩)⟩, hnext⟩

set_option maxRecDepth 100000 in
/-- A store in its turn. -/
theorem Walk.skips {R : World → World → Prop} {w : World} {Fin : Act → World → Prop} {j : Nat} {lv al : List Nat} {ph : List (Nd × List Nat × List Nat)} {pd : Pend} {A : Act} {F G : World → Prop} {l : List Oper} {o : Oper} (ho : l[j]? = some o) (Gact : World → Prop)
    (hgst : ∀ w' w'', Gact w' → Below w'.heap.size w' w'' → Gact w'') (hw : Region.wanted o (yielded l.toArray A.tmps) = true)
    (hnd : ∀ w1, R w w1 → F w1 → G w1 → ∃ w2, (execOp A.eval o).run P w1 = .ok .skip w2 ∧ R w1 w2 ∧ Gact w2)
    (hnext : ∀ w0, R w w0 → F w0 → After P l.toArray R w (fun w1 => F w1 ∧ True) (fun pd' A' => Walk P l.toArray R w Fin ph pd' A' (fun w1 => F w1 ∧ True) Gact) lv al pd (A.put o.dst undef)) :
    Walk P l.toArray R w Fin ((.c j, lv, al) :: ph) pd A F G :=
  ⟨o, by simpa using ho, fun v _ => v = undef, fun _ => Gact, fun _ _ _ _ h _ => h, fun _ => hgst, fun w1 hb hF hG => ⟨hw, .inr (.inr (by
    obtain ⟨w2, h1, h2, h3⟩ := hnd w1 hb hF hG
    exact ⟨w2, h1, h2, rfl, h3⟩))⟩, fun v w0 hb hF hv => by
      subst hv
      have e : (fun w1 => F w1 ∧ (undef : Value) = undef) = fun w1 => F w1 ∧ True := by simp
      rw [e]
      exact hnext w0 hb hF⟩

set_option maxRecDepth 100000 in
/-- A block, met where it is first wanted. -/
theorem Walk.blk {R : World → World → Prop} {w : World} {Fin : Act → World → Prop} {j : Nat} {lv al : List Nat} {ph : List (Nd × List Nat × List Nat)} {pd : Pend} {A : Act} {F G : World → Prop} {l : List Oper} {o : Oper} (ho : l[j]? = some o) (mk : Nat → Value) (obj : Obj) (hmem : (j, mk, obj) ∈ pd)
    (hnext : ∀ b w0, R w w0 → F w0 → w.heap.size ≤ b → w0.heap[b]? = some obj → After P l.toArray R w (fun w1 => F w1 ∧ w1.heap[b]? = some obj) (fun pd' A' => Walk P l.toArray R w Fin ph pd' A' (fun w1 => F w1 ∧ w1.heap[b]? = some obj) G) lv al pd (A.put o.dst (mk b))) :
    Walk P l.toArray R w Fin ((.b j, lv, al) :: ph) pd A F G := ⟨o, by simpa using ho, mk, obj, hmem, hnext⟩

set_option maxRecDepth 100000 in
theorem Walk.fin {l : List Oper} {R : World → World → Prop} {w : World} {Fin : Act → World → Prop} {pd : Pend} {A : Act} {F G : World → Prop} (h : ∀ w1, R w w1 → F w1 → G w1 → Fin A w1) : Walk P l.toArray R w Fin [] pd A F G := h

set_option maxRecDepth 100000 in
theorem AlChk.one {R : World → World → Prop} {w : World} {A : Act} {F : World → Prop} {K : Pend → Prop} {j : Nat} {al : List Nat} {pd : Pend} {l : List Oper} {o : Oper} (ho : l[j]? = some o) (mk : Nat → Value) (obj : Obj) (hw : Region.wanted o (yielded l.toArray A.tmps) = true)
    (hst : St R w obj) (hrun : ∀ w1, R w w1 → F w1 → (execOp A.eval o).run P w1 = .ok (.value (mk w1.heap.size)) (w1.alloc obj)) (h : AlChk P l.toArray R w A F K al ((j, mk, obj) :: pd)) : AlChk P l.toArray R w A F K (j :: al) pd := ⟨o, by simpa using ho, mk, obj, ⟨⟨hw, hrun⟩, hst⟩, h⟩
set_option maxRecDepth 100000 in
theorem AlChk.nil {l : List Oper} {R : World → World → Prop} {w : World} {A : Act} {F : World → Prop} {K : Pend → Prop} {pd : Pend} (h : K pd) : AlChk P l.toArray R w A F K [] pd := h

end

/-- Blocks below B stay, and those of another type than T. -/
structure Typed (B : Nat) (T : TypeId) (a b : World) : Prop where
  os : b.os = a.os
  tape : b.tape = a.tape
  output : b.output = a.output
  size : a.heap.size ≤ b.heap.size
  block : ∀ k, k < a.heap.size → (k < B ∨ ∀ cs fr, a.heap[k]? ≠ some (.cells cs T fr)) → b.heap[k]? = a.heap[k]?
set_option maxRecDepth 100000 in
theorem rel_typed (B : Nat) (T : TypeId) : Rel (Typed B T) :=
  ⟨fun h => ⟨h.os, h.tape, h.output, h.size, fun k hk _ => h.block k hk⟩,
   fun h k => ⟨k.os.trans h.os, k.tape.trans h.tape, k.output.trans h.output, Nat.le_trans h.size k.size, fun j hj hc => by
     have e1 := h.block j hj hc
     rw [k.block j (Nat.lt_of_lt_of_le hj h.size) (hc.imp id fun hn cs fr => by rw [e1]; exact hn cs fr), e1]⟩⟩
set_option maxRecDepth 100000 in
theorem Typed.below {B : Nat} {T : TypeId} {a b : World} (h : Typed B T a b) (hB : B ≤ a.heap.size) : Below B a b := ⟨h.os, h.tape, h.output, h.size, fun k hk => h.block k (by omega) (.inl hk)⟩
set_option maxRecDepth 100000 in
theorem Typed.of_grown {B : Nat} {T : TypeId} {a b : World} {row : Option Nat} (h : a.grownBy b row) (hr : ∀ k, row = some k → B ≤ k ∧ ∃ cs fr, a.heap[k]? = some (.cells cs T fr)) : Typed B T a b :=
  ⟨h.os, h.tape, h.output, h.size, fun k hk hc => h.block k hk (fun e => by
    obtain ⟨h1, cs, fr, h2⟩ := hr k e.symm
    rcases hc with hc | hc
    · omega
    · exact hc cs fr h2)⟩
set_option maxRecDepth 100000 in
theorem st_typed {B : Nat} {T : TypeId} {w : World} (cs : Array Value) (U : TypeId) (fr : Nat × Nat) (hne : U ≠ T) : St (Typed B T) w (.cells cs U fr) := fun w1 w2 b _ h2 _ h => by
  have hlt : b < w1.heap.size := (Array.getElem?_eq_some_iff.1 h).1
  rw [h2.block b hlt (.inr fun cs' fr' e => by
    rw [h] at e
    injection e with e
    injection e with _ e _
    exact hne e)]
  exact h
set_option maxRecDepth 100000 in
/-- A region whose builtins may write to blocks of type T from B on. -/
theorem wp_region_typed {P : Program} (B : Nat) (T : TypeId) {id : Nat} (N1 : Nat) (lev al : List Nat) (ph : List (Nd × List Nat × List Nat)) {Q : Exit → Act → World → Prop} {a : Act} {w : World} {l : List Oper} (hm : P.follows .mixedOrders = true) (hB : flowB .any l.toArray N1 lev al ph = true)
    (h : After P l.toArray (Typed B T) w (fun _ => True) (fun pd' A' => Walk P l.toArray (Typed B T) w (fun A w1 => wpList P l.toArray Q (l.drop N1) A w1) ph pd' A' (fun _ => True) (fun _ => True)) lev al [] a) : (Code.region id l.toArray true).wp P Q a w :=
  wp_region_flow_in (rel_typed B T) (fun _ => True) N1 lev al ph hm hB (fun _ h => h.size) trivial (fun _ _ _ _ => trivial) h

set_option maxRecDepth 100000 in
theorem wp_region_typed_g {P : Program} (B : Nat) (T : TypeId) (G : World → Prop) {id : Nat} (N1 : Nat) (lev al : List Nat) (ph : List (Nd × List Nat × List Nat)) {Q : Exit → Act → World → Prop} {a : Act} {w : World} {l : List Oper} (hm : P.follows .mixedOrders = true) (hB : flowB .any l.toArray N1 lev al ph = true) (hG : G w) (hGs : ∀ w' w'', G w' → Below w'.heap.size w' w'' → G w'')
    (h : After P l.toArray (Typed B T) w (fun _ => True) (fun pd' A' => Walk P l.toArray (Typed B T) w (fun A w1 => wpList P l.toArray Q (l.drop N1) A w1) ph pd' A' (fun _ => True) G) lev al [] a) : (Code.region id l.toArray true).wp P Q a w :=
  wp_region_flow_in (rel_typed B T) G N1 lev al ph hm hB (fun _ h => h.size) hG hGs h

/-- All blocks stay but those of a list. -/
structure ButIn (S : List Nat) (a b : World) : Prop where
  os : b.os = a.os
  tape : b.tape = a.tape
  output : b.output = a.output
  size : a.heap.size ≤ b.heap.size
  block : ∀ k, k < a.heap.size → k ∉ S → b.heap[k]? = a.heap[k]?
set_option maxRecDepth 100000 in
theorem rel_butIn (S : List Nat) : Rel (ButIn S) :=
  ⟨fun h => ⟨h.os, h.tape, h.output, h.size, fun k hk _ => h.block k hk⟩,
   fun h k => ⟨k.os.trans h.os, k.tape.trans h.tape, k.output.trans h.output, Nat.le_trans h.size k.size, fun j hj hc => by
     rw [k.block j (Nat.lt_of_lt_of_le hj h.size) hc, h.block j hj hc]⟩⟩
set_option maxRecDepth 100000 in
theorem ButIn.blk {S : List Nat} {w w' : World} {b : Nat} {cs : Array Value} {T : TypeId} (h : ButIn S w w') (k : Blk w b cs T) (hb : b ∉ S) : Blk w' b cs T := by
  have := k.lt
  unfold Blk at *
  rw [h.block _ this hb]; exact k
set_option maxRecDepth 100000 in
theorem ButIn.of_but {S : List Nat} {w w' : World} {b : Nat} (h : But b w w') (hb : b ∈ S) : ButIn S w w' :=
  ⟨h.os, h.tape, h.output, h.size, fun k hk hc => h.block k hk (fun e => hc (e ▸ hb))⟩
set_option maxRecDepth 100000 in
theorem ButIn.below {S : List Nat} {B : Nat} {w0 w w' : World} (h : ButIn S w w') (h0 : Below B w0 w) (hB : B ≤ w.heap.size) (hS : ∀ b ∈ S, B ≤ b) : Below B w0 w' :=
  h0.trans ⟨h.os, h.tape, h.output, h.size, fun k hk => h.block k (by omega) (fun e => by have := hS k e; omega)⟩
set_option maxRecDepth 100000 in
/-- A region that stores to the cells of a list, and to no others. -/
theorem wp_region_butIn {P : Program} (S : List Nat) (G : World → Prop) {id : Nat} (N1 : Nat) (lev al : List Nat) (ph : List (Nd × List Nat × List Nat)) {Q : Exit → Act → World → Prop} {a : Act} {w : World} {l : List Oper} (hm : P.follows .mixedOrders = true) (hB : flowB .any l.toArray N1 lev al ph = true) (hG : G w) (hGs : ∀ w' w'', G w' → Below w'.heap.size w' w'' → G w'')
    (h : After P l.toArray (ButIn S) w (fun _ => True) (fun pd' A' => Walk P l.toArray (ButIn S) w (fun A w1 => wpList P l.toArray Q (l.drop N1) A w1) ph pd' A' (fun _ => True) G) lev al [] a) : (Code.region id l.toArray true).wp P Q a w :=
  wp_region_flow_in (rel_butIn S) G N1 lev al ph hm hB (fun _ h => h.size) hG hGs h
set_option maxRecDepth 100000 in
/-- A whole variable is written, in its turn. -/
theorem exec_store_blk {P : Program} {o : Oper} {A : Act} {w : World} (ty : TypeId) (x y : Operand) (ho : o.op = .store ty x y) (b : Nat) (cells : Array Value) (hx : A.eval x = .pointer (some ⟨b, 0, none⟩)) (hy : A.eval y = .agg cells)
    (cs : Array Value) (T : TypeId) (hk : Blk w b cs T) (n : Nat) (hi : (P.info? ty).map (·.size) = some n) (hs : cs.size = n) (hn : cells.size = n) (h1 : cells.all (·.oneCell') = true) :
    ∃ w', (execOp A.eval o).run P w = .ok .skip w' ∧ But b w w' ∧ Blk w' b cells T := by
  refine ⟨w.setCells b 0 cells.toList, ?_, But.setCells _ _ _ (But.of (Below.refl _ _)), ?_⟩
  · unfold execOp
    simp only [ho, hx, hy, Instr.storeAt, Instr.sureAddr, Sem.run_bind, Sem.run_pure, Result.andThen_ok, run_storeVar_mid w b 0 ty cells (hk.there (by omega)) (by rw [hi, hn]) h1]
  · rw [setCells_is]
    have := hk.setAll_self cells.toList (by simp; omega)
    simpa using this

set_option maxRecDepth 100000 in
theorem exec_append {P : Program} {o : Oper} {A : Act} {w w' : World} {s x : Operand} {t t2 : TypeId} {vs vx v' : Value} (ho : o.op = .call { callee := .builtin .append, args := #[s, x], argTypes := #[t, t2] }) (hs : A.eval s = vs) (hx : A.eval x = vx)
    (hr : (Builtin.append_ #[t, t2] o.type #[vs, vx]).run P w = .ok v' w') : (execOp A.eval o).run P w = .ok (.value v') w' := by
  unfold execOp
  simp only [ho, resolve, invoke, builtin, Sem.run_bind, Sem.run_pure, Result.andThen_ok, List.map_toArray, List.map_cons, List.map_nil, hs, hx, hr]
end FlowB
end Go.Proofs.Ytmpgnpkodapidaa
