/-
  Worlds that grow: lemmas for regions that draw their order, whose callees make memory; blocks of cells that stay.
-/
import Derived.Test.YtkiaeepdpmcafaaDoorProg
import Derived.WalkKit
import Derived.ProofKit
import Derived.OpenShut
import Derived.WalkSpells
import Derived.WalkLawsBesides
import Derived.Handy
import Derived.Outline
import Derived.Deep.QuietTactic
import Derived.BigQuiet
import Derived.Test.YtkiaeepdpmcafaaDoorRegion
namespace Go.Proofs.YtkiaeepdpmcafaaDoor
open Go.ChangeShapes Go.WideShapes Go.ChangeAt Go.RowKit

theorem hid {p : Prop} (h : p) : Hid p := h

/-- Block b of the world holds these cells (not frozen). -/
def Blk (w : World) (b : Nat) (cs : Array Value) (T : TypeId) : Prop := w.heap[b]? = some (.cells cs T (0, 0))

theorem Blk.lt {w : World} {b : Nat} {cs : Array Value} {T : TypeId} (h : Blk w b cs T) : b < w.heap.size := by
  unfold Blk at h
  exact (Array.getElem?_eq_some_iff.1 h).1
theorem Blk.cell {w : World} {b : Nat} {cs : Array Value} {T : TypeId} (h : Blk w b cs T) : ∀ o, w.cell? ⟨b, o, none⟩ = cs[o]? := by
  intro o
  unfold Blk at h
  simp [World.cell?, h]
theorem Blk.free {w : World} {b : Nat} {cs : Array Value} {T : TypeId} (h : Blk w b cs T) : ∀ o, w.frozen? ⟨b, o, none⟩ = false := by
  intro o
  unfold Blk at h
  simp [World.frozen?, h]
theorem Blk.new {w : World} {n : Nat} (hn : w.heap.size = n) (cs : Array Value) (T : TypeId) : Blk (w.alloc (.cells cs T (0, 0))) n cs T := by
  subst hn
  show (w.heap.push _)[w.heap.size]? = _
  simp
theorem Blk.old {w : World} {b : Nat} {cs : Array Value} {T : TypeId} (h : Blk w b cs T) (o : Obj) : Blk (w.alloc o) b cs T := by
  have := h.lt
  unfold Blk at *
  rw [Below.heap_alloc _ _ _ this]; exact h
theorem Blk.below {w w' : World} {b : Nat} {cs : Array Value} {T : TypeId} (h : Blk w b cs T) (hb : Below w.heap.size w w') : Blk w' b cs T := by
  have := h.lt
  unfold Blk at *
  rw [hb.block _ this]; exact h
theorem Blk.belowB {w w' : World} {B b : Nat} {cs : Array Value} {T : TypeId} (h : Blk w b cs T) (hB : b < B) (hb : Below B w w') : Blk w' b cs T := by
  unfold Blk at *
  rw [hb.block _ hB]; exact h
theorem Blk.set {w : World} {b : Nat} {cs : Array Value} {T : TypeId} (h : Blk w b cs T) (o : Nat) (v : Value) : Blk (w.setCell ⟨b, o, none⟩ v) b (cs.setIfInBounds o v) T := by
  unfold Blk at *
  simp only [World.setCell, Array.getElem?_modify, if_true, h, Option.map_some, Option.isSome_none, Bool.false_eq_true, if_false]
theorem Blk.other {w : World} {b : Nat} {cs : Array Value} {T : TypeId} (h : Blk w b cs T) (p : Addr) (hp : p.block ≠ b) (v : Value) : Blk (w.setCell p v) b cs T := by
  unfold Blk at *
  rw [Below.heap_setCell _ _ _ _ (Ne.symm hp)]; exact h
theorem Blk.ne {w : World} {b b' : Nat} {cs : Array Value} {T : TypeId} (h : Blk w b cs T) (h' : w.heap.size ≤ b') : b' ≠ b := by
  have := h.lt; omega
theorem Blk.drew {w : World} {b : Nat} {cs : Array Value} {T : TypeId} (h : Blk w b cs T) : Blk w.drew b cs T := h

theorem Blk.ext {w : World} {b : Nat} {cs : Array Value} {T : TypeId} (h : Blk w b cs T) : ∀ (x : Ext w) (o : Nat), x.at_.cell? ⟨b, o, none⟩ = cs[o]? :=
  fun x => (h.below x.same).cell

theorem Ext.cells (w : World) : ∀ (x : Ext w) (b o : Nat), b < w.heap.size → x.at_.cell? ⟨b, o, none⟩ = w.cell? ⟨b, o, none⟩ :=
  fun x b o h => x.same.cell (p := ⟨b, o, none⟩) h

/-- A region that draws its order, whose operations only read, and whose callees leave what was there: ONE walk, in the order of the text. -/
theorem wp_region_ext {P : Program} {id : Nat} {Q : Exit → Act → World → Prop} {a : Act} {w : World} {l : List Oper} (hm : P.follows .mixedOrders = true) (hB : Region.lexB .any l.toArray = true)
    (h : wpQuiet P l.toArray (fun w' => ∃ x : Ext w, w' = x.at_) (fun a' => ∀ w', (∃ x : Ext w, w' = x.at_) → Q .normal a' w') l a) : (Code.region id l.toArray true).wp P Q a w :=
  wp_region_quiet (C := fun w' => ∃ x : Ext w, w' = x.at_) hm hB ⟨⟨w.drew, (Below.refl _ _).drew⟩, rfl⟩ (by simpa using h)

theorem Calls.ext {P : Program} {f : FuncId} {args : Array Value} {w : World} {x : Ext w} {v : Value}
    (h : Calls P f args x.at_ fun e w' => e = .returned v ∧ Below x.at_.heap.size x.at_ w') : Calls P f args x.at_ fun e w'' => e = .returned v ∧ ∃ y : Ext w, w'' = y.at_ :=
  h.mono fun _ w'' ⟨he, hm⟩ => ⟨he, ⟨w'', x.same.trans (hm.mono x.same.size)⟩, rfl⟩

/-- behind a contract that ends in 'Below': the old cells and marks read as before -/
theorem bcell {W w1 : World} (hb : Below W.heap.size W w1) : (∀ b o, b < W.heap.size → w1.cell? ⟨b, o, none⟩ = W.cell? ⟨b, o, none⟩) ∧ (∀ b o, b < W.heap.size → w1.frozen? ⟨b, o, none⟩ = W.frozen? ⟨b, o, none⟩) :=
  ⟨fun b o h => hb.cell (p := ⟨b, o, none⟩) h, fun b o h => hb.frozen (p := ⟨b, o, none⟩) h⟩

/-- A contract on a written-out world, said of the world where it all began. -/
theorem Below.on {w W w1 : World} (h : Below w.heap.size w W) (hb : Below W.heap.size W w1) : Below w.heap.size w w1 := h.trans (hb.mono h.size)

/-- The stores of a whole value, cell by cell. -/
def setAll (w : World) (b : Nat) : Nat → List Value → World
  | _, [] => w
  | o, v :: vs => setAll (w.setCell ⟨b, o, none⟩ v) b (o + 1) vs

theorem Blk.setAll_other {b b' : Nat} {T : TypeId} {cs : Array Value} (hne : b ≠ b') : ∀ (vs : List Value) (o : Nat) (w : World), Blk w b' cs T → Blk (setAll w b o vs) b' cs T
  | [], _, _, h => h
  | v :: vs, o, _, h => Blk.setAll_other hne vs (o + 1) _ (h.other ⟨b, o, none⟩ hne v)
theorem Blk.setAll_at {b : Nat} {T : TypeId} : ∀ (vs : List Value) (o : Nat) (w : World) (cs : Array Value), Blk w b cs T → o + vs.length ≤ cs.size →
    ∃ cs' : Array Value, Blk (setAll w b o vs) b cs' T ∧ cs'.size = cs.size ∧ (∀ j, j < o → cs'[j]? = cs[j]?) ∧ (∀ j, o + vs.length ≤ j → cs'[j]? = cs[j]?) ∧ ∀ j, j < vs.length → cs'[o + j]? = vs[j]?
  | [], _, _, cs, h, _ => ⟨cs, h, rfl, fun _ _ => rfl, fun _ _ => rfl, fun j hj => by simp at hj⟩
  | v :: vs, o, w, cs, h, hl => by
    simp only [List.length_cons] at hl
    obtain ⟨cs', h1, h2, h3, h4, h5⟩ := Blk.setAll_at vs (o + 1) _ _ (h.set o v) (by simp; omega)
    refine ⟨cs', h1, by simpa using h2, fun j hj => ?_, fun j hj => ?_, fun j hj => ?_⟩
    · rw [h3 j (by omega), Array.getElem?_setIfInBounds_ne (by omega)]
    · simp only [List.length_cons] at hj
      rw [h4 j (by omega), Array.getElem?_setIfInBounds_ne (by omega)]
    · cases j with
      | zero =>
        rw [Nat.add_zero, h3 o (by omega)]
        have : o < cs.size := by omega
        simp [this]
      | succ j =>
        simp only [List.length_cons] at hj
        rw [show o + (j + 1) = o + 1 + j by omega, h5 j (by omega)]
        simp
theorem Blk.setAll_self {b : Nat} {T : TypeId} {w : World} {cs : Array Value} (h : Blk w b cs T) (vs : List Value) (hl : vs.length = cs.size) : Blk (setAll w b 0 vs) b vs.toArray T := by
  obtain ⟨cs', h1, h2, _, _, h5⟩ := Blk.setAll_at vs 0 w cs h (by omega)
  have : cs' = vs.toArray := by
    apply Array.ext_getElem?
    intro j
    rcases Nat.lt_or_ge j vs.length with hj | hj
    · have := h5 j hj
      rw [Nat.zero_add] at this
      rw [this]; simp
    · rw [Array.getElem?_eq_none (by omega), Array.getElem?_eq_none (by simp; omega)]
  rw [← this]; exact h1
theorem Below.setAll {B b : Nat} {w : World} (hb : B ≤ b) : ∀ (vs : List Value) (o : Nat) (w' : World), Below B w w' → Below B w (setAll w' b o vs)
  | [], _, _, h => h
  | v :: vs, o, _, h => Below.setAll hb vs (o + 1) _ (h.setCell (p := ⟨b, o, none⟩) hb v)

/-- As w was, but for block b: what a method leaves that writes to its receiver's block. -/
structure But (b : Nat) (w w' : World) : Prop where
  os : w'.os = w.os
  tape : w'.tape = w.tape
  output : w'.output = w.output
  size : w.heap.size ≤ w'.heap.size
  block : ∀ k, k < w.heap.size → k ≠ b → w'.heap[k]? = w.heap[k]?

theorem But.of {b : Nat} {w w' : World} (h : Below w.heap.size w w') : But b w w' := ⟨h.os, h.tape, h.output, h.size, fun k hk _ => h.block k hk⟩
theorem But.ext {b : Nat} {w w' w'' : World} (h : But b w w') (hb : Below w'.heap.size w' w'') : But b w w'' :=
  ⟨hb.os.trans h.os, hb.tape.trans h.tape, hb.output.trans h.output, Nat.le_trans h.size hb.size, fun k hk hne => (hb.block k (Nat.lt_of_lt_of_le hk h.size)).trans (h.block k hk hne)⟩
theorem But.set {b : Nat} {w w' : World} (h : But b w w') {p : Addr} (hp : p.block = b ∨ w.heap.size ≤ p.block) (v : Value) : But b w (w'.setCell p v) :=
  ⟨h.os, h.tape, h.output, by simpa [World.setCell] using h.size, fun k hk hne => by rw [Below.heap_setCell _ _ _ _ (by rcases hp with h | h <;> omega)]; exact h.block k hk hne⟩
theorem But.blk {b b' : Nat} {w w' : World} {cs : Array Value} {T : TypeId} (h : But b w w') (k : Blk w b' cs T) (hne : b' ≠ b) : Blk w' b' cs T := by
  have := k.lt
  unfold Blk at *
  rw [h.block _ this hne]; exact k
/-- where the block is one of the call's own -/
theorem But.below {b B : Nat} {w0 w w' : World} (h : But b w w') (h0 : Below B w0 w) (hB : B ≤ w.heap.size) (hb : B ≤ b) : Below B w0 w' :=
  h0.trans ⟨h.os, h.tape, h.output, h.size, fun k hk => h.block k (by omega) (by omega)⟩

end Go.Proofs.YtkiaeepdpmcafaaDoor
