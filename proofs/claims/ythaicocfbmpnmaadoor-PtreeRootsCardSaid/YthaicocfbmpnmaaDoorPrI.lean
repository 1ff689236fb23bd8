/-
  Layer 18: what a round of a walk over a function keeps: whatever cells lie elsewhere than in one block.
-/
import Derived.Test.YthaicocfbmpnmaaDoorPrE
import Derived.RangeFuncFrom
import Derived.RangeFuncNested
import Derived.RangeFuncBound
import Derived.RangeFuncCalls
import Derived.RangeFuncLeaves
import Derived.Shelf.Abstract
import Derived.Shelf.RegionOpen
import Derived.OwnWalkIn
import Derived.TacticsInMore
import Derived.LoopNIn
import Derived.LoopIn
namespace Go.Proofs.YthaicocfbmpnmaaDoor
open Go.ChangeShapes Go.WideShapes Go.ChangeAt Go.RowKit Go.Shelf

/-- Below block b all is as it was; from there on all cells are, but those of block b. -/
structure KeepC (b : Nat) (W W' : World) : Prop where
  low : Below b W W'
  same : ∀ (k : Nat) (o : Obj), k ≠ b → W.heap[k]? = some o → o.isCells = true → W'.heap[k]? = some o
theorem KeepC.trans {b : Nat} {X Y Z : World} (h : KeepC b X Y) (k : KeepC b Y Z) : KeepC b X Z := ⟨h.low.trans k.low, fun i o hi hx ho => k.same i o hi (h.same i o hi hx ho) ho⟩
theorem KeepC.of_below {b : Nat} {W W' : World} (hb : b ≤ W.heap.size) (h : Below W.heap.size W W') : KeepC b W W' :=
  ⟨h.mono hb, fun _ _ _ hk _ => (h.block _ (Array.getElem?_eq_some_iff.1 hk).1).trans hk⟩
theorem KeepC.of_but {b : Nat} {W W' : World} (hb : b ≤ W.heap.size) (h : But b W W') : KeepC b W W' :=
  ⟨⟨h.os, h.tape, h.output, h.size, fun k hk => h.block k (by omega) (by omega)⟩, fun _ _ hne hk _ => (h.block _ (Array.getElem?_eq_some_iff.1 hk).1 hne).trans hk⟩
theorem KeepC.putObj {b n : Nat} (hb : b ≤ n) (W : World) (l : Nat) (o o' : Obj) (hn : n ≤ l) (h : W.heap[l]? = some o) (ho : o.isCells = false) : KeepC b W (W.putObj l o') :=
  ⟨(Below.refl b W).grown (grownBy_putObj' W l o') (by have := (Array.getElem?_eq_some_iff.1 h).1; omega) (fun k e => by cases e; omega), fun k q _ hk hq => by
    by_cases e : k = l
    · subst e; rw [h] at hk; cases hk; rw [ho] at hq; cases hq
    · exact (World.putObj_heap_other e).trans hk⟩
theorem KeepC.blk {b n : Nat} {W W' : World} {cs : Array Value} {T : TypeId} (h : KeepC b W W') (k : Blk W n cs T) (hne : n ≠ b) : Blk W' n cs T := h.same n _ hne k rfl
theorem KeepC.ownD {b base g o n c : Nat} {W W' : World} {ds : List (List Int)} (h : KeepC b W W') (k : OwnD W base 23 (.slice (some ⟨g, o, none⟩) n c) ds) (hne : g ≠ b) : OwnD W' base 23 (.slice (some ⟨g, o, none⟩) n c) ds := by
  obtain ⟨⟨h1, h2⟩, h3⟩ := k
  refine ⟨⟨h1, h2.imp id ?_⟩, h3⟩
  rintro ⟨g, cap, cur, hv, hg, hh, hle, hmx, hsz, htk⟩
  cases hv
  have hk : Blk W _ cur 23 := hh
  exact ⟨_, _, cur, rfl, hg, h.blk hk hne, hle, hmx, hsz, htk⟩
theorem keepsFrom_below {B : Nat} {W W' : World} (h : Below W.heap.size W W') : KeepsFrom B W W' :=
  ⟨h.size, fun _ _ _ hk _ => (h.block _ (Array.getElem?_eq_some_iff.1 hk).1).trans hk⟩
theorem keepsFrom_but {b B : Nat} {W W' : World} (hb : b < B) (h : But b W W') : KeepsFrom B W W' :=
  ⟨h.size, fun _ _ hB hk _ => (h.block _ (Array.getElem?_eq_some_iff.1 hk).1 (by omega)).trans hk⟩

def noDefer (o : Oper) : Bool := match o.op with | .defer _ => false | _ => true
theorem noDefer_ne {o : Oper} (h : noDefer o = true) : ∀ c, o.op ≠ .defer c := fun c hc => by
  unfold noDefer at h
  rw [hc] at h
  cases h
theorem callsIn_any {F : Fence} (hF : F.plain = Fence.wide) {n : Nat} {P : Program} {f : FuncId} {args : Array Value} {w : World} {R : Ending → World → Prop} (h : Calls P f args w R) : CallsIn F n P f args w R := by
  have h1 : CallsIn F.plain n P f args w R := by rw [hF]; exact callsIn_wide.2 h
  exact h1
theorem rowsIn_any {F : Fence} (hF : F.plain = Fence.wide) {n : Nat} {P : Program} {row : String} {args : Array Value} {w : World} {R : Value → World → Prop} (h : Rows P row args w R) : RowsIn F n P row args w R := by
  have h1 : RowsIn F.plain n P row args w R := by
    rw [hF]
    intro c cs _
    obtain ⟨v, w1, h1, s1⟩ := h c cs
    exact ⟨v, w1, h1, stepsIn_wide.2 s1⟩
  exact h1
theorem wpListIn_pre {F : Fence} (hF : F.plain = Fence.wide) {n : Nat} {P : Program} {ops : Array Oper} {Q : Exit → Act → World → Prop} (rest : List Oper) : ∀ (L : List Oper) (a : Act) (w : World), L.all noDefer = true → wpList P ops (fun e a w => e = .normal ∧ wpListIn F n P ops Q rest a w) L a w → wpListIn F n P ops Q (L ++ rest) a w
  | [], _, _, _, h => h.2
  | o :: L, a, w, hnd, h => by
    have hfn : ∀ f, F.fn f := fun f => by
      have h1 : F.plain.fn f := by rw [hF]; trivial
      exact h1
    have hdp : F.depth = none := by
      have h1 : F.plain.depth = none := by rw [hF]; rfl
      exact h1
    rw [List.all_cons, Bool.and_eq_true] at hnd
    have ih := fun a w => wpListIn_pre hF (P := P) (ops := ops) (Q := Q) (n := n) rest L a w hnd.2
    have hout : ¬ LetsOut (fun e a w => e = Exit.normal ∧ wpListIn F n P ops Q rest a w) := fun ⟨_, _, h, _⟩ => by cases h
    unfold wpList at h
    rw [List.cons_append]
    unfold wpListIn
    split at h
    · rename_i hw
      rw [if_pos hw]
      rcases h with h | ⟨_, h⟩
      · refine ⟨fun f _ => hfn f, ?_⟩
        rw [Oper.semAt_plain F _ _ (noDefer_ne hnd.1)]
        unfold Oper.wp at h
        revert h
        generalize (execOp a.eval o).run P w = r
        intro h
        unfold Oper.upon at h
        split at h
        · exact ih _ _ h
        · exact ih _ _ h
        · exact ih _ _ h
        · refine ⟨fun h => (by rw [hdp] at h; cases h), callsIn_any hF (h.mono ?_)⟩
          intro e w1 h1
          cases e with
          | returned v => exact ih _ _ h1
          | panicked c => exact absurd h1.1 (by simp)
          | outgrown => exact (hout h1).elim
        · refine ⟨fun h => (by rw [hdp] at h; cases h), ?_⟩
          exact rowsIn_any hF (h.mono fun v w1 h1 => ih _ _ h1)
        · exact absurd h.1 (by simp)
        · exact h.elim
      · exact (hout h).elim
    · rename_i hw
      rw [if_neg hw]
      exact ⟨fun f _ => hfn f, ih _ _ h⟩
theorem wpListIn_any {F : Fence} (hF : F.plain = Fence.wide) {n : Nat} {P : Program} {ops : Array Oper} {Q : Exit → Act → World → Prop} (L : List Oper) (a : Act) (w : World) (hnd : L.all noDefer = true) (h : wpList P ops (fun e a w => e = .normal ∧ Q .normal a w) L a w) : wpListIn F n P ops Q L a w := by
  have := wpListIn_pre hF (P := P) (ops := ops) (Q := Q) (n := n) [] L a w hnd h
  rwa [List.append_nil] at this
theorem wpListIn_one {F : Fence} (hF : F.plain = Fence.wide) {n : Nat} {P : Program} {ops : Array Oper} {Q : Exit → Act → World → Prop} {rest : List Oper} {o : Oper} {a : Act} {w : World} (hnd : noDefer o = true) (h : wpList P ops (fun e a w => e = .normal ∧ wpListIn F n P ops Q rest a w) [o] a w) : wpListIn F n P ops Q (o :: rest) a w :=
  wpListIn_pre hF rest [o] a w (by simp [hnd]) h
/-- A region within a range over a function, walked as anywhere. -/
theorem wpIn_region_as {F : Fence} (hF : F.plain = Fence.wide) {n id : Nat} {P : Program} {L : List Oper} {Q : Exit → Act → World → Prop} {a : Act} {w : World} (hnd : L.all noDefer = true) (h : wpList P L.toArray (fun e a w => e = .normal ∧ Q .normal a w) L a w) : (Code.region id L.toArray false).wpIn F n P Q a w :=
  wpIn_region_lit (wpListIn_any hF L a w hnd h)
theorem grown_below {w w' : World} (h : Below w.heap.size w w') : w.grownBy w' none := ⟨h.os, h.tape, h.output, h.size, fun k hk _ => h.block k hk⟩
/-- The places up to k. -/
def upF (k : Nat) : List (Fin 256) := (List.finRange 256).take k
theorem upF_succ {k : Nat} (hk : k < 256) : upF (k + 1) = upF k ++ [⟨k, hk⟩] := by
  unfold upF
  rw [List.take_add_one, List.getElem?_eq_getElem (by rw [List.length_finRange]; exact hk)]
  simp
theorem upF_length {k : Nat} (hk : k ≤ 256) : (upF k).length = k := by
  unfold upF
  rw [List.length_take, List.length_finRange]
  omega
/-- Where one has come to when these places are climbed. -/
def foldC (d i : List Int) (ns : List (List Int)) (x : List Int) (pre : List (Fin 256)) : List Int := pre.foldl (fun X (k : Fin 256) => stepL i k.1 X (sibL d ns k.1)) x
theorem foldC_snoc (d i : List Int) (ns : List (List Int)) (x : List Int) (pre : List (Fin 256)) (k : Fin 256) : foldC d i ns x (pre ++ [k]) = stepL i k.1 (foldC d i ns x pre) (sibL d ns k.1) := by
  simp [foldC]
theorem foldC_up (d i : List Int) (ns : List (List Int)) (x : List Int) : ∀ {k : Nat}, k ≤ 256 → foldC d i ns x (upF k) = climbK d i ns x k
  | 0, _ => rfl
  | k + 1, h => by rw [upF_succ (by omega), foldC_snoc, foldC_up d i ns x (by omega)]; rfl
theorem Dg.foldC {x : List Int} (hx : Dg x) (d i : List Int) (ns : List (List Int)) (pre : List (Fin 256)) : Dg (foldC d i ns x pre) := by
  rcases List.eq_nil_or_concat pre with rfl | ⟨l, a, rfl⟩
  · exact hx
  · rw [List.concat_eq_append, foldC_snoc]; exact Dg.stepL _ _ _ _
theorem Dg.sibL {w : World} {d : List Int} {ad : Option Addr} {len cap : Nat} {ns : List (List Int)} (hn : knN d 256 = len) (hns : DigsAt w ad len cap ns) {k : Nat} (hk : k < 256) : Dg (sibL d ns k) := by
  unfold Go.Proofs.YthaicocfbmpnmaaDoor.sibL
  split
  · rename_i h
    have h1 : knN d (k + 1) = knN d k + (if knB d k then 1 else 0) := rfl
    rw [if_pos h] at h1
    have h2 := knN_mono d (show k + 1 ≤ 256 by omega)
    exact Dg.getD hns.each (by rw [hns.length]; omega)
  · exact Dg.emptyL k
end Go.Proofs.YthaicocfbmpnmaaDoor
