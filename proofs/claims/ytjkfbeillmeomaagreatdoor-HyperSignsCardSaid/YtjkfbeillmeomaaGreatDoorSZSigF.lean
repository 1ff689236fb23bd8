/-
  Layer 11: which signatures are formed, and few.
-/
import Derived.Test.YtjkfbeillmeomaaGreatDoorSZSig
namespace Go.Proofs.YtjkfbeillmeomaaGreatDoor
set_option maxRecDepth 100000
open Go.ChangeShapes Go.WideShapes Go.ChangeAt Go.RowKit
section
variable {P : Program} {ops : Array Oper} {rest : List Oper} {op : Oper} {a : Act} {w : World} {Q : Exit → Act → World → Prop} {t e : TypeId}
/-- An element's address, of elements of s cells. -/
theorem run_indexAt_s (s : Nat) (ht : P.underlying t = some (.slice e)) (hs : (P.info? e).map (·.size) = some s) (b o len cap : Nat) (k : IntKind) (i : Int) (j : Nat) (hi : i = j) (hj : j < len) (w : World) :
    (Instr.indexAt t (.slice (some ⟨b, o, none⟩) len cap) (.int k i)).run P w = .ok (.pointer (some ⟨b, o + j * s, none⟩)) w := by
  subst hi
  obtain ⟨i0, hi0, h32⟩ := Option.map_eq_some_iff.1 hs
  have hlt : (0 : Int) ≤ j ∧ (j : Int) < len := by omega
  unfold Instr.indexAt
  simp [asIntOf, Sem.run_bind, run_underlying ht, hlt, sizeOf, typeInfo, hi0, h32, hj, Addr.add_mid]
theorem quiet_index_s (s : Nat) {C : World → Prop} {K : Act → Prop} (ty : TypeId) (x ix : Operand) (ho : op.op = .indexAddr ty x ix) (ht : P.underlying ty = some (.slice e)) (hs : (P.info? e).map (·.size) = some s) (b o len cap : Nat) (hx : a.eval x = .slice (some ⟨b, o, none⟩) len cap)
    (k : IntKind) (i : Int) (hix : a.eval ix = .int k i) (j : Nat) (hi : i = j) (hj : j < len) (h : K (a.put op.dst (.pointer (some ⟨b, o + j * s, none⟩)))) : op.quiet P a C K :=
  ⟨.pointer (some ⟨b, o + j * s, none⟩), fun w' hw' => by
    unfold Oper.quietAt execOp
    simp only [ho, hx, hix, Sem.run_bind, Sem.run_pure, Result.andThen_ok, run_indexAt_s s ht hs b o len cap k i j hi hj]
    simp [Oper.quietUpon], h⟩
end
theorem size_part : (Tryz.prog.info? 63).map (·.size) = some 2 := by kernel_rfl
theorem sigC_index {i : Int} {r : List Int} {pv : Value} {w : World} {b : Nat} {T : TypeId} (k : Blk w b (sigC i r pv).toArray T) : w.cell? ⟨b, 0, none⟩ = some (.int .i64 i) := by rw [k.cell]; rfl
theorem sigC_parts {i : Int} {r : List Int} {pv : Value} {w : World} {b : Nat} {T : TypeId} (h : Dg r) (k : Blk w b (sigC i r pv).toArray T) : w.cell? ⟨b, 33, none⟩ = some pv := by
  rw [k.cell]
  simp [sigC, h.len]
theorem sigC_r {i : Int} {r : List Int} {pv : Value} {w : World} {b : Nat} {T : TypeId} (k : Blk w b (sigC i r pv).toArray T) : w.rangeAt b 1 (r.map (Value.int .u8)) := fun j v hv => by
  have hj : j < r.length := by have := (List.getElem?_eq_some_iff.1 hv).1; simpa using this
  rw [k.cell, List.getElem?_toArray, ← hv, Nat.add_comm]
  unfold sigC
  rw [List.getElem?_cons_succ, List.getElem?_append_left (by rw [List.length_map]; exact hj)]
/-- What a part's place holds. -/
structure PartC (w : World) (x o : Nat) (p : Prt) (oa : Option Addr) (oc : Nat) (aa : Option Addr) (ac : Nat) : Prop where
  lt : x < w.heap.size
  c0 : w.cell? ⟨x, o, none⟩ = some (.slice oa p.1.length oc)
  c1 : w.cell? ⟨x, o + 1, none⟩ = some (.slice aa p.2.length ac)
  ots : DigsAt w oa p.1.length oc p.1
  auth : DigsAt w aa p.2.length ac p.2
theorem PartsAt.part {w : World} {a : Option Addr} {len cap : Nat} {ps : List Prt} (h : PartsAt w a len cap ps) {k : Nat} (hk : k < len) :
    ∃ x o oa oc aa ac, a = some ⟨x, o, none⟩ ∧ PartC w x (o + k * 2) (ps.getD k ([], [])) oa oc aa ac := by
  obtain ⟨x, o, rfl, hx, hc⟩ := h.at_ (by omega)
  obtain ⟨u, v, c0, c1, ⟨oa, oc, rfl, h0⟩, ⟨aa, ac, rfl, h1⟩⟩ := hc k hk
  exact ⟨x, o, oa, oc, aa, ac, rfl, hx, c0, c1, h0, h1⟩
/-- Are a signature's parts few? -/
def fewP (ps : List Prt) : Bool := decide (∀ j, j < ps.length → (ps.getD j ([], [])).1.length ≤ 100 ∧ (ps.getD j ([], [])).2.length ≤ 100) && decide (ps.length ≤ 20)
end Go.Proofs.YtjkfbeillmeomaaGreatDoor
