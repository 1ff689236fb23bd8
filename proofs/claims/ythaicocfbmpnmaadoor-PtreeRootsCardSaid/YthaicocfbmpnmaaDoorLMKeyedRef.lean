/-
  KeyedRef, KeyedRef2, KeyedZero: one text.
-/
import Derived.Test.YthaicocfbmpnmaaDoorLMKeyed
import Derived.Test.YthaicocfbmpnmaaDoorLMAdrs
import Derived.Test.YthaicocfbmpnmaaDoorLMNum
import Derived.Test.YthaicocfbmpnmaaDoorLNShaRefSum
import Derived.Test.YthaicocfbmpnmaaDoorLNFlowB
import Derived.Test.YthaicocfbmpnmaaDoorLMDig
namespace Go.Proofs.YthaicocfbmpnmaaDoor
open Go.ChangeShapes Go.WideShapes Go.ChangeAt Go.RowKit

set_option maxRecDepth 100000 in
/-- what an append may write to: the row, if it is a text of the call's own -/
theorem OwnB.typed {w w' : World} {B base : Nat} {e : TypeId} {v : Value} {bs : List Int} (h : OwnB w base e v bs) (hB : B ≤ base) (hg : w.grownBy w' v.ownBlock) : FlowB.Typed B e w w' :=
  FlowB.Typed.of_grown hg fun q hq => by
    refine ⟨Nat.le_trans hB (h.lt q hq).1, ?_⟩
    obtain ⟨⟨_, ⟨h, _⟩ | ⟨g, cap, cur, he, _, hh, _⟩⟩, _⟩ := h
    · rw [h] at hq; cases hq
    · rw [he] at hq
      simp only [Value.ownBlock, Option.some.injEq] at hq
      subst hq
      exact ⟨_, _, hh⟩

end Go.Proofs.YthaicocfbmpnmaaDoor

namespace Go.Proofs.YthaicocfbmpnmaaDoor
open Go.ChangeShapes Go.WideShapes Go.ChangeAt Go.RowKit

set_option maxRecDepth 100000 in
/-- A text that came in, whatever is done to blocks from B on. -/
theorem TextAt.low0 {w0 w w' : World} {B : Nat} {a : Option Addr} {len cap : Nat} {t : List Int} (h0 : TextAt w0 a len cap t) (h : TextAt w a len cap t) (hB : w0.heap.size ≤ B) (hb : Below B w w') : TextAt w' a len cap t := by
  rcases Nat.eq_zero_or_pos len with hz | hz
  · obtain ⟨h1, h2, h3, h4, h5⟩ := h
    exact ⟨h1, h2, h3, h4, h5.imp id fun ⟨x, o, s, e, _⟩ => ⟨x, o, s, e, fun j hj => by omega⟩⟩
  · refine h.low hb fun p hp => ?_
    obtain ⟨x, o, he, hx, _⟩ := h0.at_ hz
    rw [hp] at he
    cases he
    show x < B
    omega

/-- an empty slice of bytes that the call made -/
def EmptyAt (B : Nat) (v : Value) : Prop := ∃ g, v = .slice (some ⟨g, 0, none⟩) 0 0 ∧ B ≤ g
def EmptyIn (v : Value) (w : World) : Prop := ∀ g, v = .slice (some ⟨g, 0, none⟩) 0 0 → Blk w g #[] 5
set_option maxRecDepth 100000 in
theorem EmptyIn.own {B g : Nat} {w : World} (h : EmptyIn (.slice (some ⟨g, 0, none⟩) 0 0) w) (hg : B ≤ g) : OwnB w B 5 (.slice (some ⟨g, 0, none⟩) 0 0) [] := OwnB.of_blk (bs := []) (h g rfl) hg rfl (by omega) (by simp)
set_option maxRecDepth 100000 in
theorem EmptyIn.new (w : World) : EmptyIn (.slice (some ⟨w.heap.size, 0, none⟩) 0 0) (w.alloc (.cells #[] 5)) := fun g hg => by
  injection hg with h1
  injection h1 with h1
  injection h1 with h1
  subst h1
  exact Blk.new rfl _ _

end Go.Proofs.YthaicocfbmpnmaaDoor

namespace Go.Proofs.YthaicocfbmpnmaaDoor
open Go.ChangeShapes Go.WideShapes Go.ChangeAt Go.RowKit

def zD : List Int := List.replicate 32 0
set_option maxRecDepth 100000 in
theorem Dg.zero : Dg zD := ⟨by simp [zD], fun x hx => by have := List.eq_of_mem_replicate hx; omega⟩
set_option maxRecDepth 100000 in
theorem zD_cells : byteCells 32 [] = (zD.map (Value.int .u8)).toArray := by kernel_rfl
set_option maxRecDepth 100000 in
theorem xorZ_zero {x : Int} (h : 0 ≤ x) : xorZ x 0 = x := by unfold xorZ; simp; omega
set_option maxRecDepth 100000 in
theorem xorD_zero {a : List Int} (ha : Dg a) : xorD a zD = a := by
  apply List.ext_getElem (by simp [xorD, ha.len, zD])
  intro i h1 h2
  simp only [xorD, zD, List.getElem_zipWith, List.getElem_replicate]
  exact xorZ_zero (ha.small _ (List.getElem_mem _)).1
set_option maxRecDepth 100000 in
theorem fZ_zero : fZ zD zD = sumZ (List.replicate 96 0) := by
  unfold fZ
  congr 1
set_option maxRecDepth 100000 in
theorem fZ_zero_ne : ¬ fZ zD zD = zD := by
  have h : (fZ zD zD).getD 0 0 ≠ 0 := by decide +kernel
  intro e
  rw [e] at h
  exact h (by decide)

set_option maxRecDepth 100000 in
theorem exec_make {P : Program} {o : Oper} {A : Act} {w w' : World} {l c : Operand} {t : TypeId} {vl vc v' : Value} (ho : o.op = .makeSlice t l c) (hl : A.eval l = vl) (hc : A.eval c = vc)
    (hr : (Instr.makeSlice t vl vc).run P w = .ok v' w') : (execOp A.eval o).run P w = .ok (.value v') w' := by
  unfold execOp
  simp [ho, hl, hc, hr]
set_option maxRecDepth 100000 in
theorem make_cells (n : Nat) : madeCells #[Value.int IntKind.u8 0] n = byteCells n [] := by
  have := made_zeros n 0
  simp only [be, List.append_nil] at this
  apply Array.ext'
  rw [this]
  simp [byteCells]

end Go.Proofs.YthaicocfbmpnmaaDoor
