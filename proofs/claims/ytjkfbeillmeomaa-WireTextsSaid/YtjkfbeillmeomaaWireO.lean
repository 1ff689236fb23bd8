/-
  Layer 20: heads and keys, as they come in.
-/
import Derived.Test.YtjkfbeillmeomaaWire5
import Derived.Deep.Slices
import Derived.ChangeSame
import Derived.Lib.SmallJoins
namespace Go.Proofs.Ytjkfbeillmeomaa
open Go.ChangeShapes Go.WideShapes Go.ChangeAt Go.RowKit

set_option maxRecDepth 100000 in
theorem digest_cells {H : Type} {enc : TypeId × Value → H} {P : Program} {W : World} {base : Nat} {spare : Nat → Bool} {held : Bool} {n : Nat} {e q : TypeId} {cs : List Value} {x : DataW H × List MemPlace} (he : P.underlying e = some (.array 32 q)) (hq : P.underlying q = some (.int .u8))
    (ce : P.cellsOf e = 32) (cq : P.cellsOf q = 1) (h : DataW.trod enc P W base spare held n e cs = some x) : ∃ d : List Int, Dg d ∧ cs = d.map (Value.int .u8) := by
  obtain ⟨ys, m, _, _, hl, hyl, hel⟩ := DataW.trod_array he h
  rw [ce] at hl
  have key : ∀ (j : Nat), j < 32 → ∃ x : Int, cs[j]? = some (.int .u8 x) ∧ (Lit.int .u8 x).wf = true := by
    intro j hj
    have h1 := hel j hj
    have hjl : j < cs.length := by omega
    rw [cq, Nat.mul_one] at h1
    obtain ⟨y, hy⟩ : ∃ y, ys[j]? = some y := ⟨_, List.getElem?_eq_getElem (by omega)⟩
    rw [hy] at h1
    have e1 : (cs.drop j).take 1 = [cs[j]] := by
      rw [List.drop_eq_getElem_cons hjl, List.take_succ_cons, List.take_zero]
    rw [e1] at h1
    obtain ⟨a, e0, _, wa⟩ := DataW.trod_int hq h1
    simp only [List.cons.injEq, and_true] at e0
    exact ⟨a, by rw [List.getElem?_eq_getElem hjl, e0], wa⟩
  refine ⟨cs.map fun v => match v with | .int _ x => x | _ => 0, ⟨by simp; omega, ?_⟩, ?_⟩
  · intro x hx
    simp only [List.mem_map] at hx
    obtain ⟨v, hv, rfl⟩ := hx
    obtain ⟨j, hj, rfl⟩ := List.getElem_of_mem hv
    obtain ⟨x, hx, hw⟩ := key j (by omega)
    rw [List.getElem?_eq_getElem hj] at hx
    rw [Option.some.inj hx]
    exact wf_u8 hw
  · apply List.ext_getElem?
    intro j
    rcases Nat.lt_or_ge j 32 with hj | hj
    · obtain ⟨x, hx, _⟩ := key j hj
      simp [hx]
    · rw [List.getElem?_eq_none (by omega), List.getElem?_eq_none (by simp; omega)]
set_option maxRecDepth 100000 in
/-- A key, as it comes in. -/
theorem open_pub {H : Type} {enc : TypeId × Value → H} {W : World} {base : Nat} {v : Value} {d : DataW H} {p : List MemPlace} (hv : Value.okWide Try.prog W .any base 29 v) (h : DataW.Trod enc Try.prog W 0 (fun _ => true) true 29 v d p) :
    ∃ (L V : Int) (root pub : List Int), v = .agg (pubC L V root pub).toArray ∧ (Lit.int .i64 L).wf = true ∧ (Lit.int .i64 V).wf = true ∧ Dg root ∧ Dg pub := by
  obtain ⟨f0, f1, f2, hu, t0, t1, t2, o0, o1, o2⟩ : ∃ f0 f1 f2 : Field, Try.prog.underlying 29 = some (.struct #[f0, f1, f2]) ∧ f0.type = 27 ∧ f1.type = 23 ∧ f2.type = 23 ∧ f0.offset = 0 ∧ f1.offset = 2 ∧ f2.offset = 34 := ⟨_, _, _, Try.underlying29, rfl, rfl, rfl, rfl, rfl, rfl⟩
  obtain ⟨g0, g1, hs, s0, s1, p0, p1⟩ : ∃ f0 f1 : Field, Try.prog.underlying 27 = some (.struct #[f0, f1]) ∧ f0.type = 3 ∧ f1.type = 3 ∧ f0.offset = 0 ∧ f1.offset = 1 := ⟨_, _, Try.underlying27, rfl, rfl, rfl, rfl⟩
  have c32 : Try.prog.cellsOf 23 = 32 := by kernel_rfl
  have c66 : Try.prog.cellsOf 29 = 66 := by kernel_rfl
  have c1 : Try.prog.cellsOf 5 = 1 := by kernel_rfl
  have ci : Try.prog.cellsOf 3 = 1 := by kernel_rfl
  have c2 : Try.prog.cellsOf 27 = 2 := by kernel_rfl
  unfold Value.okWide at hv
  rw [hu] at hv
  obtain ⟨cs, rfl, hsz, _⟩ := hv
  obtain ⟨fuel, hf⟩ := h
  have hf : DataW.trod enc Try.prog W 0 (fun _ => true) true fuel 29 cs.toList = some (d, p) := hf
  obtain ⟨y0, y1, y2, n, _, hl, q0, q1, q2⟩ := Go.Deep.trod_struct3 hu hf
  rw [t0, o0, c2] at q0
  rw [t1, o1, c32] at q1
  rw [t2, o2, c32] at q2
  obtain ⟨z0, z1, m, _, hl2, r0, r1⟩ := trod_struct2 hs q0
  rw [s0, p0, ci] at r0
  rw [s1, p1, ci] at r1
  obtain ⟨x, e0, _, w0⟩ := DataW.trod_int Try.underlying3 r0
  obtain ⟨y, e1, _, w1⟩ := DataW.trod_int Try.underlying3 r1
  obtain ⟨root, k1, e2⟩ := digest_cells Try.underlying23 Try.underlying5 c32 c1 q1
  obtain ⟨pub, k2, e3⟩ := digest_cells Try.underlying23 Try.underlying5 c32 c1 q2
  refine ⟨x, y, root, pub, ?_, w0, w1, k1, k2⟩
  refine congrArg Value.agg ?_
  apply Array.ext'
  rw [c66] at hl
  rw [c2] at hl2
  have h2 : (cs.toList.drop 0).take 2 = [.int .i64 x, .int .i64 y] := by
    obtain ⟨a, b, hab⟩ : ∃ a b, (cs.toList.drop 0).take 2 = [a, b] := by
      match (cs.toList.drop 0).take 2, hl2 with
      | [a, b], _ => exact ⟨a, b, rfl⟩
    rw [hab] at e0 e1 ⊢
    simp at e0 e1
    rw [e0, e1]
  have h3 : cs.toList = (cs.toList.drop 0).take 2 ++ ((cs.toList.drop 2).take 32 ++ (cs.toList.drop 34).take 32) := by
    rw [List.take_of_length_le (l := cs.toList.drop 34) (by rw [List.length_drop]; omega)]
    rw [show cs.toList.drop 34 = (cs.toList.drop 2).drop 32 by rw [List.drop_drop], List.take_append_drop, List.drop_zero, List.take_append_drop]
  rw [h3, h2, e2, e3]
  rfl
set_option maxRecDepth 100000 in
/-- A head, as it comes in. -/
theorem open_head {H : Type} {enc : TypeId × Value → H} {W : World} {base : Nat} {v : Value} {d : DataW H} {p : List MemPlace} (hv : Value.okWide Try.prog W .any base 25 v) (h : DataW.Trod enc Try.prog W 0 (fun _ => true) true 25 v d p) :
    ∃ (k q : Int) (t l : List Int), v = .agg (pubC k q t l).toArray ∧ (Lit.int .i64 k).wf = true ∧ (Lit.int .i64 q).wf = true ∧ Dg t ∧ Dg l := by
  obtain ⟨f0, f1, f2, f3, hu, t0, t1, t2, t3, o0, o1, o2, o3⟩ : ∃ f0 f1 f2 f3 : Field, Try.prog.underlying 25 = some (.struct #[f0, f1, f2, f3]) ∧ f0.type = 3 ∧ f1.type = 3 ∧ f2.type = 23 ∧ f3.type = 23 ∧ f0.offset = 0 ∧ f1.offset = 1 ∧ f2.offset = 2 ∧ f3.offset = 34 := ⟨_, _, _, _, Try.underlying25, rfl, rfl, rfl, rfl, rfl, rfl, rfl, rfl⟩
  have c32 : Try.prog.cellsOf 23 = 32 := by kernel_rfl
  have c66 : Try.prog.cellsOf 25 = 66 := by kernel_rfl
  have c1 : Try.prog.cellsOf 5 = 1 := by kernel_rfl
  have ci : Try.prog.cellsOf 3 = 1 := by kernel_rfl
  unfold Value.okWide at hv
  rw [hu] at hv
  obtain ⟨cs, rfl, hsz, _⟩ := hv
  obtain ⟨fuel, hf⟩ := h
  have hf : DataW.trod enc Try.prog W 0 (fun _ => true) true fuel 25 cs.toList = some (d, p) := hf
  obtain ⟨y0, y1, y2, y3, n, _, hl, q0, q1, q2, q3⟩ := Go.Joins.trod_struct4 hu hf
  rw [t0, o0, ci] at q0
  rw [t1, o1, ci] at q1
  rw [t2, o2, c32] at q2
  rw [t3, o3, c32] at q3
  obtain ⟨x, e0, _, w0⟩ := DataW.trod_int Try.underlying3 q0
  obtain ⟨y, e1, _, w1⟩ := DataW.trod_int Try.underlying3 q1
  obtain ⟨root, k1, e2⟩ := digest_cells Try.underlying23 Try.underlying5 c32 c1 q2
  obtain ⟨pub, k2, e3⟩ := digest_cells Try.underlying23 Try.underlying5 c32 c1 q3
  refine ⟨x, y, root, pub, ?_, w0, w1, k1, k2⟩
  refine congrArg Value.agg ?_
  apply Array.ext'
  rw [c66] at hl
  have h3 : cs.toList = (cs.toList.drop 0).take 1 ++ ((cs.toList.drop 1).take 1 ++ ((cs.toList.drop 2).take 32 ++ (cs.toList.drop 34).take 32)) := by
    rw [List.take_of_length_le (l := cs.toList.drop 34) (by rw [List.length_drop]; omega)]
    rw [show cs.toList.drop 34 = (cs.toList.drop 2).drop 32 by rw [List.drop_drop], List.take_append_drop, show cs.toList.drop 2 = (cs.toList.drop 1).drop 1 by rw [List.drop_drop], List.take_append_drop, List.drop_zero, List.take_append_drop]
  rw [h3, e0, e1, e2, e3]
  rfl
end Go.Proofs.Ytjkfbeillmeomaa
