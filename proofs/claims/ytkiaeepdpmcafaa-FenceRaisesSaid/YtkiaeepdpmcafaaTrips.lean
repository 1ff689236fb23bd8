/-
  A slice of structs of three int fields, opened.
-/
import Derived.Deep.Slices
import Derived.ChangeSame
import Derived.Test.YtkiaeepdpmcafaaOpens
namespace Go.Proofs.Ytkiaeepdpmcafaa
open Go.ChangeShapes Go.WideShapes Go.ChangeAt Go.RowKit

theorem open_row_trips {H : Type} {enc : TypeId × Value → H} {P : Program} {W : World} {base : Nat} {t e : TypeId} {f0 f1 f2 : Field} {v : Value} {d : DataW H} {p : List MemPlace} (hu : P.underlying t = some (.slice e)) (he : P.underlying e = some (.struct #[f0, f1, f2]))
    (ce : P.cellsOf e = 3) (o0 : f0.offset = 0) (o1 : f1.offset = 1) (o2 : f2.offset = 2) (c0 : P.cellsOf f0.type = 1) (c1 : P.cellsOf f1.type = 1) (c2 : P.cellsOf f2.type = 1)
    (k0 : P.underlying f0.type = some (.int .i64)) (k1 : P.underlying f1.type = some (.int .i64)) (k2 : P.underlying f2.type = some (.int .i64))
    (hv : Value.okWide P W .any base t v) (h : DataW.Trod enc P W 0 (fun _ => true) true t v d p) :
    ∃ (a : Option Addr) (len cap : Nat) (X Y Z : Nat → Int), v = .slice a len cap ∧ len ≤ cap ∧ cap ≤ maxLen ∧ ((a = none ∧ len = 0) ∨ ∃ b off s, a = some ⟨b, off, s⟩ ∧ ∀ i, i < len → s = none ∧ b < W.heap.size ∧
      W.cell? ⟨b, off + i * 3, none⟩ = some (.int .i64 (X i)) ∧ W.cell? ⟨b, off + i * 3 + 1, none⟩ = some (.int .i64 (Y i)) ∧ W.cell? ⟨b, off + i * 3 + 2, none⟩ = some (.int .i64 (Z i))) := by
  obtain ⟨a, len, cap, rfl⟩ := okWide_slice hu hv
  obtain ⟨fuel, hf⟩ := h
  rcases Go.Deep.open_slice hu hf with ⟨hcs, _⟩ | ⟨a', len', cap', m, n, D, Pl, hcs, _, hl, hm, hmm, _, hx⟩
  · simp [Value.cells] at hcs
    obtain ⟨rfl, rfl, rfl⟩ := hcs
    exact ⟨none, 0, 0, fun _ => 0, fun _ => 0, fun _ => 0, rfl, Nat.le_refl _, Nat.zero_le _, .inl ⟨rfl, rfl⟩⟩
  · simp [Value.cells] at hcs
    obtain ⟨rfl, rfl, rfl⟩ := hcs
    obtain ⟨b, off, s⟩ := a'
    simp only [if_true] at hmm
    subst hmm
    have hspot : 0 < m → s = none := fun h0 => by
      obtain ⟨cs', h1, h2⟩ := hx 0 h0
      rw [ce] at h1
      obtain ⟨_, hlen, hcell⟩ := World.cells?_some h1
      match cs', hlen with
      | [v0, v1, v2], _ =>
        have := World.cell?_spot (hcell 0 (by omega))
        simpa [Addr.add] using this
    have each : ∀ i, i < m → ∃ q : Int × Int × Int, s = none ∧ b < W.heap.size ∧ W.cell? ⟨b, off + i * 3, none⟩ = some (.int .i64 q.1) ∧ W.cell? ⟨b, off + i * 3 + 1, none⟩ = some (.int .i64 q.2.1) ∧ W.cell? ⟨b, off + i * 3 + 2, none⟩ = some (.int .i64 q.2.2) := by
      intro i hi
      obtain ⟨cs', h1, h2⟩ := hx i hi
      rw [ce] at h1
      obtain ⟨_, hlen, hcell⟩ := World.cells?_some h1
      obtain ⟨xs, k, hk, hxy, _, hxl, hf⟩ := DataW.trod_struct he h2
      match xs, hxl, cs', hlen with
      | [y0, y1, y2], _, [v0, v1, v2], _ =>
        have g0 := hf 0 f0 rfl
        have g1 := hf 1 f1 rfl
        have g2 := hf 2 f2 rfl
        simp [o0, o1, o2, c0, c1, c2] at g0 g1 g2
        have e0 := hcell 0 (by omega)
        have e1 := hcell 1 (by omega)
        have e2 := hcell 2 (by omega)
        obtain rfl := hspot (by omega)
        obtain ⟨x, hx0, _⟩ := DataW.trod_int k0 g0
        obtain ⟨y, hx1, _⟩ := DataW.trod_int k1 g1
        obtain ⟨z, hx2, _⟩ := DataW.trod_int k2 g2
        injection hx0 with hx0
        injection hx1 with hx1
        injection hx2 with hx2
        subst hx0 hx1 hx2
        simp only [Addr.add_mid, Nat.add_zero, List.getElem?_cons_zero, List.getElem?_cons_succ] at e0 e1 e2
        exact ⟨(x, y, z), rfl, World.block_lt_of_cell? W _ e0, e0, e1, e2⟩
    obtain ⟨q, hq⟩ := Go.Deep.choose_lt each
    exact ⟨_, len, m, fun i => (q i).1, fun i => (q i).2.1, fun i => (q i).2.2, rfl, hl, hm, .inr ⟨b, off, s, rfl, fun i hi => hq i (by omega)⟩⟩

end Go.Proofs.Ytkiaeepdpmcafaa
