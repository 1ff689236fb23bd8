/-
  Arguments that come in: arrays of integers, by value; numbers with their bounds.
-/
import Derived.ProofKit
import Derived.OpenShut
import Derived.Test.YtkiaeepdpmcafaaDoorArr
namespace Go.Proofs.YtkiaeepdpmcafaaDoor
open Go.ChangeShapes Go.WideShapes Go.ChangeAt Go.RowKit

theorem open_array_ints {H : Type} {enc : TypeId × Value → H} {P : Program} {W : World} {base : Nat} {t e : TypeId} {n : Nat} {k : IntKind} {v : Value} {d : DataW H} {p : List MemPlace} (hu : P.underlying t = some (.array n e)) (he : P.underlying e = some (.int k))
    (hc : P.cellsOf e = 1) (hct : P.cellsOf t = n) (hv : Value.okWide P W .any base t v) (h : DataW.Trod enc P W 0 (fun _ => true) true t v d p) :
    ∃ xs : List Int, xs.length = n ∧ v = ints k xs ∧ ∀ x ∈ xs, (Lit.int k x).wf = true := by
  unfold Value.okWide at hv
  rw [hu] at hv
  obtain ⟨cs, rfl, hsz, _⟩ := hv
  obtain ⟨fuel, hf⟩ := h
  have hf : DataW.trod enc P W 0 (fun _ => true) true fuel t cs.toList = some (d, p) := hf
  obtain ⟨ys, m, _, _, hl, hyl, hel⟩ := DataW.trod_array hu hf
  have key : ∀ (j : Nat), j < n → ∃ x : Int, cs.toList[j]? = some (.int k x) ∧ (Lit.int k x).wf = true := by
    intro j hj
    have h1 := hel j hj
    have hjl : j < cs.toList.length := by omega
    rw [hc, Nat.mul_one] at h1
    obtain ⟨y, hy⟩ : ∃ y, ys[j]? = some y := ⟨_, List.getElem?_eq_getElem (by omega)⟩
    rw [hy] at h1
    have e1 : (cs.toList.drop j).take 1 = [cs.toList[j]] := by
      rw [List.drop_eq_getElem_cons hjl]
      simp
    rw [e1] at h1
    obtain ⟨a, e0, _, wa⟩ := DataW.trod_int he h1
    simp only [List.cons.injEq, and_true] at e0
    exact ⟨a, by rw [List.getElem?_eq_getElem hjl, e0], wa⟩
  refine ⟨cs.toList.map fun v => match v with | .int _ x => x | _ => 0, ?_, ?_, ?_⟩
  · simp; omega
  · unfold ints
    congr 1
    apply Array.ext_getElem?
    intro j
    rcases Nat.lt_or_ge j n with hj | hj
    · obtain ⟨x, hx, _⟩ := key j hj
      have hx' : cs[j]? = some (.int k x) := by simpa using hx
      simp [hx']
    · rw [Array.getElem?_eq_none (by omega), Array.getElem?_eq_none (by simp; omega)]
  · intro x hx
    simp only [List.mem_map] at hx
    obtain ⟨v, hv, rfl⟩ := hx
    obtain ⟨j, hj, rfl⟩ := List.getElem_of_mem hv
    obtain ⟨x, hx, hw⟩ := key j (by simp only [Array.length_toList] at hj; omega)
    rw [List.getElem?_eq_getElem hj] at hx
    rw [Option.some.inj hx]
    exact hw

/-- A slice of integers that comes in: it is nil; or its elements lie in a row of a block that is there. -/
theorem open_row_ints {H : Type} {enc : TypeId × Value → H} {P : Program} {W : World} {base : Nat} {t e : TypeId} {k : IntKind} {v : Value} {d : DataW H} {p : List MemPlace} (hu : P.underlying t = some (.slice e)) (he : P.underlying e = some (.int k))
    (hc : P.cellsOf e = 1) (hv : Value.okWide P W .any base t v) (h : DataW.Trod enc P W 0 (fun _ => true) true t v d p) :
    ∃ (a : Option Addr) (len cap : Nat) (zs : List Int), v = .slice a len cap ∧ zs.length = len ∧ len ≤ cap ∧ cap ≤ maxLen ∧ (∀ z ∈ zs, (Lit.int k z).wf = true) ∧ ((a = none ∧ len = 0 ∧ cap = 0) ∨ ∃ b off s, a = some ⟨b, off, s⟩ ∧ ∀ i, i < len → s = none ∧ b < W.heap.size ∧ W.cell? ⟨b, off + i, none⟩ = some (.int k (zs.getD i 0))) := by
  obtain ⟨a, len, cap, rfl⟩ := okWide_slice hu hv
  obtain ⟨fuel, hf⟩ := h
  rcases open_ints hu he hc hf with ⟨hcs, _⟩ | ⟨x, l, c, zs, hcs, _, hl, hm, hz, _, hcell, hwz⟩
  · simp [Value.cells] at hcs
    obtain ⟨rfl, rfl, rfl⟩ := hcs
    exact ⟨none, 0, 0, [], rfl, rfl, Nat.le_refl _, Nat.zero_le _, by simp, .inl ⟨rfl, rfl, rfl⟩⟩
  · simp [Value.cells] at hcs
    obtain ⟨rfl, rfl, rfl⟩ := hcs
    obtain ⟨b, off, s⟩ := x
    have hz' : zs.length = cap := by simpa using hz
    refine ⟨_, len, cap, zs.take len, rfl, by simp; omega, hl, hm, fun z hz => hwz z (List.mem_of_mem_take hz), .inr ⟨b, off, s, rfl, fun i hi => ?_⟩⟩
    have h0 := hcell i (by omega)
    have hs : s = none := by
      have h00 := hcell 0 (by omega)
      have := World.cell?_spot h00
      simpa [Addr.add] using this
    subst hs
    rw [Addr.add_mid] at h0
    refine ⟨rfl, World.block_lt_of_cell? W _ h0, ?_⟩
    rw [h0]
    simp [hi]

theorem wf_u64 {x : Int} (h : (Lit.int .u64 x).wf = true) : 0 ≤ x ∧ x < 18446744073709551616 := by
  simp [Lit.wf, IntKind.min, IntKind.max, IntKind.signed, IntKind.bits] at h; omega
theorem wf_u32 {x : Int} (h : (Lit.int .u32 x).wf = true) : 0 ≤ x ∧ x < 4294967296 := by
  simp [Lit.wf, IntKind.min, IntKind.max, IntKind.signed, IntKind.bits] at h; omega
theorem wf_u16 {x : Int} (h : (Lit.int .u16 x).wf = true) : 0 ≤ x ∧ x < 65536 := by
  simp [Lit.wf, IntKind.min, IntKind.max, IntKind.signed, IntKind.bits] at h; omega
theorem wf_u8 {x : Int} (h : (Lit.int .u8 x).wf = true) : 0 ≤ x ∧ x < 256 := by
  simp [Lit.wf, IntKind.min, IntKind.max, IntKind.signed, IntKind.bits] at h; omega
theorem wf_i64 {x : Int} (h : (Lit.int .i64 x).wf = true) : -9223372036854775808 ≤ x ∧ x < 9223372036854775808 := by
  simp [Lit.wf, IntKind.min, IntKind.max, IntKind.signed, IntKind.bits] at h; omega
end Go.Proofs.YtkiaeepdpmcafaaDoor
