/-
  Layer 18: a proof, as it comes in.
-/
import Derived.Test.YthaicocfbmpnmaaDoorPrH
import Derived.Deep.SlicePairs
import Derived.Deep.Slices
namespace Go.Proofs.YthaicocfbmpnmaaDoor
open Go.ChangeShapes Go.WideShapes Go.ChangeAt Go.RowKit

set_option maxRecDepth 100000 in
theorem digs_cells {H : Type} {enc : TypeId × Value → H} {P : Program} {W : World} {n : Nat} {t e q : TypeId} {cs : List Value} {x : DataW H × List MemPlace} (hu : P.underlying t = some (.slice e)) (he : P.underlying e = some (.array 32 q)) (hq : P.underlying q = some (.int .u8))
    (ce : P.cellsOf e = 32) (cq : P.cellsOf q = 1) (h : DataW.trod enc P W 0 (fun _ => true) true n t cs = some x) :
    ∃ (a : Option Addr) (len cap : Nat) (ds : List (List Int)), cs = [.slice a len cap] ∧ DigsAt W a len cap ds := by
  rcases Go.Deep.open_slice hu h with ⟨rfl, _⟩ | ⟨x, len, cap, m, n, D, Pl, rfl, _, hl, hm, hmm, _, hall⟩
  · exact ⟨none, 0, 0, [], rfl, DigsAt.nil W⟩
  · obtain ⟨b, off, s⟩ := x
    simp only [if_true] at hmm
    have hall' : ∀ i, i < cap → ∃ dd : List Int, Dg dd ∧ W.cells? 0 ((⟨b, off, s⟩ : Addr).add (i * 32)) 32 = some (dd.map (Value.int .u8)) := fun i hi => by
      obtain ⟨cs', h1, h2⟩ := hall i (by omega)
      rw [ce] at h1
      obtain ⟨dd, h3, rfl⟩ := digest_cells he hq ce cq h2
      exact ⟨dd, h3, h1⟩
    let f : Nat → List Int := fun i => if h : i < cap then Classical.choose (hall' i h) else []
    have hf : ∀ i, i < cap → Dg (f i) ∧ W.cells? 0 ((⟨b, off, s⟩ : Addr).add (i * 32)) 32 = some ((f i).map (Value.int .u8)) := fun i hi => by
      simp only [f, hi, dif_pos]
      exact Classical.choose_spec (hall' i hi)
    refine ⟨_, len, cap, (List.range len).map f, rfl, ⟨by simp, hl, by unfold maxLen at hm; omega, fun d hd => ?_, .inr ⟨b, off, s, rfl, fun i hi => ?_⟩⟩⟩
    · simp only [List.mem_map, List.mem_range] at hd
      obtain ⟨i, hi, rfl⟩ := hd
      exact (hf i (by omega)).1
    · have hc := (World.cells?_some (hf i (by omega)).2).2.2
      have h0 := (World.cells?_some (hf 0 (by omega)).2).2.2 0 (by omega)
      have hl0 := (hf 0 (by omega)).1.len
      have hli := (hf i (by omega)).1.len
      rw [List.getElem?_map, List.getElem?_eq_getElem (by omega)] at h0
      have hs : s = none := by
        have := World.cell?_spot h0
        simpa [Addr.add] using this
      subst hs
      have hx : b < W.heap.size := by
        rw [Addr.add_mid, Addr.add_mid] at h0
        exact World.block_lt_of_cell? W _ h0
      refine ⟨rfl, hx, fun k v hv => ?_⟩
      have e : ((List.range len).map f).getD i [] = f i := by simp [hi]
      rw [e] at hv
      have hk : k < 32 := by
        have := (List.getElem?_eq_some_iff.1 hv).1
        simp only [List.length_map, hli] at this
        exact this
      have := hc k hk
      rw [Addr.add_mid, Addr.add_mid] at this
      rw [this]
      exact hv

set_option maxHeartbeats 4000000 in
set_option maxRecDepth 100000 in
theorem open_proof {H : Type} {enc : TypeId × Value → H} {W : World} {base : Nat} {v : Value} {d : DataW H} {p : List MemPlace} (hv : Value.okWide Tryd.prog W .any base 46 v) (h : DataW.Trod enc Tryd.prog W 0 (fun _ => true) true 46 v d p) :
    ∃ (k : List Int) (a : Option Addr) (n c : Nat) (ds : List (List Int)), v = .agg (prC k (.slice a n c)).toArray ∧ Dg k ∧ DigsAt W a n c ds := by
  obtain ⟨f0, f1, hu, t0, t1, o0, o1⟩ : ∃ f0 f1 : Field, Tryd.prog.underlying 46 = some (.struct #[f0, f1]) ∧ f0.type = 23 ∧ f1.type = 27 ∧ f0.offset = 0 ∧ f1.offset = 32 := ⟨_, _, Tryd.underlying46, rfl, rfl, rfl, rfl⟩
  have c32 : Tryd.prog.cellsOf 23 = 32 := by kernel_rfl
  have c33 : Tryd.prog.cellsOf 46 = 33 := by kernel_rfl
  have c1 : Tryd.prog.cellsOf 5 = 1 := by kernel_rfl
  have cd : Tryd.prog.cellsOf 27 = 1 := by kernel_rfl
  unfold Value.okWide at hv
  rw [hu] at hv
  obtain ⟨cs, rfl, hsz, _⟩ := hv
  obtain ⟨fuel, hf⟩ := h
  have hf : DataW.trod enc Tryd.prog W 0 (fun _ => true) true fuel 46 cs.toList = some (d, p) := hf
  obtain ⟨y0, y1, n, _, hl, q0, q1⟩ := trod_struct2 hu hf
  rw [t0, o0, c32] at q0
  rw [t1, o1, cd] at q1
  obtain ⟨d0, k0, e0⟩ := digest_cells Tryd.underlying23 Tryd.underlying5 c32 c1 q0
  obtain ⟨a, m, c, ds, e1, k1⟩ := digs_cells Tryd.underlying27 Tryd.underlying23 Tryd.underlying5 c32 c1 q1
  refine ⟨d0, a, m, c, ds, ?_, k0, k1⟩
  refine congrArg Value.agg ?_
  apply Array.ext'
  rw [c33] at hl
  unfold prC
  rw [← e0, ← e1]
  have h3 : cs.toList = cs.toList.take 32 ++ (cs.toList.drop 32).take 1 := by
    rw [List.take_of_length_le (l := cs.toList.drop 32) (by rw [List.length_drop]; omega), List.take_append_drop]
  simpa using h3
end Go.Proofs.YthaicocfbmpnmaaDoor
