/-
  Text, Own, Few, OwnTwo: one text.
-/
import Derived.Deep.Matrix
import Derived.Test.YtjkfbeillmeomaaDoorRMBase
import Derived.OwnWalk
import Derived.Maps.AppendAt
namespace Go.Proofs.YtjkfbeillmeomaaDoor
set_option maxRecDepth 100000
open Go.ChangeShapes Go.WideShapes Go.ChangeAt Go.RowKit
/-- A text's bytes, in memory that was there. -/
structure TextAt (w : World) (a : Option Addr) (len cap : Nat) (t : List Int) : Prop where
  length : t.length = len
  le : len ≤ cap
  max : cap ≤ 9223372036854775807
  small : ∀ x ∈ t, 0 ≤ x ∧ x < 256
  mem : (a = none ∧ len = 0 ∧ cap = 0) ∨ ∃ x o s, a = some ⟨x, o, s⟩ ∧ ∀ j, j < len → s = none ∧ x < w.heap.size ∧ w.cell? ⟨x, o + j, none⟩ = some (.int .u8 (t.getD j 0))
theorem TextAt.below {w w' : World} {a : Option Addr} {len cap : Nat} {t : List Int} (h : TextAt w a len cap t) (hb : Below w.heap.size w w') : TextAt w' a len cap t := by
  obtain ⟨h1, h2, h3, h4, h | ⟨x, o, s, rfl, hc⟩⟩ := h
  · exact ⟨h1, h2, h3, h4, .inl h⟩
  · refine ⟨h1, h2, h3, h4, .inr ⟨x, o, s, rfl, fun j hj => ?_⟩⟩
    obtain ⟨q0, q1, q2⟩ := hc j hj
    exact ⟨q0, Nat.lt_of_lt_of_le q1 hb.size, (hb.cell (p := ⟨x, o + j, none⟩) q1).trans q2⟩
theorem TextAt.nil {w : World} : TextAt w none 0 0 [] := ⟨rfl, Nat.le_refl _, by omega, by simp, .inl ⟨rfl, rfl, rfl⟩⟩
/-- The text is empty, or its address is plain. -/
theorem TextAt.at_ {w : World} {a : Option Addr} {len cap : Nat} {t : List Int} (h : TextAt w a len cap t) (h0 : 0 < len) : ∃ x o, a = some ⟨x, o, none⟩ ∧ x < w.heap.size ∧ ∀ j, j < len → w.cell? ⟨x, o + j, none⟩ = some (.int .u8 (t.getD j 0)) := by
  obtain ⟨h1, h2, h3, h4, ⟨_, h, _⟩ | ⟨x, o, s, rfl, hc⟩⟩ := h
  · omega
  · obtain ⟨rfl, hx, _⟩ := hc 0 h0
    exact ⟨x, o, rfl, hx, fun j hj => (hc j hj).2.2⟩
theorem TextAt.of_row {w : World} {g n cap : Nat} {bs : List Int} (h : Row8 w g bs) (hn : bs.length = n) (hc : n ≤ cap) (hm : cap ≤ 9223372036854775807) (hs : ∀ x ∈ bs, 0 ≤ x ∧ x < 256) : TextAt w (some ⟨g, 0, none⟩) n cap bs := by
  obtain ⟨cs, T, hk, hcell⟩ := h
  refine ⟨hn, hc, hm, hs, .inr ⟨g, 0, none, rfl, fun j hj => ⟨rfl, hk.lt, ?_⟩⟩⟩
  rw [Nat.zero_add, hk.cell]
  exact hcell j (by omega)
/-- A part of a block's cells. -/
theorem TextAt.of_blk {w : World} {g o n cap : Nat} {cs : Array Value} {T : TypeId} {bs : List Int} (h : Blk w g cs T) (hn : bs.length = n) (hc : n ≤ cap) (hm : cap ≤ 9223372036854775807) (hs : ∀ x ∈ bs, 0 ≤ x ∧ x < 256) (hcs : ∀ j, j < n → cs[o + j]? = some (.int .u8 (bs.getD j 0))) : TextAt w (some ⟨g, o, none⟩) n cap bs := by
  refine ⟨hn, hc, hm, hs, .inr ⟨g, o, none, rfl, fun j hj => ⟨rfl, h.lt, ?_⟩⟩⟩
  rw [h.cell]
  exact hcs j hj
/-- A whole array of bytes. -/
theorem TextAt.of_ints {w : World} {g n : Nat} {T : TypeId} {bs : List Int} (h : Blk w g (bs.map (Value.int .u8)).toArray T) (hn : bs.length = n) (hm : n ≤ 9223372036854775807) (hs : ∀ x ∈ bs, 0 ≤ x ∧ x < 256) : TextAt w (some ⟨g, 0, none⟩) n n bs :=
  TextAt.of_blk h hn (Nat.le_refl _) hm hs fun j hj => by rw [Nat.zero_add]; simp [show j < bs.length by omega]
/-- where a part of a slice begins -/
def cutA (a : Option Addr) (l cap : Nat) : Option Addr := if cap = l then a else a.map (·.add l)
theorem cutA_zero (a : Option Addr) (cap : Nat) : cutA a 0 cap = a := by
  unfold cutA
  split
  · rfl
  · cases a with
    | none => rfl
    | some a => obtain ⟨x, o, s⟩ := a; cases s <;> simp [Addr.add]
theorem TextAt.cut {w : World} {a : Option Addr} {len cap : Nat} {t : List Int} (h : TextAt w a len cap t) (l hi : Nat) (hl : l ≤ hi) (hh : hi ≤ len) : TextAt w (cutA a l cap) (hi - l) (cap - l) ((t.drop l).take (hi - l)) := by
  obtain ⟨h1, h2, h3, h4, h5⟩ := h
  refine ⟨by simp; omega, by omega, by omega, fun x hx => h4 x (List.mem_of_mem_drop (List.mem_of_mem_take hx)), ?_⟩
  unfold cutA
  rcases h5 with ⟨rfl, rfl, rfl⟩ | ⟨x, o, s, rfl, hc⟩
  · left
    refine ⟨by split <;> rfl, by omega, by omega⟩
  · right
    split
    · exact ⟨x, o, s, rfl, fun j hj => by omega⟩
    · rcases Nat.eq_or_lt_of_le hl with rfl | hlt
      · rcases s with _ | s
        · exact ⟨x, o + l, none, by rw [Option.map_some, Addr.add_mid], fun j hj => by omega⟩
        · cases ha : (⟨x, o, some s⟩ : Addr).add l with
          | mk x' o' s' => exact ⟨x', o', s', by simp [ha], fun j hj => by omega⟩
      · obtain ⟨rfl, hx, _⟩ := hc l (by omega)
        refine ⟨x, o + l, none, by rw [Option.map_some, Addr.add_mid], fun j hj => ⟨rfl, hx, ?_⟩⟩
        rw [Nat.add_assoc, (hc (l + j) (by omega)).2.2]
        simp [List.getD_eq_getElem?_getD, show j < hi - l by omega]
section
variable {P : Program} {t e : TypeId}
theorem run_cut_h (ht : P.underlying t = some (.slice e)) (hs : (P.info? e).map (·.size) = some 1) (a : Option Addr) (len cap : Nat) (hi : Int) (w : World) (h0 : 0 ≤ hi) (h2 : hi ≤ cap) :
    (Instr.slice t (.slice a len cap) none (some (.int .i64 hi)) none).run P w = .ok (.slice a hi.toNat cap) w := by
  have he : P.elem t = e := by simp [Program.elem, ht]
  rw [run_slice_h (w := w) t a len cap (by rw [he]; exact ht) _ hi h0 h2]
  obtain ⟨i, hi1, hi2⟩ := Option.map_eq_some_iff.1 hs
  have := cutA_zero a cap
  unfold cutA at this
  simp [sizeOf, typeInfo, he, hi1, hi2, sliced, this]
theorem run_cut_l (ht : P.underlying t = some (.slice e)) (hs : (P.info? e).map (·.size) = some 1) (a : Option Addr) (len cap : Nat) (l : Int) (w : World) (h0 : 0 ≤ l) (h1 : l ≤ len) :
    (Instr.slice t (.slice a len cap) (some (.int .i64 l)) none none).run P w = .ok (.slice (cutA a l.toNat cap) (len - l.toNat) (cap - l.toNat)) w := by
  have he : P.elem t = e := by simp [Program.elem, ht]
  rw [run_slice_l (w := w) t a len cap (by rw [he]; exact ht) _ l h0 h1]
  obtain ⟨i, hi1, hi2⟩ := Option.map_eq_some_iff.1 hs
  simp [sizeOf, typeInfo, he, hi1, hi2, sliced, cutA]
end
theorem weights_cons {H : Type} {P : Program} {t : TypeId} {ts : List TypeId} {d : DataW H} {ds : List (DataW H)} (h : (DataW.weightsEach P (t :: ts) (d :: ds)).all (· ≤ reachBytes) = true) : (d.weights P t).all (· ≤ reachBytes) = true ∧ (DataW.weightsEach P ts ds).all (· ≤ reachBytes) = true := by
  simpa [DataW.weightsEach] using h
section
variable {P : Program} {t e : TypeId}
/-- A text that comes in. -/
theorem open_text {H : Type} {enc : TypeId × Value → H} {W : World} {base : Nat} {v : Value} {d : DataW H} {p : List MemPlace} (hu : P.underlying t = some (.slice e)) (he : P.underlying e = some (.int .u8))
    (hc : P.cellsOf e = 1) (hv : Value.okWide P W .any base t v) (h : DataW.Trod enc P W 0 (fun _ => true) true t v d p) :
    ∃ (a : Option Addr) (len cap : Nat) (bs : List Int), v = .slice a len cap ∧ TextAt W a len cap bs ∧ (P.bytesOf e = 1 → (d.weights P t).all (· ≤ reachBytes) = true → cap ≤ 140737488351232) := by
  obtain ⟨a, len, cap, rfl⟩ := okWide_slice hu hv
  obtain ⟨fuel, hf⟩ := h
  rcases open_ints hu he hc hf with ⟨hcs, _⟩ | ⟨x, l, c, zs, hcs, _, hl, hm, hz, hd, hcell, hwz⟩
  · simp [Value.cells] at hcs
    obtain ⟨rfl, rfl, rfl⟩ := hcs
    exact ⟨none, 0, 0, [], rfl, TextAt.nil, fun _ _ => by omega⟩
  · simp [Value.cells] at hcs
    obtain ⟨rfl, rfl, rfl⟩ := hcs
    obtain ⟨b, off, s⟩ := x
    have hz' : zs.length = cap := by simpa using hz
    refine ⟨_, len, cap, zs.take len, rfl, ⟨by simp; omega, hl, by unfold maxLen at hm; omega, fun z hz => wf_u8 (hwz z (List.mem_of_mem_take hz)), .inr ⟨b, off, s, rfl, fun i hi => ?_⟩⟩, fun hb hw => ?_⟩
    · have h0 := hcell i (by omega)
      have hs : s = none := by
        have h00 := hcell 0 (by omega)
        have := World.cell?_spot h00
        simpa [Addr.add] using this
      subst hs
      rw [Addr.add_mid] at h0
      refine ⟨rfl, World.block_lt_of_cell? W _ h0, ?_⟩
      rw [h0]
      simp [hi]
    · injection hd with hd _
      subst hd
      simp [DataW.weights, hu, lits, hb, reachBytes, hz'] at hw
      have := of_decide_eq_true hw.1
      omega
end
/-- Texts, in memory that was there. -/
structure TextsAt (w : World) (a : Option Addr) (len cap : Nat) (ts : List (List Int)) : Prop where
  length : ts.length = len
  le : len ≤ cap
  max : cap ≤ 9223372036854775807
  mem : len = 0 ∨ ∃ x o, a = some ⟨x, o, none⟩ ∧ x < w.heap.size ∧ ∀ j, j < len → ∃ a' l' c', w.cell? ⟨x, o + j, none⟩ = some (.slice a' l' c') ∧ TextAt w a' l' c' (ts.getD j [])
theorem TextsAt.below {w w' : World} {a : Option Addr} {len cap : Nat} {ts : List (List Int)} (h : TextsAt w a len cap ts) (hb : Below w.heap.size w w') : TextsAt w' a len cap ts := by
  obtain ⟨h1, h2, h3, h | ⟨x, o, rfl, hx, hc⟩⟩ := h
  · exact ⟨h1, h2, h3, .inl h⟩
  · refine ⟨h1, h2, h3, .inr ⟨x, o, rfl, Nat.lt_of_lt_of_le hx hb.size, fun j hj => ?_⟩⟩
    obtain ⟨a', l', c', q1, q2⟩ := hc j hj
    exact ⟨a', l', c', (hb.cell (p := ⟨x, o + j, none⟩) hx).trans q1, q2.below hb⟩
theorem TextsAt.at_ {w : World} {a : Option Addr} {len cap : Nat} {ts : List (List Int)} (h : TextsAt w a len cap ts) (j : Nat) (hj : j < len) : ∃ x o a' l' c', a = some ⟨x, o, none⟩ ∧ x < w.heap.size ∧ w.cell? ⟨x, o + j, none⟩ = some (.slice a' l' c') ∧ TextAt w a' l' c' (ts.getD j []) := by
  obtain ⟨h1, h2, h3, h | ⟨x, o, rfl, hx, hc⟩⟩ := h
  · omega
  · obtain ⟨a', l', c', q1, q2⟩ := hc j hj
    exact ⟨x, o, a', l', c', rfl, hx, q1, q2⟩
end Go.Proofs.YtjkfbeillmeomaaDoor
namespace Go.Proofs.YtjkfbeillmeomaaDoor
set_option maxRecDepth 100000
open Go.RowKit
/-- A slice of the call's own holds these bytes. -/
structure OwnB (w : World) (base : Nat) (e : TypeId) (v : Value) (bs : List Int) : Prop where
  row : w.ownsRow base e 1 v bs.length (bs.map (Value.int .u8))
  small : ∀ x ∈ bs, 0 ≤ x ∧ x < 256
section
variable {P : Program} {w : World} {base : Nat} {t e : TypeId} {i : TypeInfo} {v : Value} {bs : List Int}
end
/-- A slice of the call's own holds texts, whose bytes lie in other blocks. -/
structure OwnT (w : World) (base : Nat) (e T : TypeId) (v : Value) (ts : List (List Int)) : Prop where
  row : ∃ xs, w.ownsRow base e 1 v ts.length xs ∧ ∀ j, j < ts.length → ∃ a l c, xs[j]? = some (.slice a l c) ∧ TextAt w a l c (ts.getD j []) ∧ ∀ p : Addr, a = some p → base ≤ p.block ∧ ∃ cs, w.heap[p.block]? = some (.cells cs T (0, 0))
end Go.Proofs.YtjkfbeillmeomaaDoor
namespace Go.Proofs.YtjkfbeillmeomaaDoor
set_option maxRecDepth 100000
open Go.RowKit
def sumLen (ts : List (List Int)) : Nat := (ts.map List.length).sum
theorem sumLen_take (ts : List (List Int)) (k : Nat) (h : k < ts.length) : sumLen (ts.take (k + 1)) = sumLen (ts.take k) + (ts.getD k []).length := by
  unfold sumLen
  rw [List.take_succ_eq_append_getElem h, List.map_append, List.sum_append, show ts.getD k [] = ts[k] by simp [h]]
  simp
theorem sumLen_le (ts : List (List Int)) (k : Nat) : sumLen (ts.take k) ≤ sumLen ts := by
  have h : ts = ts.take k ++ ts.drop k := (List.take_append_drop k ts).symm
  have : sumLen ts = sumLen (ts.take k) + sumLen (ts.drop k) := by
    unfold sumLen
    rw [← List.sum_append, ← List.map_append, List.take_append_drop]
  omega
theorem flatten_length (ts : List (List Int)) : ts.flatten.length = sumLen ts := by
  unfold sumLen
  rw [List.length_flatten]
theorem flatten_take (ts : List (List Int)) (k : Nat) (h : k < ts.length) : (ts.take (k + 1)).flatten = (ts.take k).flatten ++ ts.getD k [] := by
  rw [List.take_succ_eq_append_getElem h, List.flatten_append, show ts.getD k [] = ts[k] by simp [h]]
  simp
/-- Few, as a Bool. -/
def fewB (ts : List (List Int)) (most : Nat) : Bool := decide (sumLen ts ≤ most) && decide (ts.length ≤ 100)
end Go.Proofs.YtjkfbeillmeomaaDoor
namespace Go.Proofs.YtjkfbeillmeomaaDoor
set_option maxRecDepth 100000
open Go.RowKit
section
variable {P : Program} {w : World} {base : Nat} {t e : TypeId} {i : TypeInfo} {v : Value} {bs : List Int}
end
end Go.Proofs.YtjkfbeillmeomaaDoor
