/-
  Text, Own, Few, OwnTwo: one text.
-/
import Derived.Deep.Matrix
import Derived.Test.YtmpgnpkodapidaaDMBase
import Derived.OwnWalk
import Derived.Maps.AppendAt
namespace Go.Proofs.Ytmpgnpkodapidaa
open Go.ChangeShapes Go.WideShapes Go.ChangeAt Go.RowKit

/-- A text's bytes, in memory that was there. -/
structure TextAt (w : World) (a : Option Addr) (len cap : Nat) (t : List Int) : Prop where
  length : t.length = len
  le : len ≤ cap
  max : cap ≤ 9223372036854775807
  small : ∀ x ∈ t, 0 ≤ x ∧ x < 256
  mem : (a = none ∧ len = 0 ∧ cap = 0) ∨ ∃ x o s, a = some ⟨x, o, s⟩ ∧ ∀ j, j < len → s = none ∧ x < w.heap.size ∧ w.cell? ⟨x, o + j, none⟩ = some (.int .u8 (t.getD j 0))

set_option maxRecDepth 100000 in
theorem TextAt.below {w w' : World} {a : Option Addr} {len cap : Nat} {t : List Int} (h : TextAt w a len cap t) (hb : Below w.heap.size w w') : TextAt w' a len cap t := by
  obtain ⟨h1, h2, h3, h4, h | ⟨x, o, s, rfl, hc⟩⟩ := h
  · exact ⟨h1, h2, h3, h4, .inl h⟩
  · refine ⟨h1, h2, h3, h4, .inr ⟨x, o, s, rfl, fun j hj => ?_⟩⟩
    obtain ⟨q0, q1, q2⟩ := hc j hj
    exact ⟨q0, Nat.lt_of_lt_of_le q1 hb.size, (hb.cell (p := ⟨x, o + j, none⟩) q1).trans q2⟩

set_option maxRecDepth 100000 in
theorem TextAt.belowB {w w' : World} {B : Nat} {a : Option Addr} {len cap : Nat} {t : List Int} (h : TextAt w a len cap t) (hB : w.heap.size ≤ B) (hb : Below B w w') : TextAt w' a len cap t := h.below (hb.mono hB)

set_option maxRecDepth 100000 in
theorem TextAt.nil {w : World} : TextAt w none 0 0 [] := ⟨rfl, Nat.le_refl _, by omega, by simp, .inl ⟨rfl, rfl, rfl⟩⟩

set_option maxRecDepth 100000 in
/-- The text is empty, or its address is plain. -/
theorem TextAt.at_ {w : World} {a : Option Addr} {len cap : Nat} {t : List Int} (h : TextAt w a len cap t) (h0 : 0 < len) : ∃ x o, a = some ⟨x, o, none⟩ ∧ x < w.heap.size ∧ ∀ j, j < len → w.cell? ⟨x, o + j, none⟩ = some (.int .u8 (t.getD j 0)) := by
  obtain ⟨h1, h2, h3, h4, ⟨_, h, _⟩ | ⟨x, o, s, rfl, hc⟩⟩ := h
  · omega
  · obtain ⟨rfl, hx, _⟩ := hc 0 h0
    exact ⟨x, o, rfl, hx, fun j hj => (hc j hj).2.2⟩
set_option maxRecDepth 100000 in
theorem TextAt.empty {w : World} {a : Option Addr} {len cap : Nat} {t : List Int} (h : TextAt w a len cap t) (h0 : len = 0) : t = [] := List.eq_nil_of_length_eq_zero (h.length.trans h0)
set_option maxRecDepth 100000 in
theorem TextAt.getD {w : World} {a : Option Addr} {len cap : Nat} {t : List Int} (h : TextAt w a len cap t) (j : Nat) : 0 ≤ t.getD j 0 ∧ t.getD j 0 < 256 := by
  rcases Nat.lt_or_ge j t.length with hj | hj
  · rw [show t.getD j 0 = t[j] by simp [hj]]
    exact h.small _ (List.getElem_mem _)
  · rw [show t.getD j 0 = 0 by simp [hj]]
    omega

set_option maxRecDepth 100000 in
/-- The cells, as the append's law asks for them. -/
theorem TextAt.news {w : World} {x o : Nat} {s : Option Nat} {len cap : Nat} {t : List Int} (h : TextAt w (some ⟨x, o, s⟩) len cap t) : ∀ (j : Nat) (u : Value), (t.map (Value.int .u8))[j]? = some u → w.cell? ((⟨x, o, s⟩ : Addr).add j) = some u := by
  intro j u hu
  have hj : j < t.length := by
    have := (List.getElem?_eq_some_iff.1 hu).1
    simpa using this
  obtain ⟨h1, h2, h3, h4, ⟨h, _⟩ | ⟨x', o', s', he, hc⟩⟩ := h
  · cases h
  · injection he with he
    injection he with e1 e2 e3
    subst e1 e2 e3
    obtain ⟨rfl, q1, q2⟩ := hc j (by omega)
    rw [Addr.add_mid, q2, ← hu]
    simp [hj]

set_option maxRecDepth 100000 in
theorem TextAt.of_row {w : World} {g n cap : Nat} {bs : List Int} (h : Row8 w g bs) (hn : bs.length = n) (hc : n ≤ cap) (hm : cap ≤ 9223372036854775807) (hs : ∀ x ∈ bs, 0 ≤ x ∧ x < 256) : TextAt w (some ⟨g, 0, none⟩) n cap bs := by
  obtain ⟨cs, T, hk, hcell⟩ := h
  refine ⟨hn, hc, hm, hs, .inr ⟨g, 0, none, rfl, fun j hj => ⟨rfl, hk.lt, ?_⟩⟩⟩
  rw [Nat.zero_add, hk.cell]
  exact hcell j (by omega)

set_option maxRecDepth 100000 in
/-- A part of a block's cells. -/
theorem TextAt.of_blk {w : World} {g o n cap : Nat} {cs : Array Value} {T : TypeId} {bs : List Int} (h : Blk w g cs T) (hn : bs.length = n) (hc : n ≤ cap) (hm : cap ≤ 9223372036854775807) (hs : ∀ x ∈ bs, 0 ≤ x ∧ x < 256) (hcs : ∀ j, j < n → cs[o + j]? = some (.int .u8 (bs.getD j 0))) : TextAt w (some ⟨g, o, none⟩) n cap bs := by
  refine ⟨hn, hc, hm, hs, .inr ⟨g, o, none, rfl, fun j hj => ⟨rfl, h.lt, ?_⟩⟩⟩
  rw [h.cell]
  exact hcs j hj

set_option maxRecDepth 100000 in
/-- A whole array of bytes. -/
theorem TextAt.of_ints {w : World} {g n : Nat} {T : TypeId} {bs : List Int} (h : Blk w g (bs.map (Value.int .u8)).toArray T) (hn : bs.length = n) (hm : n ≤ 9223372036854775807) (hs : ∀ x ∈ bs, 0 ≤ x ∧ x < 256) : TextAt w (some ⟨g, 0, none⟩) n n bs :=
  TextAt.of_blk h hn (Nat.le_refl _) hm hs fun j hj => by rw [Nat.zero_add]; simp [show j < bs.length by omega]

/-- where a part of a slice begins -/
def cutA (a : Option Addr) (l cap : Nat) : Option Addr := if cap = l then a else a.map (·.add l)
set_option maxRecDepth 100000 in
theorem cutA_zero (a : Option Addr) (cap : Nat) : cutA a 0 cap = a := by
  unfold cutA
  split
  · rfl
  · cases a with
    | none => rfl
    | some a => obtain ⟨x, o, s⟩ := a; cases s <;> simp [Addr.add]

set_option maxRecDepth 100000 in
theorem TextAt.cut {w : World} {a : Option Addr} {len cap : Nat} {t : List Int} (h : TextAt w a len cap t) (l hi : Nat) (hl : l ≤ hi) (hh : hi ≤ len) : TextAt w (cutA a l cap) (hi - l) (cap - l) ((t.drop l).take (hi - l)) := by
  obtain ⟨h1, h2, h3, h4, h5⟩ := h
  refine ⟨by simp; omega, by omega, by omega, fun x hx => h4 x (List.mem_of_mem_drop (List.mem_of_mem_take hx)), ?_⟩
  unfold cutA
  rcases h5 with ⟨rfl, rfl, rfl⟩ | ⟨x, o, s, rfl, hc⟩
  · left
    refine ⟨by split <;> rfl, by omega, by omega⟩
  · right
    split
    · exact ⟨x, o, s, rfl, fun j hj => by omega⟩
    · rcases Nat.eq_or_lt_of_le hl with rfl | hlt
      · rcases s with _ | s
        · exact ⟨x, o + l, none, by rw [Option.map_some, Addr.add_mid], fun j hj => by omega⟩
        · cases ha : (⟨x, o, some s⟩ : Addr).add l with
          | mk x' o' s' => exact ⟨x', o', s', by simp [ha], fun j hj => by omega⟩
      · obtain ⟨rfl, hx, _⟩ := hc l (by omega)
        refine ⟨x, o + l, none, by rw [Option.map_some, Addr.add_mid], fun j hj => ⟨rfl, hx, ?_⟩⟩
        rw [Nat.add_assoc, (hc (l + j) (by omega)).2.2]
        simp [List.getD_eq_getElem?_getD, show j < hi - l by omega]

section
variable {P : Program} {t e : TypeId}
set_option maxRecDepth 100000 in
theorem run_cut_lh (ht : P.underlying t = some (.slice e)) (hs : (P.info? e).map (·.size) = some 1) (a : Option Addr) (len cap : Nat) (l hi : Int) (w : World) (h0 : 0 ≤ l) (h1 : l ≤ hi) (h2 : hi ≤ cap) :
    (Instr.slice t (.slice a len cap) (some (.int .i64 l)) (some (.int .i64 hi)) none).run P w = .ok (.slice (cutA a l.toNat cap) (hi.toNat - l.toNat) (cap - l.toNat)) w := by
  have he : P.elem t = e := by simp [Program.elem, ht]
  rw [run_slice_lh (w := w) t a len cap (by rw [he]; exact ht) _ _ l hi h0 h1 h2]
  obtain ⟨i, hi1, hi2⟩ := Option.map_eq_some_iff.1 hs
  simp [sizeOf, typeInfo, he, hi1, hi2, sliced, cutA]
set_option maxRecDepth 100000 in
theorem run_cut_h (ht : P.underlying t = some (.slice e)) (hs : (P.info? e).map (·.size) = some 1) (a : Option Addr) (len cap : Nat) (hi : Int) (w : World) (h0 : 0 ≤ hi) (h2 : hi ≤ cap) :
    (Instr.slice t (.slice a len cap) none (some (.int .i64 hi)) none).run P w = .ok (.slice a hi.toNat cap) w := by
  have he : P.elem t = e := by simp [Program.elem, ht]
  rw [run_slice_h (w := w) t a len cap (by rw [he]; exact ht) _ hi h0 h2]
  obtain ⟨i, hi1, hi2⟩ := Option.map_eq_some_iff.1 hs
  have := cutA_zero a cap
  unfold cutA at this
  simp [sizeOf, typeInfo, he, hi1, hi2, sliced, this]
set_option maxRecDepth 100000 in
theorem run_cut_l (ht : P.underlying t = some (.slice e)) (hs : (P.info? e).map (·.size) = some 1) (a : Option Addr) (len cap : Nat) (l : Int) (w : World) (h0 : 0 ≤ l) (h1 : l ≤ len) :
    (Instr.slice t (.slice a len cap) (some (.int .i64 l)) none none).run P w = .ok (.slice (cutA a l.toNat cap) (len - l.toNat) (cap - l.toNat)) w := by
  have he : P.elem t = e := by simp [Program.elem, ht]
  rw [run_slice_l (w := w) t a len cap (by rw [he]; exact ht) _ l h0 h1]
  obtain ⟨i, hi1, hi2⟩ := Option.map_eq_some_iff.1 hs
  simp [sizeOf, typeInfo, he, hi1, hi2, sliced, cutA]

set_option maxRecDepth 100000 in
/-- The string of a text. -/
theorem TextAt.string {w : World} {a : Option Addr} {len cap : Nat} {bs : List Int} {src dst : TypeId} (h : TextAt w a len cap bs) (hs : P.underlying src = some (.slice e)) (he : P.underlying e = some (.int .u8)) (hd : P.underlying dst = some .string) :
    (convert src dst (.slice a len cap)).run P w = .ok (.string (strOfNums bs)) w := by
  obtain ⟨h1, h2, h3, h4, ⟨rfl, rfl, rfl⟩ | ⟨x, o, s, rfl, hc⟩⟩ := h
  · obtain rfl := List.eq_nil_of_length_eq_zero h1
    exact run_convert_bytes_nil w src e hs he 0 0 dst hd
  · rcases Nat.eq_zero_or_pos len with rfl | h0
    · obtain rfl := List.eq_nil_of_length_eq_zero h1
      simp [convert, run_underlying hs, run_underlying hd, run_underlying he]
      rfl
    · obtain ⟨rfl, _⟩ := hc 0 h0
      exact run_convert_bytes_arg w src e hs he x o len cap bs h1 (fun i hi => (hc i hi).2.2) dst hd

end

set_option maxRecDepth 100000 in
theorem weights_cons {H : Type} {P : Program} {t : TypeId} {ts : List TypeId} {d : DataW H} {ds : List (DataW H)} (h : (DataW.weightsEach P (t :: ts) (d :: ds)).all (· ≤ reachBytes) = true) : (d.weights P t).all (· ≤ reachBytes) = true ∧ (DataW.weightsEach P ts ds).all (· ≤ reachBytes) = true := by
  simpa [DataW.weightsEach] using h

section
variable {P : Program} {t e : TypeId}
set_option maxRecDepth 100000 in
/-- A text that comes in. -/
theorem open_text {H : Type} {enc : TypeId × Value → H} {W : World} {base : Nat} {v : Value} {d : DataW H} {p : List MemPlace} (hu : P.underlying t = some (.slice e)) (he : P.underlying e = some (.int .u8))
    (hc : P.cellsOf e = 1) (hv : Value.okWide P W .any base t v) (h : DataW.Trod enc P W 0 (fun _ => true) true t v d p) :
    ∃ (a : Option Addr) (len cap : Nat) (bs : List Int), v = .slice a len cap ∧ TextAt W a len cap bs ∧ (P.bytesOf e = 1 → (d.weights P t).all (· ≤ reachBytes) = true → cap ≤ 140737488351232) := by
  obtain ⟨a, len, cap, rfl⟩ := okWide_slice hu hv
  obtain ⟨fuel, hf⟩ := h
  rcases open_ints hu he hc hf with ⟨hcs, _⟩ | ⟨x, l, c, zs, hcs, _, hl, hm, hz, hd, hcell, hwz⟩
  · simp [Value.cells] at hcs
    obtain ⟨rfl, rfl, rfl⟩ := hcs
    exact ⟨none, 0, 0, [], rfl, TextAt.nil, fun _ _ => by omega⟩
  · simp [Value.cells] at hcs
    obtain ⟨rfl, rfl, rfl⟩ := hcs
    obtain ⟨b, off, s⟩ := x
    have hz' : zs.length = cap := by simpa using hz
    refine ⟨_, len, cap, zs.take len, rfl, ⟨by simp; omega, hl, by unfold maxLen at hm; omega, fun z hz => wf_u8 (hwz z (List.mem_of_mem_take hz)), .inr ⟨b, off, s, rfl, fun i hi => ?_⟩⟩, fun hb hw => ?_⟩
    · have h0 := hcell i (by omega)
      have hs : s = none := by
        have h00 := hcell 0 (by omega)
        have := World.cell?_spot h00
        simpa [Addr.add] using this
      subst hs
      rw [Addr.add_mid] at h0
      refine ⟨rfl, World.block_lt_of_cell? W _ h0, ?_⟩
      rw [h0]
      simp [hi]
    · injection hd with hd _
      subst hd
      simp [DataW.weights, hu, lits, hb, reachBytes, hz'] at hw
      have := of_decide_eq_true hw.1
      omega
end

/-- Texts, in memory that was there. -/
structure TextsAt (w : World) (a : Option Addr) (len cap : Nat) (ts : List (List Int)) : Prop where
  length : ts.length = len
  le : len ≤ cap
  max : cap ≤ 9223372036854775807
  mem : len = 0 ∨ ∃ x o, a = some ⟨x, o, none⟩ ∧ x < w.heap.size ∧ ∀ j, j < len → ∃ a' l' c', w.cell? ⟨x, o + j, none⟩ = some (.slice a' l' c') ∧ TextAt w a' l' c' (ts.getD j [])

set_option maxRecDepth 100000 in
theorem TextsAt.below {w w' : World} {a : Option Addr} {len cap : Nat} {ts : List (List Int)} (h : TextsAt w a len cap ts) (hb : Below w.heap.size w w') : TextsAt w' a len cap ts := by
  obtain ⟨h1, h2, h3, h | ⟨x, o, rfl, hx, hc⟩⟩ := h
  · exact ⟨h1, h2, h3, .inl h⟩
  · refine ⟨h1, h2, h3, .inr ⟨x, o, rfl, Nat.lt_of_lt_of_le hx hb.size, fun j hj => ?_⟩⟩
    obtain ⟨a', l', c', q1, q2⟩ := hc j hj
    exact ⟨a', l', c', (hb.cell (p := ⟨x, o + j, none⟩) hx).trans q1, q2.below hb⟩

set_option maxRecDepth 100000 in
theorem TextsAt.at_ {w : World} {a : Option Addr} {len cap : Nat} {ts : List (List Int)} (h : TextsAt w a len cap ts) (j : Nat) (hj : j < len) : ∃ x o a' l' c', a = some ⟨x, o, none⟩ ∧ x < w.heap.size ∧ w.cell? ⟨x, o + j, none⟩ = some (.slice a' l' c') ∧ TextAt w a' l' c' (ts.getD j []) := by
  obtain ⟨h1, h2, h3, h | ⟨x, o, rfl, hx, hc⟩⟩ := h
  · omega
  · obtain ⟨a', l', c', q1, q2⟩ := hc j hj
    exact ⟨x, o, a', l', c', rfl, hx, q1, q2⟩

set_option maxRecDepth 100000 in
theorem TextsAt.take {w : World} {a : Option Addr} {len cap : Nat} {ts : List (List Int)} (h : TextsAt w a len cap ts) (n : Nat) (hn : n ≤ len) : TextsAt w a n cap (ts.take n) := by
  obtain ⟨h1, h2, h3, h4⟩ := h
  refine ⟨by simp; omega, by omega, h3, ?_⟩
  rcases h4 with h | ⟨x, o, rfl, hx, hc⟩
  · left; omega
  · right
    refine ⟨x, o, rfl, hx, fun j hj => ?_⟩
    obtain ⟨a', l', c', q1, q2⟩ := hc j (by omega)
    refine ⟨a', l', c', q1, ?_⟩
    rw [show (ts.take n).getD j [] = ts.getD j [] by simp [List.getD_eq_getElem?_getD, hj]]
    exact q2

set_option maxRecDepth 100000 in
theorem TextsAt.small {w : World} {a : Option Addr} {len cap : Nat} {ts : List (List Int)} (h : TextsAt w a len cap ts) : ∀ t ∈ ts, ∀ x ∈ t, 0 ≤ x ∧ x < 256 := by
  intro t ht x hx
  obtain ⟨j, hj, rfl⟩ := List.getElem_of_mem ht
  obtain ⟨_, _, a', l', c', _, _, _, q⟩ := h.at_ j (by rw [← h.length]; exact hj)
  rw [show ts.getD j [] = ts[j] by simp [hj]] at q
  exact q.small x hx

set_option maxRecDepth 100000 in
/-- Texts that come in. -/
theorem open_texts {H : Type} {enc : TypeId × Value → H} {P : Program} {W : World} {base : Nat} {t e q : TypeId} {v : Value} {d : DataW H} {p : List MemPlace} (hu : P.underlying t = some (.slice e)) (he : P.underlying e = some (.slice q)) (hq : P.underlying q = some (.int .u8))
    (ce : P.cellsOf e = 1) (cq : P.cellsOf q = 1) (hv : Value.okWide P W .any base t v) (h : DataW.Trod enc P W 0 (fun _ => true) true t v d p) :
    ∃ (a : Option Addr) (len cap : Nat) (ts : List (List Int)), v = .slice a len cap ∧ TextsAt W a len cap ts ∧ (P.bytesOf e = 24 → P.bytesOf q = 1 → (d.weights P t).all (· ≤ reachBytes) = true → cap ≤ 140737488351232 ∧ ∀ t ∈ ts, t.length ≤ 140737488351232) := by
  obtain ⟨a, len, cap, rfl⟩ := okWide_slice hu hv
  obtain ⟨fuel, hf⟩ := h
  rcases Go.Deep.open_int_rows hu he hq ce cq hf with ⟨hcs, _⟩ | ⟨x, l, c, A, L, C, Z, hcs, _, hl, hm, hd, hall⟩
  · simp [Value.cells] at hcs
    obtain ⟨rfl, rfl, rfl⟩ := hcs
    exact ⟨none, 0, 0, [], rfl, ⟨rfl, Nat.le_refl _, by omega, .inl rfl⟩, fun _ _ _ => ⟨by omega, by simp⟩⟩
  · simp [Value.cells] at hcs
    obtain ⟨rfl, rfl, rfl⟩ := hcs
    obtain ⟨b, off, s⟩ := x
    refine ⟨_, len, cap, (List.range len).map fun r => (Z r).take (L r), rfl, ⟨by simp, hl, by unfold maxLen at hm; omega, ?_⟩, fun hb1 hb2 hw => ?_⟩
    rotate_left
    · injection hd with hd _
      subst hd
      have hw0 := hw
      simp only [DataW.weights, hu, List.length_map, List.length_range, List.all_cons, List.all_append, Bool.and_eq_true, decide_eq_true_eq, hb1] at hw0
      have h24 := hw0.1
      unfold reachBytes at h24
      refine ⟨by omega, fun tt htt => ?_⟩
      simp only [List.mem_map, List.mem_range] at htt
      obtain ⟨r, hr, rfl⟩ := htt
      have hall1 := hw0.2.1
      obtain ⟨_, h2, _, h4, _, h6, _⟩ := hall r (by omega)
      have key : ∀ (l : List (DataW H)) (dd : DataW H), dd ∈ l → (DataW.weightsAll P e l).all (· ≤ reachBytes) = true → (dd.weights P e).all (· ≤ reachBytes) = true := by
        intro l
        induction l with
        | nil => intro dd h; cases h
        | cons x l ih =>
          intro dd hm hall
          simp only [DataW.weightsAll, List.all_append, Bool.and_eq_true] at hall
          rcases List.mem_cons.1 hm with rfl | hm
          · exact hall.1
          · exact ih dd hm hall.2
      have hk := key _ (Go.Deep.intRow .u8 (A r) (L r) (Z r)) (List.mem_map.2 ⟨r, List.mem_range.2 hr, rfl⟩) hall1
      rw [List.length_take]
      cases hA : A r with
      | none => have := h6 hA; omega
      | some a' =>
        rw [hA] at hk
        simp [Go.Deep.intRow, DataW.weights, he, lits, hb2, reachBytes, h4] at hk
        have := of_decide_eq_true hk.1
        omega
    rcases Nat.eq_zero_or_pos len with h0 | h0
    · exact .inl h0
    right
    have hs : s = none := by
      have := World.cell?_spot (hall 0 (by omega)).1
      simpa [Addr.add] using this
    subst hs
    have hx : b < W.heap.size := by
      have := (hall 0 (by omega)).1
      rw [Addr.add_mid] at this
      exact World.block_lt_of_cell? W _ this
    refine ⟨b, off, rfl, hx, fun r hr => ?_⟩
    obtain ⟨h1, h2, h3, h4, h5, h6, h7⟩ := hall r (by omega)
    rw [Addr.add_mid] at h1
    refine ⟨A r, L r, C r, h1, ?_⟩
    rw [show ((List.range len).map fun r => (Z r).take (L r)).getD r [] = (Z r).take (L r) by simp [hr]]
    refine ⟨by simp; omega, h2, by unfold maxLen at h3; omega, fun x hx => wf_u8 (h5 x (List.mem_of_mem_take hx)), ?_⟩
    cases hA : A r with
    | none => left; have := h6 hA; exact ⟨rfl, by omega, this⟩
    | some a' =>
      right
      obtain ⟨x, o, s⟩ := a'
      refine ⟨x, o, s, rfl, fun j hj => ?_⟩
      have h8 := (h7 _ hA).2 j (by omega)
      have hs : s = none := by
        have := World.cell?_spot ((h7 _ hA).2 0 (by omega))
        simpa [Addr.add] using this
      subst hs
      rw [Addr.add_mid] at h8
      refine ⟨rfl, World.block_lt_of_cell? W _ h8, ?_⟩
      rw [h8]
      simp [List.getD_eq_getElem?_getD, hj]
end Go.Proofs.Ytmpgnpkodapidaa

namespace Go.Proofs.Ytmpgnpkodapidaa
open Go.RowKit

/-- A slice of the call's own holds these bytes. -/
structure OwnB (w : World) (base : Nat) (e : TypeId) (v : Value) (bs : List Int) : Prop where
  row : w.ownsRow base e 1 v bs.length (bs.map (Value.int .u8))
  small : ∀ x ∈ bs, 0 ≤ x ∧ x < 256

set_option maxRecDepth 100000 in
theorem OwnB.nil (w : World) (base : Nat) (e : TypeId) : OwnB w base e (.slice none 0 0) [] := ⟨World.ownsRow_nil w base e 1, by simp⟩
set_option maxRecDepth 100000 in
theorem OwnB.below {w w' : World} {base : Nat} {e : TypeId} {v : Value} {bs : List Int} (h : OwnB w base e v bs) (hb : Below w.heap.size w w') : OwnB w' base e v bs := ⟨owns_below h.row hb, h.small⟩
set_option maxRecDepth 100000 in
theorem OwnB.of_blk {w : World} {base g n : Nat} {e : TypeId} {bs : List Int} (h : Blk w g (bs.map (Value.int .u8)).toArray e) (hg : base ≤ g) (hn : bs.length = n) (hm : n ≤ 9223372036854775807) (hs : ∀ x ∈ bs, 0 ≤ x ∧ x < 256) : OwnB w base e (.slice (some ⟨g, 0, none⟩) n n) bs := by
  subst hn
  exact ⟨⟨by simp, .inr ⟨g, _, _, rfl, hg, h, Nat.le_refl _, by unfold maxLen; omega, by simp, by simp; exact List.take_of_length_le (by simp)⟩⟩, hs⟩
set_option maxRecDepth 100000 in
theorem OwnB.lt {w : World} {base : Nat} {e : TypeId} {v : Value} {bs : List Int} (h : OwnB w base e v bs) : ∀ k, v.ownBlock = some k → base ≤ k ∧ k < w.heap.size := h.row.lt
set_option maxRecDepth 100000 in
theorem OwnB.re {w : World} {base base' : Nat} {e : TypeId} {v : Value} {bs : List Int} (h : OwnB w base e v bs) (hb : base' ≤ base) : OwnB w base' e v bs := by
  obtain ⟨⟨h1, h2⟩, h3⟩ := h
  refine ⟨⟨h1, h2.imp id ?_⟩, h3⟩
  rintro ⟨g, cap, cur, rfl, hg, hh⟩
  exact ⟨g, cap, cur, rfl, Nat.le_trans hb hg, hh⟩

set_option maxRecDepth 100000 in
/-- It is a text. -/
theorem OwnB.text {w : World} {base : Nat} {e : TypeId} {v : Value} {bs : List Int} (h : OwnB w base e v bs) : ∃ a cap, v = .slice a bs.length cap ∧ TextAt w a bs.length cap bs ∧ (a = none ∨ ∃ g, a = some ⟨g, 0, none⟩ ∧ base ≤ g) := by
  obtain ⟨⟨h1, ⟨rfl, h2⟩ | ⟨g, cap, cur, rfl, hg, hh, hle, hmx, hsz, htk⟩⟩, h3⟩ := h
  · obtain rfl := List.eq_nil_of_length_eq_zero h2
    exact ⟨none, 0, rfl, TextAt.nil, .inl rfl⟩
  · refine ⟨some ⟨g, 0, none⟩, cap, rfl, TextAt.of_blk (cs := cur) (T := e) hh rfl hle (by unfold maxLen at hmx; omega) h3 fun j hj => ?_, .inr ⟨g, rfl, hg⟩⟩
    have h1 : (List.map (Value.int .u8) bs)[j]? = some (.int .u8 (bs.getD j 0)) := by simp [hj]
    rw [← htk, List.getElem?_take, if_pos (by omega)] at h1
    simpa using h1
set_option maxRecDepth 100000 in
theorem OwnB.row8 {w : World} {base : Nat} {e : TypeId} {v : Value} {bs : List Int} (h : OwnB w base e v bs) (h0 : bs ≠ []) : ∃ g cap, v = .slice (some ⟨g, 0, none⟩) bs.length cap ∧ base ≤ g ∧ bs.length ≤ cap ∧ cap ≤ 9223372036854775807 ∧ Row8 w g bs := by
  obtain ⟨⟨h1, ⟨rfl, h2⟩ | ⟨g, cap, cur, rfl, hg, hh, hle, hmx, hsz, htk⟩⟩, h3⟩ := h
  · exact absurd (List.eq_nil_of_length_eq_zero h2) h0
  · refine ⟨g, cap, rfl, hg, hle, by unfold maxLen at hmx; omega, cur, e, hh, fun j hj => ?_⟩
    have h1 : (List.map (Value.int .u8) bs)[j]? = some (.int .u8 (bs.getD j 0)) := by simp [hj]
    rw [← htk, List.getElem?_take, if_pos (by omega)] at h1
    simpa using h1

section
variable {P : Program} {w : World} {base : Nat} {t e : TypeId} {i : TypeInfo} {v : Value} {bs : List Int}
set_option maxRecDepth 100000 in
theorem run_append_text (ty : TypeId) (ht : P.underlying t = some (.slice e)) (hi : P.info? e = some i) (hz : i.zero = some (.int .u8 0)) (hsize : i.size = 1) (hby : i.bytes = 1) (hown : OwnB w base e v bs)
    {a : Option Addr} {len cap : Nat} {xs : List Int} (hT : TextAt w a len cap xs) (hb : bs.length + len ≤ 140737488355328) (hbase : base ≤ w.heap.size) :
    ∃ v' w', (Builtin.append_ #[t, t] ty #[v, .slice a len cap]).run P w = .ok v' w' ∧ OwnB w' base e v' (bs ++ xs) ∧ w.grownBy w' v.ownBlock ∧ Below base w w' := by
  have hl := hT.length
  have hsm : ∀ x ∈ bs ++ xs, 0 ≤ x ∧ x < 256 := fun x hx => by
    rw [List.mem_append] at hx
    exact hx.elim (hown.small x) (hT.small x)
  have hbel : ∀ {w' : World}, w.grownBy w' v.ownBlock → Below base w w' := fun hg => ⟨hg.os, hg.tape, hg.output, hg.size, fun k hk => hg.block k (by omega) (fun e => by have := (hown.lt k e.symm).1; omega)⟩
  rcases hT.mem with ⟨rfl, rfl, rfl⟩ | ⟨x, o, s, rfl, hc⟩
  · have hx := hT.empty rfl
    subst hx
    have hg : w.grownBy w v.ownBlock := ⟨rfl, rfl, rfl, Nat.le_refl _, fun _ _ _ => rfl⟩
    exact ⟨v, w, run_append_owned_none w base t ty e i 1 ht hi v _ _ hown.row, by simpa using hown, hg, hbel hg⟩
  · obtain ⟨v', w', h1, h2, h3, _⟩ := run_append_own w base t ty e i (.int .u8 0) 1 1 ht hi hz hsize hby rfl (by decide) v _ _ hown.row ⟨x, o, s⟩ len cap (xs.map (Value.int .u8)) (by simp [hl]) hT.news
      (fun u hu => by simp only [List.mem_map] at hu; obtain ⟨y, _, rfl⟩ := hu; rfl) (by unfold maxLen; omega) (by omega) hbase
    exact ⟨v', w', h1, ⟨by rw [List.length_append, hl, List.map_append]; exact h2, hsm⟩, h3, hbel h3⟩

set_option maxRecDepth 100000 in
theorem wpList_append_text {ops : Array Oper} {rest : List Oper} {o : Oper} {A : Act} {Q : Exit → Act → World → Prop} (hgd : o.guard = none) (s x : Operand) (ho : o.op = .call { callee := .builtin .append, args := #[s, x], argTypes := #[t, t] })
    (ht : P.underlying t = some (.slice e)) (hi : P.info? e = some i) (hz : i.zero = some (.int .u8 0)) (hsize : i.size = 1) (hby : i.bytes = 1) (hs : A.eval s = v) (hown : OwnB w base e v bs)
    {a : Option Addr} {len cap : Nat} {xs : List Int} (hx : A.eval x = .slice a len cap) (hT : TextAt w a len cap xs) (hb : bs.length + len ≤ 140737488355328) (hbase : base ≤ w.heap.size)
    (h : ∀ v' w', OwnB w' base e v' (bs ++ xs) → w.grownBy w' v.ownBlock → Below base w w' → wpList P ops Q rest (A.put o.dst v') w') : wpList P ops Q (o :: rest) A w :=
  wpList_plain hgd fun K hK => by
    obtain ⟨v', w', hr, h2, h3, h4⟩ := run_append_text o.type ht hi hz hsize hby hown hT hb hbase
    unfold Oper.wp execOp
    simp only [ho, resolve, invoke, builtin, Sem.run_bind, Sem.run_pure, Result.andThen_ok, List.map_toArray, List.map_cons, List.map_nil, hs, hx, hr, Oper.upon_value]
    exact hK _ _ (h v' w' h2 h3 h4)
end

set_option maxRecDepth 100000 in
theorem TextAt.grown {w w' : World} {a : Option Addr} {len cap : Nat} {t : List Int} {row : Option Nat} (h : TextAt w a len cap t) (hg : w.grownBy w' row) (hr : ∀ k, row = some k → w.heap.size ≤ k ∨ ∀ p : Addr, a = some p → p.block ≠ k) : TextAt w' a len cap t := by
  obtain ⟨h1, h2, h3, h4, h | ⟨x, o, s, rfl, hc⟩⟩ := h
  · exact ⟨h1, h2, h3, h4, .inl h⟩
  · refine ⟨h1, h2, h3, h4, .inr ⟨x, o, s, rfl, fun j hj => ?_⟩⟩
    obtain ⟨q0, q1, q2⟩ := hc j hj
    refine ⟨q0, Nat.lt_of_lt_of_le q1 hg.size, hg.cell q2 fun he => ?_⟩
    rcases hr x he.symm with h | h
    · omega
    · exact h _ rfl rfl

set_option maxRecDepth 100000 in
/-- What lies below the call's own blocks stays. -/
theorem TextAt.low {w w' : World} {B : Nat} {a : Option Addr} {len cap : Nat} {t : List Int} (h : TextAt w a len cap t) (hb : Below B w w') (ha : ∀ p : Addr, a = some p → p.block < B) : TextAt w' a len cap t := by
  obtain ⟨h1, h2, h3, h4, h | ⟨x, o, s, rfl, hc⟩⟩ := h
  · exact ⟨h1, h2, h3, h4, .inl h⟩
  · refine ⟨h1, h2, h3, h4, .inr ⟨x, o, s, rfl, fun j hj => ?_⟩⟩
    obtain ⟨q0, q1, q2⟩ := hc j hj
    exact ⟨q0, Nat.lt_of_lt_of_le q1 hb.size, (hb.cell (p := ⟨x, o + j, none⟩) (show x < B from ha ⟨x, o, s⟩ rfl)).trans q2⟩

set_option maxRecDepth 100000 in
/-- A text in a block of its own. -/
theorem OwnB.text2 {w : World} {base : Nat} {e : TypeId} {v : Value} {bs : List Int} (h : OwnB w base e v bs) : ∃ a cap, v = .slice a bs.length cap ∧ TextAt w a bs.length cap bs ∧ ∀ p : Addr, a = some p → base ≤ p.block ∧ ∃ cs, w.heap[p.block]? = some (.cells cs e (0, 0)) := by
  obtain ⟨a, cap, rfl, hT, ha⟩ := h.text
  refine ⟨a, cap, rfl, hT, fun p hp => ?_⟩
  rcases ha with rfl | ⟨g, rfl, hg⟩
  · cases hp
  · cases hp
    obtain ⟨⟨_, ⟨h, _⟩ | ⟨g', cap', cur, he, _, hh, _⟩⟩, _⟩ := h
    · cases h
    · injection he with he
      injection he with he
      injection he with he
      subst he
      exact ⟨hg, cur, hh⟩

/-- A slice of the call's own holds texts, whose bytes lie in other blocks. -/
structure OwnT (w : World) (base : Nat) (e T : TypeId) (v : Value) (ts : List (List Int)) : Prop where
  row : ∃ xs, w.ownsRow base e 1 v ts.length xs ∧ ∀ j, j < ts.length → ∃ a l c, xs[j]? = some (.slice a l c) ∧ TextAt w a l c (ts.getD j []) ∧ ∀ p : Addr, a = some p → base ≤ p.block ∧ ∃ cs, w.heap[p.block]? = some (.cells cs T (0, 0))

set_option maxRecDepth 100000 in
theorem OwnT.nil (w : World) (base : Nat) (e T : TypeId) : OwnT w base e T (.slice none 0 0) [] := ⟨[], World.ownsRow_nil w base e 1, by simp⟩
set_option maxRecDepth 100000 in
theorem OwnT.below {w w' : World} {base : Nat} {e T : TypeId} {v : Value} {ts : List (List Int)} (h : OwnT w base e T v ts) (hb : Below w.heap.size w w') : OwnT w' base e T v ts := by
  obtain ⟨xs, h1, h2⟩ := h
  refine ⟨xs, owns_below h1 hb, fun j hj => ?_⟩
  obtain ⟨a, l, c, q1, q2, q3⟩ := h2 j hj
  refine ⟨a, l, c, q1, q2.below hb, fun p hp => ?_⟩
  obtain ⟨q4, cs, q5⟩ := q3 p hp
  exact ⟨q4, cs, by rw [hb.block _ (Array.getElem?_eq_some_iff.1 q5).1]; exact q5⟩
set_option maxRecDepth 100000 in
theorem OwnT.texts {w : World} {base : Nat} {e T : TypeId} {v : Value} {ts : List (List Int)} (h : OwnT w base e T v ts) : ∃ a cap, v = .slice a ts.length cap ∧ TextsAt w a ts.length cap ts := by
  obtain ⟨xs, ⟨h1, ⟨rfl, h2⟩ | ⟨g, cap, cur, rfl, hg, hh, hle, hmx, hsz, htk⟩⟩, h3⟩ := h
  · refine ⟨none, 0, by rw [h2], rfl, by omega, by omega, .inl h2⟩
  · refine ⟨_, cap, rfl, rfl, hle, by unfold maxLen at hmx; omega, .inr ⟨g, 0, rfl, (Array.getElem?_eq_some_iff.1 hh).1, fun j hj => ?_⟩⟩
    obtain ⟨a, l, c, q1, q2, _⟩ := h3 j hj
    refine ⟨a, l, c, ?_, q2⟩
    rw [Nat.zero_add, (show Blk w g cur e from hh).cell]
    rw [← htk, List.getElem?_take, if_pos (by omega)] at q1
    simpa using q1

set_option maxRecDepth 100000 in
theorem run_append_one {P : Program} {w : World} {base : Nat} {t e T : TypeId} {i : TypeInfo} {v : Value} {ts : List (List Int)} (ty : TypeId) (ht : P.underlying t = some (.slice e)) (hi : P.info? e = some i) (hz : i.zero = some (.slice none 0 0)) (hsize : i.size = 1) (hby : i.bytes = 24) (hne : T ≠ e) (hown : OwnT w base e T v ts)
    {b : Nat} {a : Option Addr} {len cap : Nat} {x : List Int} (hk : Blk w b #[.slice a len cap] e) (hT : TextAt w a len cap x) (hp : ∀ p : Addr, a = some p → base ≤ p.block ∧ ∃ cs, w.heap[p.block]? = some (.cells cs T (0, 0))) (hb : ts.length ≤ 5000000000000) (hbase : base ≤ w.heap.size) :
    ∃ v' w', (Builtin.append_ #[t, t] ty #[v, .slice (some ⟨b, 0, none⟩) 1 1]).run P w = .ok v' w' ∧ OwnT w' base e T v' (ts ++ [x]) ∧ w.grownBy w' v.ownBlock ∧ Below base w w' := by
  obtain ⟨xs, h1, h2⟩ := hown
  obtain ⟨v', w', r1, r2, r3, _⟩ := run_append_own w base t ty e i (.slice none 0 0) 1 24 ht hi hz hsize hby rfl (by decide) v _ _ h1 ⟨b, 0, none⟩ 1 1 [.slice a len cap] rfl
    (fun j u hj => by
      rw [Addr.add_mid, Nat.zero_add, hk.cell]
      simpa using hj) (fun u hu => by simp at hu; subst hu; rfl) (by unfold maxLen; omega) (by omega) hbase
  have hbel : Below base w w' := ⟨r3.os, r3.tape, r3.output, r3.size, fun k hk => r3.block k (by omega) (fun e => by have := (h1.lt k e.symm).1; omega)⟩
  have hxl : xs.length = ts.length := by have := h1.1; omega
  -- a text's block is none of the row's
  have hother : ∀ p : Addr, (∃ cs, w.heap[p.block]? = some (.cells cs T (0, 0))) → some p.block ≠ v.ownBlock := by
    rintro p ⟨cs, hcs⟩ he
    rcases h1.2 with ⟨rfl, _⟩ | ⟨g, cap', cur, rfl, _, hh, _⟩
    · cases he
    · simp only [Value.ownBlock, Option.some.injEq] at he
      rw [he, hh] at hcs
      injection hcs with hcs
      injection hcs with _ e2 _
      exact hne e2.symm
  have hkeep : ∀ {a : Option Addr} {l c : Nat} {y : List Int}, TextAt w a l c y → (∀ p : Addr, a = some p → base ≤ p.block ∧ ∃ cs, w.heap[p.block]? = some (.cells cs T (0, 0))) → TextAt w' a l c y ∧ ∀ p : Addr, a = some p → base ≤ p.block ∧ ∃ cs, w'.heap[p.block]? = some (.cells cs T (0, 0)) := by
    intro a l c y hy hpp
    refine ⟨hy.grown r3 fun k hk => ?_, fun p hpa => ?_⟩
    · right
      intro p hpa he
      exact hother p (hpp p hpa).2 (by rw [he]; exact hk.symm)
    · obtain ⟨q1, cs, q2⟩ := hpp p hpa
      exact ⟨q1, cs, by rw [r3.block _ (Array.getElem?_eq_some_iff.1 q2).1 (hother p ⟨cs, q2⟩)]; exact q2⟩
  refine ⟨v', w', r1, ⟨xs ++ [.slice a len cap], by rw [List.length_append]; exact r2, fun j hj => ?_⟩, r3, hbel⟩
  simp only [List.length_append, List.length_cons, List.length_nil] at hj
  rcases Nat.lt_or_ge j ts.length with hlt | hge
  · obtain ⟨a', l', c', q1, q2, q3⟩ := h2 j hlt
    obtain ⟨k1, k2⟩ := hkeep q2 q3
    refine ⟨a', l', c', by rw [List.getElem?_append_left (by omega)]; exact q1, ?_, k2⟩
    rw [show (ts ++ [x]).getD j [] = ts.getD j [] by simp [List.getD_eq_getElem?_getD, List.getElem?_append_left hlt]]
    exact k1
  · obtain rfl : j = ts.length := by omega
    obtain ⟨k1, k2⟩ := hkeep hT hp
    refine ⟨a, len, cap, by rw [← hxl]; simp, ?_, k2⟩
    rw [show (ts ++ [x]).getD ts.length [] = x by simp [List.getD_eq_getElem?_getD]]
    exact k1

set_option maxRecDepth 100000 in
theorem wpList_append_one {P : Program} {w : World} {base : Nat} {t e T : TypeId} {i : TypeInfo} {v : Value} {ts : List (List Int)} {ops : Array Oper} {rest : List Oper} {o : Oper} {A : Act} {Q : Exit → Act → World → Prop} (hgd : o.guard = none) (s x : Operand) (ho : o.op = .call { callee := .builtin .append, args := #[s, x], argTypes := #[t, t] })
    (ht : P.underlying t = some (.slice e)) (hi : P.info? e = some i) (hz : i.zero = some (.slice none 0 0)) (hsize : i.size = 1) (hby : i.bytes = 24) (hne : T ≠ e) (hs : A.eval s = v) (hown : OwnT w base e T v ts)
    {b : Nat} {a : Option Addr} {len cap : Nat} {y : List Int} (hx : A.eval x = .slice (some ⟨b, 0, none⟩) 1 1) (hk : Blk w b #[.slice a len cap] e) (hT : TextAt w a len cap y) (hp : ∀ p : Addr, a = some p → base ≤ p.block ∧ ∃ cs, w.heap[p.block]? = some (.cells cs T (0, 0))) (hb : ts.length ≤ 5000000000000) (hbase : base ≤ w.heap.size)
    (h : ∀ v' w', OwnT w' base e T v' (ts ++ [y]) → w.grownBy w' v.ownBlock → Below base w w' → wpList P ops Q rest (A.put o.dst v') w') : wpList P ops Q (o :: rest) A w :=
  wpList_plain hgd fun K hK => by
    obtain ⟨v', w', hr, h2, h3, h4⟩ := run_append_one o.type ht hi hz hsize hby hne hown hk hT hp hb hbase
    unfold Oper.wp execOp
    simp only [ho, resolve, invoke, builtin, Sem.run_bind, Sem.run_pure, Result.andThen_ok, List.map_toArray, List.map_cons, List.map_nil, hs, hx, hr, Oper.upon_value]
    exact hK _ _ (h v' w' h2 h3 h4)
end Go.Proofs.Ytmpgnpkodapidaa

namespace Go.Proofs.Ytmpgnpkodapidaa
open Go.RowKit

def sumLen (ts : List (List Int)) : Nat := (ts.map List.length).sum
set_option maxRecDepth 100000 in
theorem sumLen_take (ts : List (List Int)) (k : Nat) (h : k < ts.length) : sumLen (ts.take (k + 1)) = sumLen (ts.take k) + (ts.getD k []).length := by
  unfold sumLen
  rw [List.take_succ_eq_append_getElem h, List.map_append, List.sum_append, show ts.getD k [] = ts[k] by simp [h]]
  simp
set_option maxRecDepth 100000 in
theorem sumLen_le (ts : List (List Int)) (k : Nat) : sumLen (ts.take k) ≤ sumLen ts := by
  have h : ts = ts.take k ++ ts.drop k := (List.take_append_drop k ts).symm
  have : sumLen ts = sumLen (ts.take k) + sumLen (ts.drop k) := by
    unfold sumLen
    rw [← List.sum_append, ← List.map_append, List.take_append_drop]
  omega
set_option maxRecDepth 100000 in
theorem flatten_length (ts : List (List Int)) : ts.flatten.length = sumLen ts := by
  unfold sumLen
  rw [List.length_flatten]
set_option maxRecDepth 100000 in
theorem flatten_take (ts : List (List Int)) (k : Nat) (h : k < ts.length) : (ts.take (k + 1)).flatten = (ts.take k).flatten ++ ts.getD k [] := by
  rw [List.take_succ_eq_append_getElem h, List.flatten_append, show ts.getD k [] = ts[k] by simp [h]]
  simp
set_option maxRecDepth 100000 in
theorem flatten_small (ts : List (List Int)) (h : ∀ t ∈ ts, ∀ x ∈ t, 0 ≤ x ∧ x < 256) : ∀ x ∈ ts.flatten, 0 ≤ x ∧ x < 256 := by
  intro x hx
  rw [List.mem_flatten] at hx
  obtain ⟨t, ht, hx⟩ := hx
  exact h t ht x hx

set_option maxRecDepth 100000 in
theorem sumLen_bound (ts : List (List Int)) (m : Nat) (h : ∀ t ∈ ts, t.length ≤ m) : sumLen ts ≤ ts.length * m := by
  unfold sumLen
  induction ts with
  | nil => simp
  | cons t ts ih =>
    have h1 := ih (fun t h' => h t (by simp [h']))
    have h2 := h t (by simp)
    simp only [List.map_cons, List.sum_cons, List.length_cons, Nat.succ_mul]
    omega

/-- Few, as a Bool. -/
def fewB (ts : List (List Int)) (most : Nat) : Bool := decide (sumLen ts ≤ most) && decide (ts.length ≤ 100)

set_option maxRecDepth 100000 in
theorem fewB_spec {ts : List (List Int)} {most : Nat} (h : fewB ts most = true) : sumLen ts ≤ most ∧ ts.length ≤ 100 := by
  simpa [fewB] using h
set_option maxRecDepth 100000 in
theorem len_le_sum {ts : List (List Int)} {most : Nat} (h : sumLen ts ≤ most) : ∀ t ∈ ts, t.length ≤ most := by
  intro t ht
  have : t.length ≤ sumLen ts := by
    clear h
    unfold sumLen
    induction ts with
    | nil => cases ht
    | cons x ts ih =>
      simp only [List.map_cons, List.sum_cons]
      rcases List.mem_cons.1 ht with rfl | h
      · omega
      · have := ih h; omega
  omega
end Go.Proofs.Ytmpgnpkodapidaa

namespace Go.Proofs.Ytmpgnpkodapidaa
open Go.RowKit

set_option maxRecDepth 100000 in
theorem OwnB.grown {w w' : World} {base : Nat} {e : TypeId} {v : Value} {bs : List Int} {row : Option Nat} (h : OwnB w base e v bs) (hg : w.grownBy w' row) (hr : ∀ k, v.ownBlock = some k → row ≠ some k) : OwnB w' base e v bs := by
  obtain ⟨⟨h1, h2⟩, h3⟩ := h
  refine ⟨⟨h1, h2.imp id ?_⟩, h3⟩
  rintro ⟨g, cap, cur, rfl, hb, hh, hle, hmx, hsz, htk⟩
  refine ⟨g, cap, cur, rfl, hb, ?_, hle, hmx, hsz, htk⟩
  rw [hg.block g (Array.getElem?_eq_some_iff.1 hh).1 (fun e => hr g rfl e.symm)]
  exact hh

section
variable {P : Program} {w : World} {base : Nat} {t e : TypeId} {i : TypeInfo} {v : Value} {bs : List Int}
set_option maxRecDepth 100000 in
theorem wpList_append_text_at {ops : Array Oper} {rest : List Oper} {o : Oper} {A : Act} {Q : Exit → Act → World → Prop} (hgd : o.guard = none) (s x : Operand) (ho : o.op = .call { callee := .builtin .append, args := #[s, x], argTypes := #[t, t] })
    (ht : P.underlying t = some (.slice e)) (hi : P.info? e = some i) (hz : i.zero = some (.int .u8 0)) (hsize : i.size = 1) (hby : i.bytes = 1) (hs : A.eval s = v) (hown : OwnB w base e v bs)
    {a : Option Addr} {len cap : Nat} {xs : List Int} (hx : A.eval x = .slice a len cap) (hT : TextAt w a len cap xs) (hb : bs.length + len ≤ 140737488355328) (hbase : base ≤ w.heap.size)
    (h : ∀ v' w', OwnB w' base e v' (bs ++ xs) → w.grownBy w' v.ownBlock → Below base w w' → (v'.ownBlock = v.ownBlock ∨ v'.ownBlock = some w.heap.size) → wpList P ops Q rest (A.put o.dst v') w') : wpList P ops Q (o :: rest) A w := by
  have hl := hT.length
  have hsm : ∀ x ∈ bs ++ xs, 0 ≤ x ∧ x < 256 := fun x hx => by
    rw [List.mem_append] at hx
    exact hx.elim (hown.small x) (hT.small x)
  have hbel : ∀ {w' : World}, w.grownBy w' v.ownBlock → Below base w w' := fun hg => ⟨hg.os, hg.tape, hg.output, hg.size, fun k hk => hg.block k (by omega) (fun e => by have := (hown.lt k e.symm).1; omega)⟩
  refine wpList_plain hgd fun K hK => ?_
  rcases hT.mem with ⟨rfl, rfl, rfl⟩ | ⟨x', o', s', rfl, hc⟩
  · have hx0 := hT.empty rfl
    subst hx0
    have hg : w.grownBy w v.ownBlock := ⟨rfl, rfl, rfl, Nat.le_refl _, fun _ _ _ => rfl⟩
    have hr := run_append_owned_none w base t o.type e i 1 ht hi v _ _ hown.row
    unfold Oper.wp execOp
    simp only [ho, resolve, invoke, builtin, Sem.run_bind, Sem.run_pure, Result.andThen_ok, List.map_toArray, List.map_cons, List.map_nil, hs, hx, hr, Oper.upon_value]
    exact hK _ _ (h v w (by simpa using hown) hg (hbel hg) (.inl rfl))
  · obtain ⟨v', w', hr, h2, h3, _, h5⟩ := run_append_own_at w base t o.type e i (.int .u8 0) 1 1 ht hi hz hsize hby rfl (by decide) v _ _ hown.row ⟨x', o', s'⟩ len cap (xs.map (Value.int .u8)) (by simp [hl]) hT.news
      (fun u hu => by simp only [List.mem_map] at hu; obtain ⟨y, _, rfl⟩ := hu; rfl) (by unfold maxLen; omega) (by omega) hbase
    unfold Oper.wp execOp
    simp only [ho, resolve, invoke, builtin, Sem.run_bind, Sem.run_pure, Result.andThen_ok, List.map_toArray, List.map_cons, List.map_nil, hs, hx, hr, Oper.upon_value]
    exact hK _ _ (h v' w' ⟨by rw [List.length_append, hl, List.map_append]; exact h2, hsm⟩ h3 (hbel h3) h5)
end
end Go.Proofs.Ytmpgnpkodapidaa
