/-
  Texts that come in, or that lie in memory: slices of bytes; slices of such.
-/
import Derived.Deep.Matrix
import Derived.Test.YtkiaeepdpmcafaaDoorOpens
import Derived.Test.YtkiaeepdpmcafaaDoorBytes
namespace Go.Proofs.YtkiaeepdpmcafaaDoor
open Go.ChangeShapes Go.WideShapes Go.ChangeAt Go.RowKit

/-- A text's bytes, in memory that was there. -/
structure TextAt (w : World) (a : Option Addr) (len cap : Nat) (t : List Int) : Prop where
  length : t.length = len
  le : len ≤ cap
  max : cap ≤ 9223372036854775807
  small : ∀ x ∈ t, 0 ≤ x ∧ x < 256
  mem : (a = none ∧ len = 0 ∧ cap = 0) ∨ ∃ x o s, a = some ⟨x, o, s⟩ ∧ ∀ j, j < len → s = none ∧ x < w.heap.size ∧ w.cell? ⟨x, o + j, none⟩ = some (.int .u8 (t.getD j 0))

theorem TextAt.below {w w' : World} {a : Option Addr} {len cap : Nat} {t : List Int} (h : TextAt w a len cap t) (hb : Below w.heap.size w w') : TextAt w' a len cap t := by
  obtain ⟨h1, h2, h3, h4, h | ⟨x, o, s, rfl, hc⟩⟩ := h
  · exact ⟨h1, h2, h3, h4, .inl h⟩
  · refine ⟨h1, h2, h3, h4, .inr ⟨x, o, s, rfl, fun j hj => ?_⟩⟩
    obtain ⟨q0, q1, q2⟩ := hc j hj
    exact ⟨q0, Nat.lt_of_lt_of_le q1 hb.size, (hb.cell (p := ⟨x, o + j, none⟩) q1).trans q2⟩

theorem TextAt.belowB {w w' : World} {B : Nat} {a : Option Addr} {len cap : Nat} {t : List Int} (h : TextAt w a len cap t) (hB : w.heap.size ≤ B) (hb : Below B w w') : TextAt w' a len cap t := h.below (hb.mono hB)

theorem TextAt.nil {w : World} : TextAt w none 0 0 [] := ⟨rfl, Nat.le_refl _, by omega, by simp, .inl ⟨rfl, rfl, rfl⟩⟩

/-- The text is empty, or its address is plain. -/
theorem TextAt.at_ {w : World} {a : Option Addr} {len cap : Nat} {t : List Int} (h : TextAt w a len cap t) (h0 : 0 < len) : ∃ x o, a = some ⟨x, o, none⟩ ∧ x < w.heap.size ∧ ∀ j, j < len → w.cell? ⟨x, o + j, none⟩ = some (.int .u8 (t.getD j 0)) := by
  obtain ⟨h1, h2, h3, h4, ⟨_, h, _⟩ | ⟨x, o, s, rfl, hc⟩⟩ := h
  · omega
  · obtain ⟨rfl, hx, _⟩ := hc 0 h0
    exact ⟨x, o, rfl, hx, fun j hj => (hc j hj).2.2⟩
theorem TextAt.empty {w : World} {a : Option Addr} {len cap : Nat} {t : List Int} (h : TextAt w a len cap t) (h0 : len = 0) : t = [] := List.eq_nil_of_length_eq_zero (h.length.trans h0)
theorem TextAt.getD {w : World} {a : Option Addr} {len cap : Nat} {t : List Int} (h : TextAt w a len cap t) (j : Nat) : 0 ≤ t.getD j 0 ∧ t.getD j 0 < 256 := by
  rcases Nat.lt_or_ge j t.length with hj | hj
  · rw [show t.getD j 0 = t[j] by simp [hj]]
    exact h.small _ (List.getElem_mem _)
  · rw [show t.getD j 0 = 0 by simp [hj]]
    omega

/-- The cells, as the append's law asks for them. -/
theorem TextAt.news {w : World} {x o : Nat} {s : Option Nat} {len cap : Nat} {t : List Int} (h : TextAt w (some ⟨x, o, s⟩) len cap t) : ∀ (j : Nat) (u : Value), (t.map (Value.int .u8))[j]? = some u → w.cell? ((⟨x, o, s⟩ : Addr).add j) = some u := by
  intro j u hu
  have hj : j < t.length := by
    have := (List.getElem?_eq_some_iff.1 hu).1
    simpa using this
  obtain ⟨h1, h2, h3, h4, ⟨h, _⟩ | ⟨x', o', s', he, hc⟩⟩ := h
  · cases h
  · injection he with he
    injection he with e1 e2 e3
    subst e1 e2 e3
    obtain ⟨rfl, q1, q2⟩ := hc j (by omega)
    rw [Addr.add_mid, q2, ← hu]
    simp [hj]

theorem TextAt.of_row {w : World} {g n cap : Nat} {bs : List Int} (h : Row8 w g bs) (hn : bs.length = n) (hc : n ≤ cap) (hm : cap ≤ 9223372036854775807) (hs : ∀ x ∈ bs, 0 ≤ x ∧ x < 256) : TextAt w (some ⟨g, 0, none⟩) n cap bs := by
  obtain ⟨cs, T, hk, hcell⟩ := h
  refine ⟨hn, hc, hm, hs, .inr ⟨g, 0, none, rfl, fun j hj => ⟨rfl, hk.lt, ?_⟩⟩⟩
  rw [Nat.zero_add, hk.cell]
  exact hcell j (by omega)

/-- A part of a block's cells. -/
theorem TextAt.of_blk {w : World} {g o n cap : Nat} {cs : Array Value} {T : TypeId} {bs : List Int} (h : Blk w g cs T) (hn : bs.length = n) (hc : n ≤ cap) (hm : cap ≤ 9223372036854775807) (hs : ∀ x ∈ bs, 0 ≤ x ∧ x < 256) (hcs : ∀ j, j < n → cs[o + j]? = some (.int .u8 (bs.getD j 0))) : TextAt w (some ⟨g, o, none⟩) n cap bs := by
  refine ⟨hn, hc, hm, hs, .inr ⟨g, o, none, rfl, fun j hj => ⟨rfl, h.lt, ?_⟩⟩⟩
  rw [h.cell]
  exact hcs j hj

/-- A whole array of bytes. -/
theorem TextAt.of_ints {w : World} {g n : Nat} {T : TypeId} {bs : List Int} (h : Blk w g (bs.map (Value.int .u8)).toArray T) (hn : bs.length = n) (hm : n ≤ 9223372036854775807) (hs : ∀ x ∈ bs, 0 ≤ x ∧ x < 256) : TextAt w (some ⟨g, 0, none⟩) n n bs :=
  TextAt.of_blk h hn (Nat.le_refl _) hm hs fun j hj => by rw [Nat.zero_add]; simp [show j < bs.length by omega]

/-- where a part of a slice begins -/
def cutA (a : Option Addr) (l cap : Nat) : Option Addr := if cap = l then a else a.map (·.add l)
theorem cutA_zero (a : Option Addr) (cap : Nat) : cutA a 0 cap = a := by
  unfold cutA
  split
  · rfl
  · cases a with
    | none => rfl
    | some a => obtain ⟨x, o, s⟩ := a; cases s <;> simp [Addr.add]

theorem TextAt.cut {w : World} {a : Option Addr} {len cap : Nat} {t : List Int} (h : TextAt w a len cap t) (l hi : Nat) (hl : l ≤ hi) (hh : hi ≤ len) : TextAt w (cutA a l cap) (hi - l) (cap - l) ((t.drop l).take (hi - l)) := by
  obtain ⟨h1, h2, h3, h4, h5⟩ := h
  refine ⟨by simp; omega, by omega, by omega, fun x hx => h4 x (List.mem_of_mem_drop (List.mem_of_mem_take hx)), ?_⟩
  unfold cutA
  rcases h5 with ⟨rfl, rfl, rfl⟩ | ⟨x, o, s, rfl, hc⟩
  · left
    refine ⟨by split <;> rfl, by omega, by omega⟩
  · right
    split
    · exact ⟨x, o, s, rfl, fun j hj => by omega⟩
    · rcases Nat.eq_or_lt_of_le hl with rfl | hlt
      · rcases s with _ | s
        · exact ⟨x, o + l, none, by rw [Option.map_some, Addr.add_mid], fun j hj => by omega⟩
        · cases ha : (⟨x, o, some s⟩ : Addr).add l with
          | mk x' o' s' => exact ⟨x', o', s', by simp [ha], fun j hj => by omega⟩
      · obtain ⟨rfl, hx, _⟩ := hc l (by omega)
        refine ⟨x, o + l, none, by rw [Option.map_some, Addr.add_mid], fun j hj => ⟨rfl, hx, ?_⟩⟩
        rw [Nat.add_assoc, (hc (l + j) (by omega)).2.2]
        simp [List.getD_eq_getElem?_getD, show j < hi - l by omega]

section
variable {P : Program} {t e : TypeId}
theorem run_cut_lh (ht : P.underlying t = some (.slice e)) (hs : (P.info? e).map (·.size) = some 1) (a : Option Addr) (len cap : Nat) (l hi : Int) (w : World) (h0 : 0 ≤ l) (h1 : l ≤ hi) (h2 : hi ≤ cap) :
    (Instr.slice t (.slice a len cap) (some (.int .i64 l)) (some (.int .i64 hi)) none).run P w = .ok (.slice (cutA a l.toNat cap) (hi.toNat - l.toNat) (cap - l.toNat)) w := by
  have he : P.elem t = e := by simp [Program.elem, ht]
  rw [run_slice_lh (w := w) t a len cap (by rw [he]; exact ht) _ _ l hi h0 h1 h2]
  obtain ⟨i, hi1, hi2⟩ := Option.map_eq_some_iff.1 hs
  simp [sizeOf, typeInfo, he, hi1, hi2, sliced, cutA]
theorem run_cut_h (ht : P.underlying t = some (.slice e)) (hs : (P.info? e).map (·.size) = some 1) (a : Option Addr) (len cap : Nat) (hi : Int) (w : World) (h0 : 0 ≤ hi) (h2 : hi ≤ cap) :
    (Instr.slice t (.slice a len cap) none (some (.int .i64 hi)) none).run P w = .ok (.slice a hi.toNat cap) w := by
  have he : P.elem t = e := by simp [Program.elem, ht]
  rw [run_slice_h (w := w) t a len cap (by rw [he]; exact ht) _ hi h0 h2]
  obtain ⟨i, hi1, hi2⟩ := Option.map_eq_some_iff.1 hs
  have := cutA_zero a cap
  unfold cutA at this
  simp [sizeOf, typeInfo, he, hi1, hi2, sliced, this]
theorem run_cut_l (ht : P.underlying t = some (.slice e)) (hs : (P.info? e).map (·.size) = some 1) (a : Option Addr) (len cap : Nat) (l : Int) (w : World) (h0 : 0 ≤ l) (h1 : l ≤ len) :
    (Instr.slice t (.slice a len cap) (some (.int .i64 l)) none none).run P w = .ok (.slice (cutA a l.toNat cap) (len - l.toNat) (cap - l.toNat)) w := by
  have he : P.elem t = e := by simp [Program.elem, ht]
  rw [run_slice_l (w := w) t a len cap (by rw [he]; exact ht) _ l h0 h1]
  obtain ⟨i, hi1, hi2⟩ := Option.map_eq_some_iff.1 hs
  simp [sizeOf, typeInfo, he, hi1, hi2, sliced, cutA]

/-- The string of a text. -/
theorem TextAt.string {w : World} {a : Option Addr} {len cap : Nat} {bs : List Int} {src dst : TypeId} (h : TextAt w a len cap bs) (hs : P.underlying src = some (.slice e)) (he : P.underlying e = some (.int .u8)) (hd : P.underlying dst = some .string) :
    (convert src dst (.slice a len cap)).run P w = .ok (.string (strOfNums bs)) w := by
  obtain ⟨h1, h2, h3, h4, ⟨rfl, rfl, rfl⟩ | ⟨x, o, s, rfl, hc⟩⟩ := h
  · obtain rfl := List.eq_nil_of_length_eq_zero h1
    exact run_convert_bytes_nil w src e hs he 0 0 dst hd
  · rcases Nat.eq_zero_or_pos len with rfl | h0
    · obtain rfl := List.eq_nil_of_length_eq_zero h1
      simp [convert, run_underlying hs, run_underlying hd, run_underlying he]
      rfl
    · obtain ⟨rfl, _⟩ := hc 0 h0
      exact run_convert_bytes_arg w src e hs he x o len cap bs h1 (fun i hi => (hc i hi).2.2) dst hd

end

theorem weights_cons {H : Type} {P : Program} {t : TypeId} {ts : List TypeId} {d : DataW H} {ds : List (DataW H)} (h : (DataW.weightsEach P (t :: ts) (d :: ds)).all (· ≤ reachBytes) = true) : (d.weights P t).all (· ≤ reachBytes) = true ∧ (DataW.weightsEach P ts ds).all (· ≤ reachBytes) = true := by
  simpa [DataW.weightsEach] using h

section
variable {P : Program} {t e : TypeId}
/-- A text that comes in. -/
theorem open_text {H : Type} {enc : TypeId × Value → H} {W : World} {base : Nat} {v : Value} {d : DataW H} {p : List MemPlace} (hu : P.underlying t = some (.slice e)) (he : P.underlying e = some (.int .u8))
    (hc : P.cellsOf e = 1) (hv : Value.okWide P W .any base t v) (h : DataW.Trod enc P W 0 (fun _ => true) true t v d p) :
    ∃ (a : Option Addr) (len cap : Nat) (bs : List Int), v = .slice a len cap ∧ TextAt W a len cap bs ∧ (P.bytesOf e = 1 → (d.weights P t).all (· ≤ reachBytes) = true → cap ≤ 140737488351232) := by
  obtain ⟨a, len, cap, rfl⟩ := okWide_slice hu hv
  obtain ⟨fuel, hf⟩ := h
  rcases open_ints hu he hc hf with ⟨hcs, _⟩ | ⟨x, l, c, zs, hcs, _, hl, hm, hz, hd, hcell, hwz⟩
  · simp [Value.cells] at hcs
    obtain ⟨rfl, rfl, rfl⟩ := hcs
    exact ⟨none, 0, 0, [], rfl, TextAt.nil, fun _ _ => by omega⟩
  · simp [Value.cells] at hcs
    obtain ⟨rfl, rfl, rfl⟩ := hcs
    obtain ⟨b, off, s⟩ := x
    have hz' : zs.length = cap := by simpa using hz
    refine ⟨_, len, cap, zs.take len, rfl, ⟨by simp; omega, hl, by unfold maxLen at hm; omega, fun z hz => wf_u8 (hwz z (List.mem_of_mem_take hz)), .inr ⟨b, off, s, rfl, fun i hi => ?_⟩⟩, fun hb hw => ?_⟩
    · have h0 := hcell i (by omega)
      have hs : s = none := by
        have h00 := hcell 0 (by omega)
        have := World.cell?_spot h00
        simpa [Addr.add] using this
      subst hs
      rw [Addr.add_mid] at h0
      refine ⟨rfl, World.block_lt_of_cell? W _ h0, ?_⟩
      rw [h0]
      simp [hi]
    · injection hd with hd _
      subst hd
      simp [DataW.weights, hu, lits, hb, reachBytes, hz'] at hw
      have := of_decide_eq_true hw.1
      omega
end

/-- Texts, in memory that was there. -/
structure TextsAt (w : World) (a : Option Addr) (len cap : Nat) (ts : List (List Int)) : Prop where
  length : ts.length = len
  le : len ≤ cap
  max : cap ≤ 9223372036854775807
  mem : len = 0 ∨ ∃ x o, a = some ⟨x, o, none⟩ ∧ x < w.heap.size ∧ ∀ j, j < len → ∃ a' l' c', w.cell? ⟨x, o + j, none⟩ = some (.slice a' l' c') ∧ TextAt w a' l' c' (ts.getD j [])

theorem TextsAt.below {w w' : World} {a : Option Addr} {len cap : Nat} {ts : List (List Int)} (h : TextsAt w a len cap ts) (hb : Below w.heap.size w w') : TextsAt w' a len cap ts := by
  obtain ⟨h1, h2, h3, h | ⟨x, o, rfl, hx, hc⟩⟩ := h
  · exact ⟨h1, h2, h3, .inl h⟩
  · refine ⟨h1, h2, h3, .inr ⟨x, o, rfl, Nat.lt_of_lt_of_le hx hb.size, fun j hj => ?_⟩⟩
    obtain ⟨a', l', c', q1, q2⟩ := hc j hj
    exact ⟨a', l', c', (hb.cell (p := ⟨x, o + j, none⟩) hx).trans q1, q2.below hb⟩

theorem TextsAt.at_ {w : World} {a : Option Addr} {len cap : Nat} {ts : List (List Int)} (h : TextsAt w a len cap ts) (j : Nat) (hj : j < len) : ∃ x o a' l' c', a = some ⟨x, o, none⟩ ∧ x < w.heap.size ∧ w.cell? ⟨x, o + j, none⟩ = some (.slice a' l' c') ∧ TextAt w a' l' c' (ts.getD j []) := by
  obtain ⟨h1, h2, h3, h | ⟨x, o, rfl, hx, hc⟩⟩ := h
  · omega
  · obtain ⟨a', l', c', q1, q2⟩ := hc j hj
    exact ⟨x, o, a', l', c', rfl, hx, q1, q2⟩

theorem TextsAt.take {w : World} {a : Option Addr} {len cap : Nat} {ts : List (List Int)} (h : TextsAt w a len cap ts) (n : Nat) (hn : n ≤ len) : TextsAt w a n cap (ts.take n) := by
  obtain ⟨h1, h2, h3, h4⟩ := h
  refine ⟨by simp; omega, by omega, h3, ?_⟩
  rcases h4 with h | ⟨x, o, rfl, hx, hc⟩
  · left; omega
  · right
    refine ⟨x, o, rfl, hx, fun j hj => ?_⟩
    obtain ⟨a', l', c', q1, q2⟩ := hc j (by omega)
    refine ⟨a', l', c', q1, ?_⟩
    rw [show (ts.take n).getD j [] = ts.getD j [] by simp [List.getD_eq_getElem?_getD, hj]]
    exact q2

theorem TextsAt.small {w : World} {a : Option Addr} {len cap : Nat} {ts : List (List Int)} (h : TextsAt w a len cap ts) : ∀ t ∈ ts, ∀ x ∈ t, 0 ≤ x ∧ x < 256 := by
  intro t ht x hx
  obtain ⟨j, hj, rfl⟩ := List.getElem_of_mem ht
  obtain ⟨_, _, a', l', c', _, _, _, q⟩ := h.at_ j (by rw [← h.length]; exact hj)
  rw [show ts.getD j [] = ts[j] by simp [hj]] at q
  exact q.small x hx

/-- Texts that come in. -/
theorem open_texts {H : Type} {enc : TypeId × Value → H} {P : Program} {W : World} {base : Nat} {t e q : TypeId} {v : Value} {d : DataW H} {p : List MemPlace} (hu : P.underlying t = some (.slice e)) (he : P.underlying e = some (.slice q)) (hq : P.underlying q = some (.int .u8))
    (ce : P.cellsOf e = 1) (cq : P.cellsOf q = 1) (hv : Value.okWide P W .any base t v) (h : DataW.Trod enc P W 0 (fun _ => true) true t v d p) :
    ∃ (a : Option Addr) (len cap : Nat) (ts : List (List Int)), v = .slice a len cap ∧ TextsAt W a len cap ts ∧ (P.bytesOf e = 24 → P.bytesOf q = 1 → (d.weights P t).all (· ≤ reachBytes) = true → cap ≤ 140737488351232 ∧ ∀ t ∈ ts, t.length ≤ 140737488351232) := by
  obtain ⟨a, len, cap, rfl⟩ := okWide_slice hu hv
  obtain ⟨fuel, hf⟩ := h
  rcases Go.Deep.open_int_rows hu he hq ce cq hf with ⟨hcs, _⟩ | ⟨x, l, c, A, L, C, Z, hcs, _, hl, hm, hd, hall⟩
  · simp [Value.cells] at hcs
    obtain ⟨rfl, rfl, rfl⟩ := hcs
    exact ⟨none, 0, 0, [], rfl, ⟨rfl, Nat.le_refl _, by omega, .inl rfl⟩, fun _ _ _ => ⟨by omega, by simp⟩⟩
  · simp [Value.cells] at hcs
    obtain ⟨rfl, rfl, rfl⟩ := hcs
    obtain ⟨b, off, s⟩ := x
    refine ⟨_, len, cap, (List.range len).map fun r => (Z r).take (L r), rfl, ⟨by simp, hl, by unfold maxLen at hm; omega, ?_⟩, fun hb1 hb2 hw => ?_⟩
    rotate_left
    · injection hd with hd _
      subst hd
      have hw0 := hw
      simp only [DataW.weights, hu, List.length_map, List.length_range, List.all_cons, List.all_append, Bool.and_eq_true, decide_eq_true_eq, hb1] at hw0
      have h24 := hw0.1
      unfold reachBytes at h24
      refine ⟨by omega, fun tt htt => ?_⟩
      simp only [List.mem_map, List.mem_range] at htt
      obtain ⟨r, hr, rfl⟩ := htt
      have hall1 := hw0.2.1
      obtain ⟨_, h2, _, h4, _, h6, _⟩ := hall r (by omega)
      have key : ∀ (l : List (DataW H)) (dd : DataW H), dd ∈ l → (DataW.weightsAll P e l).all (· ≤ reachBytes) = true → (dd.weights P e).all (· ≤ reachBytes) = true := by
        intro l
        induction l with
        | nil => intro dd h; cases h
        | cons x l ih =>
          intro dd hm hall
          simp only [DataW.weightsAll, List.all_append, Bool.and_eq_true] at hall
          rcases List.mem_cons.1 hm with rfl | hm
          · exact hall.1
          · exact ih dd hm hall.2
      have hk := key _ (Go.Deep.intRow .u8 (A r) (L r) (Z r)) (List.mem_map.2 ⟨r, List.mem_range.2 hr, rfl⟩) hall1
      rw [List.length_take]
      cases hA : A r with
      | none => have := h6 hA; omega
      | some a' =>
        rw [hA] at hk
        simp [Go.Deep.intRow, DataW.weights, he, lits, hb2, reachBytes, h4] at hk
        have := of_decide_eq_true hk.1
        omega
    rcases Nat.eq_zero_or_pos len with h0 | h0
    · exact .inl h0
    right
    have hs : s = none := by
      have := World.cell?_spot (hall 0 (by omega)).1
      simpa [Addr.add] using this
    subst hs
    have hx : b < W.heap.size := by
      have := (hall 0 (by omega)).1
      rw [Addr.add_mid] at this
      exact World.block_lt_of_cell? W _ this
    refine ⟨b, off, rfl, hx, fun r hr => ?_⟩
    obtain ⟨h1, h2, h3, h4, h5, h6, h7⟩ := hall r (by omega)
    rw [Addr.add_mid] at h1
    refine ⟨A r, L r, C r, h1, ?_⟩
    rw [show ((List.range len).map fun r => (Z r).take (L r)).getD r [] = (Z r).take (L r) by simp [hr]]
    refine ⟨by simp; omega, h2, by unfold maxLen at h3; omega, fun x hx => wf_u8 (h5 x (List.mem_of_mem_take hx)), ?_⟩
    cases hA : A r with
    | none => left; have := h6 hA; exact ⟨rfl, by omega, this⟩
    | some a' =>
      right
      obtain ⟨x, o, s⟩ := a'
      refine ⟨x, o, s, rfl, fun j hj => ?_⟩
      have h8 := (h7 _ hA).2 j (by omega)
      have hs : s = none := by
        have := World.cell?_spot ((h7 _ hA).2 0 (by omega))
        simpa [Addr.add] using this
      subst hs
      rw [Addr.add_mid] at h8
      refine ⟨rfl, World.block_lt_of_cell? W _ h8, ?_⟩
      rw [h8]
      simp [List.getD_eq_getElem?_getD, hj]
end Go.Proofs.YtkiaeepdpmcafaaDoor
