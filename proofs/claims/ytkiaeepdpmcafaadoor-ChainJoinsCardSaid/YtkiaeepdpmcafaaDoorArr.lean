/-
  Whole arrays, loaded and stored: the block's cells are whatever.
-/
import Derived.Test.YtkiaeepdpmcafaaDoorInts
import Derived.Deep.MidRow
namespace Go.Proofs.YtkiaeepdpmcafaaDoor
open Go.RowKit

/-- n zeros, as cells -/
def zeros (k : IntKind) (n : Nat) : Array Value := (List.replicate n (Value.int k 0)).toArray

theorem zeros_ints (k : IntKind) (n : Nat) : zeros k n = ((List.replicate n (0 : Int)).map (Value.int k)).toArray := by simp [zeros]
theorem ints_one (k : IntKind) (xs : List Int) : (xs.map (Value.int k)).toArray.all (·.oneCell') = true :=
  all_oneCell_toArray fun v hv => by simp only [List.mem_map] at hv; obtain ⟨x, _, rfl⟩ := hv; rfl

/-- An element of an array of integers. -/
theorem run_index_ints {P : Program} {t e : TypeId} {n : Nat} {k k' : IntKind} {i : TypeInfo} (hu : P.underlying t = some (.array n e)) (he : P.underlying e = some (.int k)) (hi : P.info? e = some i) (hs : i.size = 1) (xs : List Int) (hx : xs.length = n)
    (j : Nat) (hj : j < n) (w : World) : (Instr.index t (.agg (xs.map (Value.int k)).toArray) (.int k' j)).run P w = .ok (.int k (xs.getD j 0)) w := by
  have hp := run_part_ints (P := P) he xs j (by omega) w
  have hlt : (0 : Int) ≤ j ∧ (j : Int) < n := by omega
  have hjx : j < xs.length := by omega
  unfold Instr.index
  simp [asIntOf, Sem.run_bind, run_underlying hu, hlt, sizeOf, typeInfo, hi, hs, hp, hjx]
  intro h; omega

/-- The cells of a block that was just made, as the append's law asks for them. -/
theorem news_new (w : World) (cs : List Value) (T : TypeId) : ∀ (j : Nat) (u : Value), cs[j]? = some u → (w.alloc (.cells cs.toArray T (0, 0))).cell? ((⟨w.heap.size, 0, none⟩ : Addr).add j) = some u := by
  intro j u h
  rw [Addr.add_mid, Nat.zero_add, (Blk.new rfl cs.toArray T : Blk (w.alloc _) w.heap.size cs.toArray T).cell]
  simpa using h

/-- What the call owns it owns where all that was there stays. -/
theorem owns_below {w w' : World} {base : Nat} {e : TypeId} {size : Nat} {v : Value} {n : Nat} {xs : List Value} (h : w.ownsRow base e size v n xs) (hb : Below w.heap.size w w') : w'.ownsRow base e size v n xs := by
  refine h.kept (row := none) ⟨hb.os, hb.tape, hb.output, hb.size, fun k hk _ => hb.block k hk⟩ ?_
  cases hq : v.ownBlock
  · exact .inl rfl
  · exact .inr (by simp)

/-- The cells of a block, as the append's law asks for them. -/
theorem news_blk {w : World} {b : Nat} {cs : List Value} {T : TypeId} (h : Blk w b cs.toArray T) : ∀ (j : Nat) (u : Value), cs[j]? = some u → w.cell? ((⟨b, 0, none⟩ : Addr).add j) = some u := by
  intro j u hj
  rw [Addr.add_mid, Nat.zero_add, h.cell]
  simpa using hj

/-- A block below an append's own row is as it was. -/
theorem Blk.grown {w w' : World} {b : Nat} {cs : Array Value} {T : TypeId} {row : Option Nat} (h : Blk w b cs T) (hg : w.grownBy w' row) (hr : ∀ q, row = some q → b ≠ q) : Blk w' b cs T := by
  have := h.lt
  unfold Blk at *
  rw [hg.block _ this (fun e => hr _ e.symm rfl)]; exact h

section
variable {P : Program} {ops : Array Oper} {rest : List Oper} {op : Oper} {a : Act} {w : World} {Q : Exit → Act → World → Prop}

theorem Blk.rangeAt {b : Nat} {cs : Array Value} {T : TypeId} (h : Blk w b cs T) : w.rangeAt b 0 cs.toList := fun j v hv => by
  rw [Nat.zero_add, h.cell j]; simpa using hv
theorem Blk.there {b n : Nat} {cs : Array Value} {T : TypeId} (h : Blk w b cs T) (hn : n ≤ cs.size) : w.there b 0 n := fun j hj =>
  ⟨by rw [Nat.zero_add, h.cell j, Array.getElem?_eq_getElem (by omega)]; rfl, h.free _⟩

/-- A whole variable is read. -/
theorem wpList_load_blk (hgd : op.guard = none) (ty : TypeId) (x : Operand) (ho : op.op = .load ty x) (b : Nat) (hx : a.eval x = .pointer (some ⟨b, 0, none⟩)) (cs : Array Value) (T : TypeId) (hk : Blk w b cs T)
    (d : TypeDesc) (hu : P.underlying ty = some d) (hd : d.isRow = true) (n : Nat) (hi : (P.info? ty).map (·.size) = some n) (hs : cs.size = n)
    (h : wpList P ops Q rest (a.put op.dst (.agg cs)) w) : wpList P ops Q (op :: rest) a w :=
  wpList_load_mid hgd ty x ho b 0 hx cs.toList d hk.rangeAt hu hd (by rw [hi]; simp [hs]) (by simpa using h)

/-- .. behind a guard that holds -/
theorem wpList_load_blk_if (hw : Region.wanted op (yielded ops a.tmps) = true) (ty : TypeId) (x : Operand) (ho : op.op = .load ty x) (b : Nat) (hx : a.eval x = .pointer (some ⟨b, 0, none⟩)) (cs : Array Value) (T : TypeId) (hk : Blk w b cs T)
    (d : TypeDesc) (hu : P.underlying ty = some d) (hd : d.isRow = true) (n : Nat) (hi : (P.info? ty).map (·.size) = some n) (hs : cs.size = n)
    (h : wpList P ops Q rest (a.put op.dst (.agg cs)) w) : wpList P ops Q (op :: rest) a w := by
  unfold wpList
  rw [if_pos hw]
  exact .inl (wp_load_mid ty x ho b 0 hx cs.toList d hk.rangeAt hu hd (by rw [hi]; simp [hs]) (by simpa using h))

theorem But.setCells {b : Nat} {w0 : World} : ∀ (vs : List Value) (o : Nat) (w : World), But b w0 w → But b w0 (w.setCells b o vs)
  | [], _, _, h => h
  | v :: vs, o, w, h => by
    rw [World.setCells]
    exact But.setCells vs (o + 1) _ (h.set (p := ⟨b, o, none⟩) (.inl rfl) v)

theorem setCells_is : ∀ (vs : List Value) (b o : Nat) (w : World), w.setCells b o vs = setAll w b o vs
  | [], _, _, _ => rfl
  | v :: vs, b, o, w => by rw [World.setCells]; exact setCells_is vs b (o + 1) _

/-- A whole variable is written: all else stays. -/
theorem wpList_store_blk (hgd : op.guard = none) (ty : TypeId) (x y : Operand) (ho : op.op = .store ty x y) (b : Nat) (cells : Array Value) (hx : a.eval x = .pointer (some ⟨b, 0, none⟩)) (hy : a.eval y = .agg cells)
    (cs : Array Value) (T : TypeId) (hk : Blk w b cs T) (n : Nat) (hi : (P.info? ty).map (·.size) = some n) (hs : cs.size = n) (hn : cells.size = n) (h1 : cells.all (·.oneCell') = true)
    (h : ∀ w', But b w w' → Blk w' b cells T → wpList P ops Q rest (a.put op.dst undef) w') : wpList P ops Q (op :: rest) a w := by
  refine wpList_store_mid hgd ty x y ho b 0 cells hx hy (hk.there (by omega)) (by rw [hi, hn]) h1 (h _ (But.setCells _ _ _ (But.of (Below.refl _ _))) ?_)
  rw [setCells_is]
  have := hk.setAll_self cells.toList (by simp; omega)
  simpa using this

/-- .. in a region that draws its order -/
theorem quiet_load_blk {C : World → Prop} {K : Act → Prop} (ty : TypeId) (x : Operand) (ho : op.op = .load ty x) (b : Nat) (hx : a.eval x = .pointer (some ⟨b, 0, none⟩)) (cs : Array Value)
    (hk : ∀ w', C w' → ∃ T, Blk w' b cs T) (d : TypeDesc) (hu : P.underlying ty = some d) (hd : d.isRow = true) (n : Nat) (hi : (P.info? ty).map (·.size) = some n) (hs : cs.size = n)
    (h : K (a.put op.dst (.agg cs))) : op.quiet P a C K :=
  ⟨.agg cs, fun w' hw' => by
    obtain ⟨T, hb⟩ := hk w' hw'
    unfold Oper.quietAt execOp
    simp only [ho, hx, Instr.loadAt, Instr.sureAddr, Sem.run_bind, Sem.run_pure, Result.andThen_ok, run_loadVar_mid w' b 0 ty cs.toList d hb.rangeAt hu hd (by rw [hi]; simp [hs])]
    simp [Oper.quietUpon], h⟩

/-- What a function that answers an array hands back. -/
theorem results_blk {fn : Func} {p : Tmp} {ty : TypeId} (h : fn.results = #[.cell p ty]) (tmps : Array Value) (b : Nat) (hp : tmps.getD p undef = .pointer (some ⟨b, 0, none⟩)) (cs : Array Value) (T : TypeId) (hk : Blk w b cs T)
    (d : TypeDesc) (hu : P.underlying ty = some d) (hd : d.isRow = true) (n : Nat) (hi : (P.info? ty).map (·.size) = some n) (hs : cs.size = n) : (results fn tmps).run P w = .ok (.agg cs) w := by
  exact results_cell_row h tmps w b T cs (0, 0) d hp hk hu (by cases d <;> simp_all) (by rw [hi, hs])

/-- .. an array and one value more. -/
theorem results_blk_tmp {fn : Func} {p u : Tmp} {ty : TypeId} (h : fn.results = #[.cell p ty, .tmp u]) (tmps : Array Value) (b : Nat) (hp : tmps.getD p undef = .pointer (some ⟨b, 0, none⟩)) (v : Value) (hv : tmps.getD u undef = v) (cs : Array Value) (T : TypeId) (hk : Blk w b cs T)
    (d : TypeDesc) (hu : P.underlying ty = some d) (hd : d.isRow = true) (n : Nat) (hi : (P.info? ty).map (·.size) = some n) (hs : cs.size = n) : (results fn tmps).run P w = .ok (.tuple #[.agg cs, v]) w := by
  have hp' : tmps[p]?.getD undef = .pointer (some ⟨b, 0, none⟩) := by simpa using hp
  have hv' : tmps[u]?.getD undef = v := by simpa using hv
  have hl := run_loadVar_row (P := P) w b T ty cs (0, 0) d hk hu (by cases d <;> simp_all) (by rw [hi, hs])
  simp [results, h, hp', hv', asAddr, hl]

end
end Go.Proofs.YtkiaeepdpmcafaaDoor
