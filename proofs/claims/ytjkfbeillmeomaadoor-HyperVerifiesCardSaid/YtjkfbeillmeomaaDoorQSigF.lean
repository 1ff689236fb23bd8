/-
  Layer 11: which signatures are formed, and few.
-/
import Derived.Test.YtjkfbeillmeomaaDoorQSig
namespace Go.Proofs.YtjkfbeillmeomaaDoor
set_option maxRecDepth 100000
open Go.ChangeShapes Go.WideShapes Go.ChangeAt Go.RowKit
section
variable {P : Program} {ops : Array Oper} {rest : List Oper} {op : Oper} {a : Act} {w : World} {Q : Exit → Act → World → Prop} {t e : TypeId}
/-- An element's address, of elements of s cells. -/
theorem run_indexAt_s (s : Nat) (ht : P.underlying t = some (.slice e)) (hs : (P.info? e).map (·.size) = some s) (b o len cap : Nat) (k : IntKind) (i : Int) (j : Nat) (hi : i = j) (hj : j < len) (w : World) :
    (Instr.indexAt t (.slice (some ⟨b, o, none⟩) len cap) (.int k i)).run P w = .ok (.pointer (some ⟨b, o + j * s, none⟩)) w := by
  subst hi
  obtain ⟨i0, hi0, h32⟩ := Option.map_eq_some_iff.1 hs
  have hlt : (0 : Int) ≤ j ∧ (j : Int) < len := by omega
  unfold Instr.indexAt
  simp [asIntOf, Sem.run_bind, run_underlying ht, hlt, sizeOf, typeInfo, hi0, h32, hj, Addr.add_mid]
theorem wpList_index_s (s : Nat) (hw : Region.wanted op (yielded ops a.tmps) = true) (ty : TypeId) (x ix : Operand) (ho : op.op = .indexAddr ty x ix) (ht : P.underlying ty = some (.slice e)) (hs : (P.info? e).map (·.size) = some s) (b o len cap : Nat) (hx : a.eval x = .slice (some ⟨b, o, none⟩) len cap)
    (k : IntKind) (i : Int) (hix : a.eval ix = .int k i) (j : Nat) (hi : i = j) (hj : j < len) (h : wpList P ops Q rest (a.put op.dst (.pointer (some ⟨b, o + j * s, none⟩))) w) : wpList P ops Q (op :: rest) a w := by
  unfold wpList
  rw [if_pos hw]
  refine .inl ?_
  unfold Oper.wp execOp
  simp only [ho, hx, hix, Sem.run_bind, Sem.run_pure, Result.andThen_ok, run_indexAt_s s ht hs b o len cap k i j hi hj, Oper.upon_value]
  exact h
theorem quiet_index_s (s : Nat) {C : World → Prop} {K : Act → Prop} (ty : TypeId) (x ix : Operand) (ho : op.op = .indexAddr ty x ix) (ht : P.underlying ty = some (.slice e)) (hs : (P.info? e).map (·.size) = some s) (b o len cap : Nat) (hx : a.eval x = .slice (some ⟨b, o, none⟩) len cap)
    (k : IntKind) (i : Int) (hix : a.eval ix = .int k i) (j : Nat) (hi : i = j) (hj : j < len) (h : K (a.put op.dst (.pointer (some ⟨b, o + j * s, none⟩)))) : op.quiet P a C K :=
  ⟨.pointer (some ⟨b, o + j * s, none⟩), fun w' hw' => by
    unfold Oper.quietAt execOp
    simp only [ho, hx, hix, Sem.run_bind, Sem.run_pure, Result.andThen_ok, run_indexAt_s s ht hs b o len cap k i j hi hj]
    simp [Oper.quietUpon], h⟩
end
theorem size_part : (Tryd.prog.info? 88).map (·.size) = some 2 := by kernel_rfl
theorem sigC_index {i : Int} {r : List Int} {pv : Value} {w : World} {b : Nat} {T : TypeId} (k : Blk w b (sigC i r pv).toArray T) : w.cell? ⟨b, 0, none⟩ = some (.int .i64 i) := by rw [k.cell]; rfl
theorem sigC_parts {i : Int} {r : List Int} {pv : Value} {w : World} {b : Nat} {T : TypeId} (h : Dg r) (k : Blk w b (sigC i r pv).toArray T) : w.cell? ⟨b, 33, none⟩ = some pv := by
  rw [k.cell]
  simp [sigC, h.len]
theorem sigC_r {i : Int} {r : List Int} {pv : Value} {w : World} {b : Nat} {T : TypeId} (k : Blk w b (sigC i r pv).toArray T) : w.rangeAt b 1 (r.map (Value.int .u8)) := fun j v hv => by
  have hj : j < r.length := by have := (List.getElem?_eq_some_iff.1 hv).1; simpa using this
  rw [k.cell, List.getElem?_toArray, ← hv, Nat.add_comm]
  unfold sigC
  rw [List.getElem?_cons_succ, List.getElem?_append_left (by rw [List.length_map]; exact hj)]
/-- What a part's place holds. -/
structure PartC (w : World) (x o : Nat) (p : Prt) (oa : Option Addr) (oc : Nat) (aa : Option Addr) (ac : Nat) : Prop where
  lt : x < w.heap.size
  c0 : w.cell? ⟨x, o, none⟩ = some (.slice oa p.1.length oc)
  c1 : w.cell? ⟨x, o + 1, none⟩ = some (.slice aa p.2.length ac)
  ots : DigsAt w oa p.1.length oc p.1
  auth : DigsAt w aa p.2.length ac p.2
theorem PartC.range {w : World} {x o : Nat} {p : Prt} {oa : Option Addr} {oc : Nat} {aa : Option Addr} {ac : Nat} (h : PartC w x o p oa oc aa ac) : w.rangeAt x o [.slice oa p.1.length oc, .slice aa p.2.length ac] := fun j v hv => by
  match j, hv with
  | 0, hv => rw [Nat.add_zero, h.c0]; exact hv
  | 1, hv => rw [h.c1]; exact hv
  | j + 2, hv => simp at hv
theorem PartC.below {w w' : World} {x o : Nat} {p : Prt} {oa : Option Addr} {oc : Nat} {aa : Option Addr} {ac : Nat} (h : PartC w x o p oa oc aa ac) (hb : Below w.heap.size w w') : PartC w' x o p oa oc aa ac :=
  ⟨Nat.lt_of_lt_of_le h.lt hb.size, by rw [hb.cell (p := ⟨x, o, none⟩) h.lt]; exact h.c0, by rw [hb.cell (p := ⟨x, o + 1, none⟩) h.lt]; exact h.c1, h.ots.below hb, h.auth.below hb⟩
theorem PartsAt.part {w : World} {a : Option Addr} {len cap : Nat} {ps : List Prt} (h : PartsAt w a len cap ps) {k : Nat} (hk : k < len) :
    ∃ x o oa oc aa ac, a = some ⟨x, o, none⟩ ∧ PartC w x (o + k * 2) (ps.getD k ([], [])) oa oc aa ac := by
  obtain ⟨x, o, rfl, hx, hc⟩ := h.at_ (by omega)
  obtain ⟨u, v, c0, c1, ⟨oa, oc, rfl, h0⟩, ⟨aa, ac, rfl, h1⟩⟩ := hc k hk
  exact ⟨x, o, oa, oc, aa, ac, rfl, hx, c0, c1, h0, h1⟩
/-- Are a signature's parts few? -/
def fewP (ps : List Prt) : Bool := decide (∀ j, j < ps.length → (ps.getD j ([], [])).1.length ≤ 100 ∧ (ps.getD j ([], [])).2.length ≤ 100) && decide (ps.length ≤ 20)
theorem fewP_bad {ps : List Prt} {k : Nat} (hk : k < ps.length) (h : ¬ ((ps.getD k ([], [])).1.length ≤ 100 ∧ (ps.getD k ([], [])).2.length ≤ 100)) : fewP ps = false := by
  unfold fewP
  rw [decide_eq_false (fun hh => h (hh k hk))]
  rfl
theorem fewP_good {ps : List Prt} (h : ∀ j, j < ps.length → (ps.getD j ([], [])).1.length ≤ 100 ∧ (ps.getD j ([], [])).2.length ≤ 100) : fewP ps = decide (ps.length ≤ 20) := by
  unfold fewP
  rw [decide_eq_true h]
  rfl
set_option maxHeartbeats 4000000 in
theorem reffew_any (i : Int) (r : List Int) (a : Option Addr) (n c : Nat) (ps : List Prt) (w : World) (hr : Dg r) (hP : PartsAt w a n c ps) :
    Calls Tryd.prog 49 #[.agg (sigC i r (.slice a n c)).toArray] w fun e w' => e = .returned (.bool (fewP ps)) ∧ Below w.heap.size w w' := by
  have hmx := hP.max
  have hle := hP.le
  have b1 := (Below.refl w.heap.size w).alloc (Nat.le_refl _) (.cells (sigC i r (.slice a n c)).toArray 75 (0, 0))
  have Kg := hid (Blk.new (w := w) (n := w.heap.size) rfl (sigC i r (.slice a n c)).toArray 75)
  have Hb := hid b1
  have hbz := b1.size
  have Hbs := hid (show w.heap.size + 1 = (w.alloc (.cells (sigC i r (.slice a n c)).toArray 75 (0, 0))).heap.size by simp only [World.size_alloc])
  clear b1 
  go_enter Tryd.func49, Tryd.ntmps49
  go_wp2_with fail
  go_loopw [3] (fun iv wr => ∃ k : Nat, k ≤ n ∧ iv = .int .i64 k ∧ Blk wr (w.heap.size) (sigC i r (.slice a n c)).toArray 75 ∧ Below w.heap.size w wr ∧ ∀ j, j < k → (ps.getD j ([], [])).1.length ≤ 100 ∧ (ps.getD j ([], [])).2.length ≤ 100) (fun iv _ => n - (intOf iv).toNat)
  case atStart => exact ⟨0, Nat.zero_le _, rfl, Kg.out, Hb.out, fun j hj => absurd hj (by omega)⟩
  case round =>
    obtain ⟨k, hk, rfl, kg, bel, hall⟩ := hrel
    have Kgwr := hid kg
    have HBwr := hid bel
    have hswr := bel.size
    have Hall := hid hall
    have g33 := sigC_parts hr kg
    clear kg bel hall
    by_cases hlt : k < n
    · have hc0 : (k : Int) < n := by omega
      obtain ⟨x, o, oa, oc, aa, ac, rfl, hpc⟩ := (hP.below HBwr.out).part hlt
      have HPC := hid hpc
      have p0 := hpc.c0
      have p1 := hpc.c1
      clear hpc
      have hkl : k < ps.length := by rw [hP.length]; exact hlt
      have Hbad := hid (fewP_bad hkl)
      obtain ⟨q, hq⟩ : ∃ q, ps.getD k ([], []) = q := ⟨_, rfl⟩
      have Hq := hid hq
      rw [hq] at Hbad HPC p0 p1
      clear hq
      by_cases h1 : q.1.length ≤ 100
      · have hd1 : ¬ (100 : Int) < q.1.length := by omega
        by_cases h2 : q.2.length ≤ 100
        · have hd2 : ¬ (100 : Int) < q.2.length := by omega
          go_wp2_with (refine wpList_index_s 2 (by first | rfl | go_simp) 73 _ _ rfl Tryd.underlying73 size_part x (o) (n) (c) rfl _ _ rfl k (by omega) (by omega) ?_)
          exact ⟨⟨k + 1, by omega, by first | rfl | simp, Kgwr.out, HBwr.out, fun j hj => by
            by_cases hjk : j = k
            · subst hjk; rw [Hq.out]; exact ⟨h1, h2⟩
            · exact Hall.out j (by omega)⟩, by simp [intOf]; omega⟩
        · have hd2 : (100 : Int) < q.2.length := by omega
          go_wp2_with (refine wpList_index_s 2 (by first | rfl | go_simp) 73 _ _ rfl Tryd.underlying73 size_part x (o) (n) (c) rfl _ _ rfl k (by omega) (by omega) ?_)
          go_returns
          exact ⟨by rw [Hbad.out (fun h => h2 h.2)]; rfl, HBwr.out⟩
      · have hd1 : (100 : Int) < q.1.length := by omega
        go_wp2_with (refine wpList_index_s 2 (by first | rfl | go_simp) 73 _ _ rfl Tryd.underlying73 size_part x (o) (n) (c) rfl _ _ rfl k (by omega) (by omega) ?_)
        go_returns
        exact ⟨by rw [Hbad.out (fun h => h1 h.1)]; rfl, HBwr.out⟩
    · obtain rfl : k = n := by omega
      have hc0 : ¬ ((k : Int) < k) := by omega
      have hl := hP.length
      go_wp2_with fail
      go_returns
      exact ⟨by rw [fewP_good (fun j hj => Hall.out j (by omega)), hl]; simp; omega, HBwr.out⟩
end Go.Proofs.YtjkfbeillmeomaaDoor
