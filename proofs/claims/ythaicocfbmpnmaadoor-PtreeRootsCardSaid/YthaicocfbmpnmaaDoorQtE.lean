/-
  Layer 17: a map with indices as keys.
-/
import Derived.Test.YthaicocfbmpnmaaDoorQtA
namespace Go.Proofs.YthaicocfbmpnmaaDoor
open Go.ChangeShapes Go.WideShapes Go.ChangeAt Go.RowKit
open Go.WideMaps (KeyLaw)
open Go.ChangeMaps (setBlock)

theorem mapM_some {α β : Type} (f : α → Option β) : ∀ (l : List α), (∀ x ∈ l, ∃ y, f x = some y) → ∃ ys, l.mapM f = some ys
  | [], _ => ⟨[], rfl⟩
  | x :: l, h => by
    obtain ⟨y, hy⟩ := h x (by simp)
    obtain ⟨ys, hys⟩ := mapM_some f l (fun z hz => h z (by simp [hz]))
    exact ⟨y :: ys, by simp [List.mapM_cons, hy, hys]⟩
set_option maxRecDepth 100000 in
theorem key_any {d : List Int} (hd : Dg d) : ∃ kl, keyOf Tryd.prog 23 (.agg (d.map (Value.int .u8)).toArray) = some kl := by
  have c32 : Tryd.prog.cellsOf 23 = 32 := by kernel_rfl
  have c1 : Tryd.prog.cellsOf 5 = 1 := by kernel_rfl
  have hk : Tryd.prog.keyType 23 = true := by kernel_rfl
  have hf : (Value.agg (d.map (Value.int .u8)).toArray).formed Tryd.prog 23 = true := by
    unfold Value.formed
    rw [Tryd.underlying23]
    simp [c32, hd.len]
  obtain ⟨n, hn⟩ : ∃ n, Tryd.prog.types.size + 1 = n + 2 := ⟨Tryd.prog.types.size - 1, by have := Nat.lt_of_le_of_lt (Nat.zero_le _) dig_row; omega⟩
  unfold keyOf
  rw [Tryd.underlying23, hn]
  simp only [hk, hf, Bool.and_self, if_true]
  unfold Program.keyLits
  rw [Tryd.underlying23]
  have hl : (Value.agg (d.map (Value.int .u8)).toArray).cells.toList = d.map (Value.int .u8) := rfl
  rw [hl]
  simp only [List.length_map, hd.len, c32, c1, if_true, Nat.mul_one]
  obtain ⟨ys, hys⟩ := mapM_some (fun i => Tryd.prog.keyLits (n + 1) 5 (((d.map (Value.int .u8)).drop i).take 1)) (List.range 32) (fun i hi => by
    have hi : i < d.length := by rw [hd.len]; exact List.mem_range.1 hi
    have hx := hd.small _ (List.getElem_mem hi)
    rw [List.drop_eq_getElem_cons (by rw [List.length_map]; exact hi), List.getElem_map]
    unfold Program.keyLits
    rw [Tryd.underlying5]
    refine ⟨_, if_pos ⟨rfl, ?_⟩⟩
    simp [Lit.wf, IntKind.min, IntKind.max, IntKind.bits, IntKind.signed]
    omega)
  rw [hys]
  exact ⟨_, rfl⟩

/-- The entries of a map that counts indices. -/
def entM (m : List (List Int × Int)) : List MapEntry := m.zipIdx.map fun p => ⟨.agg (p.1.1.map (Value.int .u8)).toArray, .int .i64 p.1.2, p.2⟩
/-- The map in block r. -/
def MapM (r : Nat) (m : List (List Int × Int)) (w : World) : Prop := w.heap[r]? = some (.map (entM m).toArray m.length)
/-- How often it says that an index came. -/
def cntM (m : List (List Int × Int)) (d : List Int) : Int := match m.find? fun x => decide (x.1 = d) with | some x => x.2 | none => 0
theorem entM_get (m : List (List Int × Int)) (j : Nat) : (entM m)[j]? = (m[j]?).map fun x => ⟨.agg (x.1.map (Value.int .u8)).toArray, .int .i64 x.2, j⟩ := by
  unfold entM
  rw [List.getElem?_map, List.getElem?_zipIdx, Option.map_map]
  simp only [Nat.zero_add]
  cases m[j]? <;> rfl
theorem entM_length (m : List (List Int × Int)) : (entM m).length = m.length := by simp [entM]
theorem entM_mem {m : List (List Int × Int)} {e : MapEntry} (h : e ∈ entM m) : ∃ j x, m[j]? = some x ∧ e = ⟨.agg (x.1.map (Value.int .u8)).toArray, .int .i64 x.2, j⟩ := by
  obtain ⟨j, hj⟩ := List.mem_iff_getElem?.1 h
  rw [entM_get] at hj
  obtain ⟨x, hx, rfl⟩ := Option.map_eq_some_iff.1 hj
  exact ⟨j, x, hx, rfl⟩
theorem entM_ext {l : List MapEntry} {m : List (List Int × Int)} (h : ∀ j : Nat, l[j]? = (m[j]?).map fun x => (⟨.agg (x.1.map (Value.int .u8)).toArray, .int .i64 x.2, j⟩ : MapEntry)) : l = entM m := by
  apply List.ext_getElem?
  intro j
  rw [h, entM_get]
theorem dig_inj {a b : List Int} (h : Value.agg (a.map (Value.int .u8)).toArray = .agg (b.map (Value.int .u8)).toArray) : a = b := by
  have h1 := congrArg Array.toList (Value.agg.inj h)
  exact (List.map_inj_right (fun x y e => (Value.int.inj e).2)).1 h1
theorem entM_keys {m : List (List Int × Int)} (hm : ∀ x ∈ m, Dg x.1) : ∀ e ∈ entM m, ∃ l, keyOf Tryd.prog 23 e.key = some l := fun e he => by
  obtain ⟨j, x, hx, rfl⟩ := entM_mem he
  exact key_any (hm x (List.mem_of_getElem? hx))
theorem cntM_none {m : List (List Int × Int)} {d : List Int} (h : d ∉ m.map Prod.fst) : cntM m d = 0 := by
  unfold cntM
  rw [List.find?_eq_none.2 (fun x hx => by
    simp only [decide_eq_true_eq]
    exact fun e => h (List.mem_map.2 ⟨x, hx, e⟩))]
theorem cntM_at {m : List (List Int × Int)} (hn : (m.map Prod.fst).Nodup) {j : Nat} {x : List Int × Int} (hx : m[j]? = some x) : cntM m x.1 = x.2 := by
  induction m generalizing j with
  | nil => simp at hx
  | cons y l ih =>
    rw [List.map_cons, List.nodup_cons] at hn
    unfold cntM
    cases j with
    | zero =>
      rw [List.getElem?_cons_zero, Option.some.injEq] at hx
      subst hx
      rw [List.find?_cons_of_pos (by simp)]
    | succ j =>
      rw [List.getElem?_cons_succ] at hx
      have hne : ¬ y.1 = x.1 := fun e => hn.1 (List.mem_map.2 ⟨x, List.mem_of_getElem? hx, e.symm⟩)
      rw [List.find?_cons_of_neg (by simpa using hne)]
      exact ih hn.2 hx
/-- Where an index stands, or nowhere. -/
theorem find_m {m : List (List Int × Int)} (hm : ∀ x ∈ m, Dg x.1) {d : List Int} (hd : Dg d) {kl : Lit} (hkey : keyOf Tryd.prog 23 (.agg (d.map (Value.int .u8)).toArray) = some kl) (w : World) :
    ((Instr.findKey 23 (.agg (d.map (Value.int .u8)).toArray) (entM m)).run Tryd.prog w = .ok none w ∧ d ∉ m.map Prod.fst) ∨ ∃ j v, (Instr.findKey 23 (.agg (d.map (Value.int .u8)).toArray) (entM m)).run Tryd.prog w = .ok (some (j, .int .i64 v)) w ∧ m[j]? = some (d, v) := by
  rcases digLaw.find w hkey (entM m) (entM_keys hm) with ⟨h1, h2⟩ | ⟨j, e0, h1, h2, h3⟩
  · refine .inl ⟨h1, fun hc => ?_⟩
    obtain ⟨x, hx, rfl⟩ := List.mem_map.1 hc
    obtain ⟨j, hj⟩ := List.mem_iff_getElem?.1 hx
    have := entM_get m j
    rw [hj] at this
    exact h2 _ (List.mem_of_getElem? this) rfl
  · rw [entM_get] at h2
    obtain ⟨x, hx, rfl⟩ := Option.map_eq_some_iff.1 h2
    have := dig_inj h3
    subst this
    exact .inr ⟨j, x.2, h1, hx⟩
theorem run_lookup_m {r : Nat} {m : List (List Int × Int)} (hm : ∀ x ∈ m, Dg x.1) (hn : (m.map Prod.fst).Nodup) {d : List Int} (hd : Dg d) {w : World} (h : MapM r m w) :
    (Instr.lookup 117 (.map (some r)) (.agg (d.map (Value.int .u8)).toArray) false).run Tryd.prog w = .ok (.int .i64 (cntM m d)) w := by
  obtain ⟨kl, hkey⟩ := key_any hd
  rcases find_m hm hd hkey w with ⟨h1, h2⟩ | ⟨j, v, h1, h2⟩
  · rw [cntM_none h2]
    simp [Instr.lookup, run_underlying Tryd.underlying117, MapKept.run_getObj_map h, Result.andThen]
    rw [digLaw.check w _ hkey]
    simp only [h1]
    exact int_zero w
  · rw [cntM_at hn h2]
    simp [Instr.lookup, run_underlying Tryd.underlying117, MapKept.run_getObj_map h, Result.andThen]
    rw [digLaw.check w _ hkey]
    simp only [h1]
    rfl
/-- .. with a place for an index, new or not. -/
def putM (m : List (List Int × Int)) (d : List Int) : List (List Int × Int) := if d ∈ m.map Prod.fst then m else m ++ [(d, 0)]
theorem putM_new {m : List (List Int × Int)} {d : List Int} (h : d ∉ m.map Prod.fst) : putM m d = m ++ [(d, 0)] := if_neg h
theorem putM_old {m : List (List Int × Int)} {d : List Int} (h : d ∈ m.map Prod.fst) : putM m d = m := if_pos h
theorem entM_snoc (m : List (List Int × Int)) (d : List Int) (v : Int) : entM m ++ [⟨.agg (d.map (Value.int .u8)).toArray, .int .i64 v, m.length⟩] = entM (m ++ [(d, v)]) := entM_ext fun j => by
  rcases Nat.lt_trichotomy j m.length with h | h | h
  · rw [List.getElem?_append_left (by rw [entM_length]; exact h), List.getElem?_append_left h, entM_get]
  · subst h
    rw [List.getElem?_append_right (by rw [entM_length]; exact Nat.le_refl _), List.getElem?_append_right (Nat.le_refl _), entM_length, Nat.sub_self]
    rfl
  · rw [List.getElem?_eq_none (by rw [List.length_append, entM_length]; simp; omega), List.getElem?_eq_none (by simp; omega)]
    rfl
theorem run_mapEntry_m {r : Nat} {m : List (List Int × Int)} (hm : ∀ x ∈ m, Dg x.1) (hn : (m.map Prod.fst).Nodup) {d : List Int} (hd : Dg d) {w : World} (h : MapM r m w) :
    ∃ j : Nat, (putM m d)[j]? = some (d, cntM m d) ∧ (Instr.mapEntry 117 (.map (some r)) (.agg (d.map (Value.int .u8)).toArray)).run Tryd.prog w = .ok (.tuple #[.int .i64 (cntM m d), .int .i64 j]) (setBlock w r (.map (entM (putM m d)).toArray (putM m d).length)) := by
  obtain ⟨kl, hkey⟩ := key_any hd
  rcases find_m hm hd hkey w with ⟨h1, h2⟩ | ⟨j, v, h1, h2⟩
  · refine ⟨m.length, by rw [putM_new h2, cntM_none h2, List.getElem?_append_right (Nat.le_refl _), Nat.sub_self]; rfl, ?_⟩
    rw [putM_new h2, cntM_none h2, ← entM_snoc]
    simp [Instr.mapEntry, run_underlying Tryd.underlying117, MapKept.run_getObj_map h, digLaw.check w false hkey, h1, MapKept.run_setObj_map _ h, Result.andThen, setBlock, goInt]
  · have ho : d ∈ m.map Prod.fst := List.mem_map.2 ⟨_, List.mem_of_getElem? h2, rfl⟩
    have hc : cntM m d = v := cntM_at hn h2
    refine ⟨j, by rw [putM_old ho, hc]; exact h2, ?_⟩
    rw [putM_old ho, hc]
    have he := entM_get m j
    rw [h2] at he
    have hmod : (entM m).modify j (fun e => { e with key := .agg (d.map (Value.int .u8)).toArray }) = entM m := by
      apply List.ext_getElem?
      intro i
      rw [List.getElem?_modify]
      by_cases hi : j = i
      · subst hi
        rw [he]
        simp
      · simp [hi]
    simp [Instr.mapEntry, run_underlying Tryd.underlying117, MapKept.run_getObj_map h, digLaw.check w false hkey, h1, Result.andThen, setBlock, goInt]
    rw [he]
    simp only [Option.map_some, Option.getD_some]
    rw [digLaw.stays w hkey]
    simp only [hmod]
    rw [MapKept.run_setObj_map _ h]
theorem entM_set {m : List (List Int × Int)} {j : Nat} {d : List Int} {v : Int} (h : m[j]? = some (d, v)) (u : Int) : (entM m).modify j (fun e => { e with val := .int .i64 u }) = entM (m.set j (d, u)) := by
  apply entM_ext
  intro i
  rw [List.getElem?_modify, List.getElem?_set, entM_get]
  have hj : j < m.length := (List.getElem?_eq_some_iff.1 h).1
  by_cases hi : j = i
  · subst hi
    rw [h]
    simp [hj]
  · cases m[i]? <;> simp [hi]
theorem entM_born (m : List (List Int × Int)) : (entM m).map (·.born) = List.range m.length := by
  apply List.ext_getElem?
  intro j
  rw [List.getElem?_map, entM_get, Option.map_map]
  by_cases h : j < m.length
  · rw [List.getElem?_eq_getElem h, List.getElem?_eq_getElem (by rw [List.length_range]; exact h), List.getElem_range]
    rfl
  · rw [List.getElem?_eq_none (by omega), List.getElem?_eq_none (by rw [List.length_range]; omega)]
    rfl
theorem run_entryStore_m {r : Nat} {m : List (List Int × Int)} {w : World} (h : MapM r m w) {j : Nat} {d : List Int} {v : Int} (hj : m[j]? = some (d, v)) (u : Int) :
    (Instr.entryStore 117 (.map (some r)) (.int .i64 (j : Int)) (.int .i64 u)).run Tryd.prog w = .ok () (setBlock w r (.map (entM (m.set j (d, u))).toArray (m.set j (d, u)).length)) := by
  have he := entM_get m j
  rw [hj] at he
  have hidx : (entM m).findIdx? (fun e => ((e.born : Nat) : Int) == (j : Int)) = some j := Go.WideElems.findIdx_born (by rw [entM_born]; exact List.nodup_range) he
  have hmod := entM_set hj u
  simp [Instr.entryStore, MapKept.run_getObj_map h, asInt, asIntOf, Result.andThen, setBlock, ← hmod]
  rw [hidx]
  exact MapKept.run_setObj_map _ h
end Go.Proofs.YthaicocfbmpnmaaDoor
