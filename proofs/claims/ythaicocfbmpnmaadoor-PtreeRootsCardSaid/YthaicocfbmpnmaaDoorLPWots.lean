/-
  Wots, WotsP, WotsQ, WotsR, WotsS: one text.
-/
import Derived.Test.YthaicocfbmpnmaaDoorLPLt
import Derived.Test.YthaicocfbmpnmaaDoorLMChain
import Derived.Test.YthaicocfbmpnmaaDoorLMDigits
namespace Go.Proofs.YthaicocfbmpnmaaDoor
open Go.ChangeShapes Go.WideShapes Go.ChangeAt Go.RowKit

def rowW (P : Nat → List Int) : List (List Int) := (List.range 67).map P
def fillW (P : Nat → List Int) (k : Nat) : List (List Int) := (List.range k).map P ++ List.replicate (67 - k) zD
theorem fillW_length {P : Nat → List Int} {k : Nat} (h : k ≤ 67) : (fillW P k).length = 67 := by
  simp only [fillW, List.length_append, List.length_map, List.length_range, List.length_replicate]
  omega
theorem fillW_each {P : Nat → List Int} (h : ∀ i, Dg (P i)) (k : Nat) : ∀ d ∈ fillW P k, Dg d := fun d hd => by
  unfold fillW at hd
  rcases List.mem_append.1 hd with hd | hd
  · obtain ⟨i, _, rfl⟩ := List.mem_map.1 hd
    exact h i
  · exact zRow _ d hd
theorem fillW_set {P : Nat → List Int} {k : Nat} (h : k < 67) : (fillW P k).set k (P k) = fillW P (k + 1) := by
  unfold fillW
  rw [List.set_append_right _ _ (by simp), show 67 - k = (67 - (k + 1)) + 1 by omega, List.replicate_succ, List.range_succ, List.map_append]
  simp
theorem fillW_zero (P : Nat → List Int) : fillW P 0 = List.replicate 67 zD := by simp [fillW]
theorem fillW_done (P : Nat → List Int) : fillW P 67 = rowW P := by simp [fillW, rowW]
theorem rowW_length (P : Nat → List Int) : (rowW P).length = 67 := by simp [rowW]
theorem rowW_each {P : Nat → List Int} (h : ∀ i, Dg (P i)) : ∀ d ∈ rowW P, Dg d := fun d hd => by
  obtain ⟨i, _, rfl⟩ := List.mem_map.1 hd
  exact h i
theorem rowW_get (P : Nat → List Int) {i : Nat} (h : i < 67) : (rowW P).getD i [] = P i := by
  simp [rowW, h]
theorem enter_run {P : Program} {f : FuncId} {fn : Func} {c : Code} (hf : P.funcs[f]? = some fn) (hname : (fn.name == "runtime.NumGoroutine") = false) (hb : fn.body = some c) (args : Array Value) (w : World) :
    (callFunc f args).run P w = .ok (.enter f args) w := by
  have h1 : fn.name ≠ "runtime.NumGoroutine" := by simpa using hname
  simp [callFunc, hf, h1, hb]

end Go.Proofs.YthaicocfbmpnmaaDoor

namespace Go.Proofs.YthaicocfbmpnmaaDoor
open Go.ChangeShapes Go.WideShapes Go.ChangeAt Go.RowKit

section
variable {P : Program} {ops : Array Oper} {rest : List Oper} {op : Oper} {a : Act} {w : World} {Q : Exit → Act → World → Prop}
theorem run_load_one {ty : TypeId} {ad : Addr} {v : Value} (w' : World) (hk : w'.cell? ad = some v) (d : TypeDesc) (hu : P.underlying ty = some d) (hd : d.isRow = false) : (loadVar ty ad).run P w' = .ok v w' := by
  have hagg : (isAgg ty).run P w' = .ok false w' := by
    unfold isAgg
    rw [Sem.run_bind, run_underlying hu w']
    cases d <;> simp_all
  simp [loadVar, Sem.run_bind, hagg, hk]
theorem quiet_load_one {C : World → Prop} {K : Act → Prop} (ty : TypeId) (x : Operand) (ho : op.op = .load ty x) (ad : Addr) (hx : a.eval x = .pointer (some ad)) (v : Value)
    (hk : ∀ w', C w' → w'.cell? ad = some v) (d : TypeDesc) (hu : P.underlying ty = some d) (hd : d.isRow = false)
    (h : K (a.put op.dst v)) : op.quiet P a C K :=
  ⟨v, fun w' hw' => by
    unfold Oper.quietAt execOp
    simp only [ho, hx, Instr.loadAt, Instr.sureAddr, Sem.run_bind, Sem.run_pure, Result.andThen_ok, run_load_one w' (hk w' hw') d hu hd]
    simp [Oper.quietUpon], h⟩
end

theorem digits_small {m : List Int} (h : Dg m) : ∀ x ∈ digits m, 0 ≤ x ∧ x ≤ 15 := fun x hx => by
  have hs := short_bounds (dig m) (dig_small m h.small)
  unfold digits at hx
  rcases List.mem_append.1 hx with hx | hx
  · exact dig_small m h.small x hx
  · simp only [List.mem_cons, List.not_mem_nil, or_false] at hx
    omega
/-- The digit at a place. -/
def dgN (m : List Int) (i : Nat) : Nat := ((digits m).getD i 0).toNat
theorem dgN_le {m : List Int} (h : Dg m) (i : Nat) : dgN m i ≤ 15 := by
  unfold dgN
  by_cases hi : i < (digits m).length
  · rw [List.getD_eq_getElem?_getD, List.getElem?_eq_getElem hi, Option.getD_some]
    have := digits_small h _ (List.getElem_mem hi)
    omega
  · rw [List.getD_eq_getElem?_getD, List.getElem?_eq_none (by omega), Option.getD_none]
    omega
theorem dgN_eq {m : List Int} (h : Dg m) {i : Nat} (hi : i < 67) : (digits m).getD i 0 = (dgN m i : Int) := by
  unfold dgN
  have hl := digits_length m h.len
  rw [List.getD_eq_getElem?_getD, List.getElem?_eq_getElem (by omega), Option.getD_some]
  have := digits_small h _ (List.getElem_mem (show i < (digits m).length by omega))
  omega

def partZ (seed ad : List Int) (i : Nat) : List Int := atZ seed (setAd ad i 0 0)
def pubP (seed pub ad : List Int) (i : Nat) : List Int := runZ pub (setAd ad i 0 0) (partZ seed ad i) 0 15
def sigP (m seed pub ad : List Int) (i : Nat) : List Int := runZ pub (setAd ad i 0 0) (partZ seed ad i) 0 (dgN m i)
def fromP (l : List (List Int)) (m pub ad : List Int) (i : Nat) : List Int := runZ pub (setAd ad i 0 0) (l.getD i zD) (dgN m i) (15 - dgN m i)
theorem Dg.part (seed ad : List Int) (i : Nat) : Dg (partZ seed ad i) := Dg.at_ _ _
theorem Dg.pubP (seed pub ad : List Int) (i : Nat) : Dg (pubP seed pub ad i) := Dg.run (Dg.part _ _ _) _ _
theorem Dg.sigP (m seed pub ad : List Int) (i : Nat) : Dg (sigP m seed pub ad i) := Dg.run (Dg.part _ _ _) _ _
theorem Dg.getZ {l : List (List Int)} (h : ∀ d ∈ l, Dg d) (i : Nat) : Dg (l.getD i zD) := by
  by_cases hi : i < l.length
  · rw [List.getD_eq_getElem?_getD, List.getElem?_eq_getElem hi, Option.getD_some]
    exact h _ (List.getElem_mem hi)
  · rw [List.getD_eq_getElem?_getD, List.getElem?_eq_none (by omega), Option.getD_none]
    exact Dg.zero
theorem Dg.fromP {l : List (List Int)} (h : ∀ d ∈ l, Dg d) (m pub ad : List Int) (i : Nat) : Dg (fromP l m pub ad i) := Dg.run (Dg.getZ h i) _ _
theorem getZ {l : List (List Int)} {i : Nat} (h : i < l.length) : l.getD i zD = l.getD i [] := by
  simp [h]

end Go.Proofs.YthaicocfbmpnmaaDoor

namespace Go.Proofs.YthaicocfbmpnmaaDoor
open Go.ChangeShapes Go.WideShapes Go.ChangeAt Go.RowKit

theorem makeFunc_run (fn : Fn) (first cap : Array Value) (w : World) : (Instr.makeFunc fn first cap).run Tryd.prog w = .ok (.func fn first cap) w := rfl

section
variable {P : Program} {ops : Array Oper} {rest : List Oper} {op : Oper} {a : Act} {w : World} {Q : Exit → Act → World → Prop}
theorem wpList_load_slice_blk (hgd : op.guard = none) (ty : TypeId) (x : Operand) (ho : op.op = .load ty x) (b : Nat) (hx : a.eval x = .pointer (some ⟨b, 0, none⟩)) (sa : Option Addr) (n c : Nat) (T : TypeId) (hk : Blk w b #[.slice sa n c] T)
    {e : TypeId} (hu : P.underlying ty = some (.slice e)) (h : wpList P ops Q rest (a.put op.dst (.slice sa n c)) w) : wpList P ops Q (op :: rest) a w :=
  wpList_plain hgd fun K hK => by
    have hc : w.cell? ⟨b, 0, none⟩ = some (.slice sa n c) := by rw [hk.cell]; rfl
    unfold Oper.wp execOp
    simp only [ho, hx, Instr.loadAt, Instr.sureAddr, Sem.run_bind, Sem.run_pure, Result.andThen_ok, run_load_one w hc _ hu rfl, Oper.upon_value]
    exact hK _ _ h
end

end Go.Proofs.YthaicocfbmpnmaaDoor

namespace Go.Proofs.YthaicocfbmpnmaaDoor
open Go.ChangeShapes Go.WideShapes Go.ChangeAt Go.RowKit

def preW (P : Nat → List Int) (k : Nat) : List (List Int) := (List.range k).map P
theorem preW_succ (P : Nat → List Int) (k : Nat) : preW P (k + 1) = preW P k ++ [P k] := by
  unfold preW
  rw [List.range_succ, List.map_append]
  rfl
theorem preW_length (P : Nat → List Int) (k : Nat) : (preW P k).length = k := by simp [preW]
theorem preW_full (P : Nat → List Int) : preW P 67 = rowW P := rfl
/-- A row of digests, wherever it lies. -/
def RowV (n : Nat) (ds : List (List Int)) (v : Value) (w : World) : Prop := ∃ a cap, v = .slice a n cap ∧ DigsAt w a n cap ds
theorem RowV.below {n : Nat} {ds : List (List Int)} {v : Value} {w w' : World} (h : RowV n ds v w) (hb : Below w.heap.size w w') : RowV n ds v w' := by
  obtain ⟨a, c, h1, h2⟩ := h
  exact ⟨a, c, h1, h2.below hb⟩
theorem RowV.of_own {w : World} {base n : Nat} {e : TypeId} {v : Value} {ds : List (List Int)} (h : OwnD w base e v ds) (hn : ds.length = n) : RowV n ds v w := by
  subst hn
  obtain ⟨a, c, h1, h2, _⟩ := h.digs
  exact ⟨a, c, h1, h2⟩
theorem RowV.of_blk {w : World} {g : Nat} {T : TypeId} {ds : List (List Int)} (h : Blk w g (dcs ds) T) (hd : ∀ d ∈ ds, Dg d) (n : Nat) (hn : ds.length = n) (hm : n ≤ 9223372036854775807) : RowV n ds (.slice (some ⟨g, 0, none⟩) n n) w := by
  subst hn
  exact ⟨_, _, rfl, DigsAt.of_blk h hd rfl (Nat.le_refl _) hm⟩
theorem RowV.digs {w : World} {a : Option Addr} {n c m : Nat} {ds : List (List Int)} (h : RowV m ds (.slice a n c) w) : n = m ∧ DigsAt w a n c ds := by
  obtain ⟨a', c', h1, h2⟩ := h
  injection h1 with h3 h4 h5
  subst h3 h4 h5
  exact ⟨rfl, h2⟩
/-- 67 numbers, wherever they lie. -/
def IntV (F : Nat → Nat) (v : Value) (w : World) : Prop := ∃ g cap, v = .slice (some ⟨g, 0, none⟩) 67 cap ∧ g < w.heap.size ∧ ∀ i, i < 67 → w.cell? ⟨g, i, none⟩ = some (.int .i64 (F i : Int))
theorem IntV.below {F : Nat → Nat} {v : Value} {w w' : World} (h : IntV F v w) (hb : Below w.heap.size w w') : IntV F v w' := by
  obtain ⟨g, c, h1, h2, h3⟩ := h
  exact ⟨g, c, h1, Nat.lt_of_lt_of_le h2 hb.size, fun i hi => (hb.cell h2).trans (h3 i hi)⟩
theorem IntV.ints {F : Nat → Nat} {g cap : Nat} {w : World} (h : IntV F (.slice (some ⟨g, 0, none⟩) 67 cap) w) : g < w.heap.size ∧ ∀ i, i < 67 → w.cell? ⟨g, i, none⟩ = some (.int .i64 (F i : Int)) := by
  obtain ⟨g', c', h1, h2, h3⟩ := h
  injection h1 with h4
  injection h4 with h4
  injection h4 with h4
  subst h4
  exact ⟨h2, h3⟩
theorem IntV.of_own {F : Nat → Nat} {w : World} {base g cap : Nat} {e : TypeId} {l : List Value} (h : w.ownsRow base e 1 (.slice (some ⟨g, 0, none⟩) 67 cap) 67 l) (hl : ∀ i, i < 67 → l[i]? = some (.int .i64 (F i : Int))) : IntV F (.slice (some ⟨g, 0, none⟩) 67 cap) w := by
  obtain ⟨_, ⟨h1, h2⟩ | ⟨g', cap', cur, h1, _, hh, _, _, _, htk⟩⟩ := h
  · omega
  · injection h1 with h4
    injection h4 with h4
    injection h4 with h4
    subst h4
    refine ⟨g, cap, rfl, (Array.getElem?_eq_some_iff.1 hh).1, fun i hi => ?_⟩
    have hb : Blk w g cur e := hh
    have h5 := hl i hi
    rw [hb.cell, ← h5, ← htk, List.getElem?_take_of_lt (by omega)]
    simp
theorem FlowB.ButIn.cell {S : List Nat} {w w' : World} {g i : Nat} {v : Value} (h : FlowB.ButIn S w w') (hx : g < w.heap.size) (hb : g ∉ S) (k : w.cell? ⟨g, i, none⟩ = some v) : w'.cell? ⟨g, i, none⟩ = some v := by
  rw [← k]
  unfold World.cell?
  rw [h.block g hx hb]

end Go.Proofs.YthaicocfbmpnmaaDoor

namespace Go.Proofs.YthaicocfbmpnmaaDoor
open Go.ChangeShapes Go.WideShapes Go.ChangeAt Go.RowKit

set_option maxHeartbeats 4000000 in
set_option maxRecDepth 100000 in
theorem same_any (a1 a2 : Option Addr) (n c1 c2 : Nat) (ds : List (List Int)) (w : World) (h1 : DigsAt w a1 n c1 ds) (h2 : DigsAt w a2 n c2 ds) :
    Calls Tryd.prog 12 #[.slice a1 n c1, .slice a2 n c2] w fun e w' => e = .returned (.bool true) ∧ Below w.heap.size w w' := by
  have HN1 := hid h1
  have HN2 := hid h2
  have hle1 := h1.le
  have hmx1 := h1.max
  have hle2 := h2.le
  have hmx2 := h2.max
  clear h1 h2
  go_enter Tryd.func12, Tryd.ntmps12
  go_wp2_with fail
  go_loopw [5] (fun iv wr => ∃ k : Nat, k ≤ n ∧ iv = .int .i64 k ∧ Below w.heap.size w wr) (fun iv _ => n - (intOf iv).toNat)
  case atStart => exact ⟨0, Nat.zero_le _, rfl, Below.refl _ _⟩
  case round =>
    obtain ⟨k, hk, rfl, bel⟩ := hrel
    have HB := hid bel
    clear bel
    by_cases hlt : k < n
    · have hc0 : (k : Int) < n := by omega
      have HX := hid (HN1.out.get (j := k) hlt)
      obtain ⟨xs, xo, rfl, hxs, hcell⟩ := (HN1.out.below HB.out).at_ (by omega)
      obtain ⟨ys, yo, rfl, hys, hcell2⟩ := (HN2.out.below HB.out).at_ (by omega)
      have Hc := hid (hcell k hlt)
      have Hd := hid (hcell2 k hlt)
      clear hcell hcell2
      generalize ds.getD k [] = X at *
      have q1 := fun W => neD_self X HX.out.len W
      go_wp2_with fail
      refine wp_region_flow 9 (List.range 9) [] [] (by kernel_rfl) (by kernel_rfl) ?_
      apply Exists.intro
      refine ⟨fun w0 hb0 hF0 => ?_, ?_⟩
      · skip
        have x0 : ∀ w', (∃ x : Ext w0, w' = x.at_) → w'.rangeAt xs (xo + k * 32) (X.map (Value.int .u8)) := fun w' ⟨x, hx⟩ => hx ▸ rangeAt_below (rangeAt_below Hc.out hxs hb0) (Nat.lt_of_lt_of_le hxs hb0.size) x.same
        have x1 : ∀ w', (∃ x : Ext w0, w' = x.at_) → w'.rangeAt ys (yo + k * 32) (X.map (Value.int .u8)) := fun w' ⟨x, hx⟩ => hx ▸ rangeAt_below (rangeAt_below Hd.out hys hb0) (Nat.lt_of_lt_of_le hys hb0.size) x.same
        simp only [pick, List.range, List.range.loop, List.getElem?_toArray, List.getElem?_cons_succ, List.getElem?_cons_zero, Option.toList_some, List.cons_append, List.nil_append]
        repeat (first | (go_big_quiet_want; refine quiet_index_digs 27 _ _ rfl Tryd.underlying27 size_digest xs xo n c1 rfl _ _ rfl k (by omega) (by omega) ?_; go_big_quiet_on; simp only [Act.put, List.setIfInBounds_toArray, List.set_cons_zero, List.set_cons_succ]) | (go_big_quiet_want; refine quiet_index_digs 27 _ _ rfl Tryd.underlying27 size_digest ys yo n c2 rfl _ _ rfl k (by omega) (by omega) ?_; go_big_quiet_on; simp only [Act.put, List.setIfInBounds_toArray, List.set_cons_zero, List.set_cons_succ]) | (go_big_quiet_want; refine quiet_load_mid 23 _ rfl xs (xo + k * 32) rfl _ x0 _ Tryd.underlying23 rfl (by rw [List.length_map, HX.out.len]; exact size_digest) ?_; go_big_quiet_on; simp only [Act.put, List.setIfInBounds_toArray, List.set_cons_zero, List.set_cons_succ]) | (go_big_quiet_want; refine quiet_load_mid 23 _ rfl ys (yo + k * 32) rfl _ x1 _ Tryd.underlying23 rfl (by rw [List.length_map, HX.out.len]; exact size_digest) ?_; go_big_quiet_on; simp only [Act.put, List.setIfInBounds_toArray, List.set_cons_zero, List.set_cons_succ]) | (go_big_quiet_want; refine quiet_cmp _ _ rfl _ _ _ rfl rfl q1 ?_; go_big_quiet_on; simp only [Act.put, List.setIfInBounds_toArray, List.set_cons_zero, List.set_cons_succ]) | go_big_quiet_step (fail))
        exact wpQuiet_nil rfl
      refine AlChk.nil ?_
      refine Walk.fin fun w5 h5 _ _ => ?_
      simp only [List.drop_succ_cons, List.drop_zero]
      have HB5 := hid (Below.on HB.out h5)
      clear h5
      go_wp2_with fail
      exact ⟨⟨k + 1, by omega, by go_num, HB5.out⟩, by simp [intOf]; omega⟩
    · have hkn : k = n := by omega
      subst hkn
      go_wp2_with fail
      go_returns
      exact ⟨rfl, HB.out⟩
end Go.Proofs.YthaicocfbmpnmaaDoor
