/-
  Layer 19: taking digests from the end of a way.
-/
import Derived.Test.YthaicocfbmpnmaaDoorLLogE
namespace Go.Proofs.YthaicocfbmpnmaaDoor
open Go.ChangeShapes Go.WideShapes Go.ChangeAt Go.RowKit

section
variable {P : Program} {ops : Array Oper} {rest : List Oper} {op : Oper} {a : Act} {w : World} {Q : Exit → Act → World → Prop}
/-- One cell is stored. -/
theorem run_store_one {ty : TypeId} {b o : Nat} {v : Value} {cs : Array Value} {T : TypeId} (w : World) (hk : Blk w b cs T) (ho : o < cs.size) (hi : (P.info? ty).map (·.size) = some 1) (h1 : v.oneCell' = true) (hc : v.cells = #[v]) :
    (storeVar ty ⟨b, o, none⟩ v).run P w = .ok () (w.setCells b o [v]) := by
  have h := run_storeVar_mid (P := P) w b o ty #[v] (fun j hj => ⟨by
    simp only [List.size_toArray, List.length_cons, List.length_nil] at hj
    rw [hk.cell, Array.getElem?_eq_getElem (by omega)]; rfl, hk.free _⟩) (by rw [hi]; rfl) (by simp [h1])
  unfold storeVar at *
  rw [hc]
  exact h
theorem wpList_store_cell (hgd : op.guard = none) (ty : TypeId) (x y : Operand) (ho : op.op = .store ty x y) (b o : Nat) (v : Value) (hx : a.eval x = .pointer (some ⟨b, o, none⟩)) (hy : a.eval y = v) (h1 : v.oneCell' = true) (hc : v.cells = #[v])
    (cs : Array Value) (T : TypeId) (hk : Blk w b cs T) (hlt : o < cs.size) (hi : (P.info? ty).map (·.size) = some 1)
    (h : ∀ w', But b w w' → Blk w' b (cs.setIfInBounds o v) T → wpList P ops Q rest (a.put op.dst undef) w') : wpList P ops Q (op :: rest) a w :=
  wpList_plain hgd fun K hK => by
    unfold Oper.wp execOp
    simp only [ho, hx, hy, Instr.storeAt, Instr.sureAddr, Sem.run_bind, Sem.run_pure, Result.andThen_ok, run_store_one w hk hlt hi h1 hc, Oper.upon_skip]
    exact hK _ _ (h _ (But.setCells [v] o w (But.of (Below.refl _ _))) (hk.set o v))
end
theorem size_int : (Tryd.prog.info? 3).map (·.size) = some 1 := by kernel_rfl
theorem size_ldig : (Tryd.prog.info? 27).map (·.size) = some 1 := by kernel_rfl
/-- What is taken, where so many are left. -/
def takeZ (ds : List (List Int)) (left : Int) : List Int := if left - 1 < 0 then zD else ds.getD (left - 1).toNat []
theorem Dg.take {ds : List (List Int)} {left : Int} (h : ∀ d ∈ ds, Dg d) (hl : left ≤ ds.length) : Dg (takeZ ds left) := by
  unfold takeZ
  split
  · exact Dg.zero
  · exact Dg.getD h (by omega)

set_option maxHeartbeats 4000000 in
set_option maxRecDepth 100000 in
theorem take_none (bl bw : Nat) (left : Int) (ya : Option Addr) (yn yc : Nat) (w : World) (hne : bl ≠ bw) (kl : Blk w bl #[.int .i64 left] 3) (kw : Blk w bw #[.slice ya yn yc] 27) (hlo : -1000 ≤ left) (h0 : left - 1 < 0) :
    Calls Tryd.prog 87 #[.pointer (some ⟨bl, 0, none⟩), .pointer (some ⟨bw, 0, none⟩)] w fun e w' => e = .returned (.agg (zD.map (Value.int .u8)).toArray) ∧ But bl w w' ∧ Blk w' bl #[.int .i64 (left - 1)] 3 := by
  have hw1 : wrap64 (left - 1) = left - 1 := by unfold wrap64; omega
  have b1 := (Below.refl w.heap.size w).alloc (Nat.le_refl _) (.cells (byteCells 32 []) 23 (0, 0))
  have Kr := hid (Blk.new (w := w) (n := w.heap.size) rfl (byteCells 32 []) 23)
  have Hb := hid b1
  have hbz := b1.size
  have Hbs := hid (show w.heap.size + 1 = (w.alloc (.cells (byteCells 32 []) 23 (0, 0))).heap.size by simp only [World.size_alloc])
  clear b1 
  have Kl := hid (kl.below Hb.out)
  have Kw := hid (kw.below Hb.out)
  have hlt0 := kl.lt
  have hlt1 := kw.lt
  clear kl kw
  have cl : (w.alloc (.cells #[.int .u8 0, .int .u8 0, .int .u8 0, .int .u8 0, .int .u8 0, .int .u8 0, .int .u8 0, .int .u8 0, .int .u8 0, .int .u8 0, .int .u8 0, .int .u8 0, .int .u8 0, .int .u8 0, .int .u8 0, .int .u8 0, .int .u8 0, .int .u8 0, .int .u8 0, .int .u8 0, .int .u8 0, .int .u8 0, .int .u8 0, .int .u8 0, .int .u8 0, .int .u8 0, .int .u8 0, .int .u8 0, .int .u8 0, .int .u8 0, .int .u8 0, .int .u8 0] 23 (0, 0))).cell? ⟨bl, 0, none⟩ = some (.int .i64 left) := (show (w.alloc (.cells (byteCells 32 []) 23 (0, 0))).cell? ⟨bl, 0, none⟩ = some (.int .i64 left) by rw [Kl.out.cell]; rfl)
  go_enter Tryd.func87, Tryd.ntmps87
  go_wp2_with (first
     | (
        refine wpList_store_cell rfl 3 _ _ rfl bl 0 (.int .i64 (left - 1)) rfl rfl rfl rfl #[.int .i64 left] 3 Kl.out (by simp) size_int ?_
        intro w1 hb1 hk1
        have HB1 := hid hb1
        have Kl1 := hid (show Blk w1 bl #[.int .i64 (left - 1)] 3 from hk1)
        have Kr1 := hid (hb1.blk Kr.out (by omega))
        have Kw1 := hid (hb1.blk Kw.out (fun e => hne e.symm))
        have cl1 : w1.cell? ⟨bl, 0, none⟩ = some (.int .i64 (left - 1)) := by rw [Kl1.out.cell]; rfl
        have cw1 : w1.cell? ⟨bw, 0, none⟩ = some (.slice ya yn yc) := by rw [Kw1.out.cell]; rfl
        clear hb1 hk1)
     | (
        refine wpList_store_blk rfl 23 _ _ rfl (w.heap.size) (zD.map (Value.int .u8)).toArray rfl rfl _ 23 Kr1.out 32 size_digest zsize Dg.zero.size (ints_one _ _) ?_
        intro w9 hb9 hk9
        have HB9 := hid hb9
        have HK9 := hid hk9
        have Kl9 := hid (hb9.blk Kl1.out (by omega))
        clear hb9 hk9))
  exact bodyPost_ret (v := .agg (zD.map (Value.int .u8)).toArray) (results_blk Tryd.results87 _ (w.heap.size) rfl _ 23 HK9.out _ Tryd.underlying23 rfl 32 size_digest Dg.zero.size) rfl ⟨rfl, But.fresh (But.trans (But.of Hb.out) HB1.out) HB9.out (Nat.le_refl _), Kl9.out⟩

set_option maxHeartbeats 4000000 in
set_option maxRecDepth 100000 in
theorem take_some (bl bw : Nat) (x o q yn yc : Nat) (X : List Int) (w : World) (hne : bl ≠ bw) (kl : Blk w bl #[.int .i64 ((q : Int) + 1)] 3) (kw : Blk w bw #[.slice (some ⟨x, o, none⟩) yn yc] 27) (hq : q ≤ 1000000) (hqn : q < yn) (hx : x < w.heap.size) (hxl : x ≠ bl) (hc : w.rangeAt x (o + q * 32) (X.map (Value.int .u8))) (hX : Dg X) :
    Calls Tryd.prog 87 #[.pointer (some ⟨bl, 0, none⟩), .pointer (some ⟨bw, 0, none⟩)] w fun e w' => e = .returned (.agg (X.map (Value.int .u8)).toArray) ∧ But bl w w' ∧ Blk w' bl #[.int .i64 q] 3 := by
  have hw1 : wrap64 (q : Int) = (q : Int) := by unfold wrap64; omega
  have h0 : ¬ ((q : Int) < 0) := by omega
  have HX := hid hX
  have Hc := hid hc
  clear hc hX
  have b1 := (Below.refl w.heap.size w).alloc (Nat.le_refl _) (.cells (byteCells 32 []) 23 (0, 0))
  have Kr := hid (Blk.new (w := w) (n := w.heap.size) rfl (byteCells 32 []) 23)
  have Hb := hid b1
  have hbz := b1.size
  have Hbs := hid (show w.heap.size + 1 = (w.alloc (.cells (byteCells 32 []) 23 (0, 0))).heap.size by simp only [World.size_alloc])
  clear b1 
  have Kl := hid (kl.below Hb.out)
  have Kw := hid (kw.below Hb.out)
  have hlt0 := kl.lt
  have hlt1 := kw.lt
  clear kl kw
  have cl : (w.alloc (.cells #[.int .u8 0, .int .u8 0, .int .u8 0, .int .u8 0, .int .u8 0, .int .u8 0, .int .u8 0, .int .u8 0, .int .u8 0, .int .u8 0, .int .u8 0, .int .u8 0, .int .u8 0, .int .u8 0, .int .u8 0, .int .u8 0, .int .u8 0, .int .u8 0, .int .u8 0, .int .u8 0, .int .u8 0, .int .u8 0, .int .u8 0, .int .u8 0, .int .u8 0, .int .u8 0, .int .u8 0, .int .u8 0, .int .u8 0, .int .u8 0, .int .u8 0, .int .u8 0] 23 (0, 0))).cell? ⟨bl, 0, none⟩ = some (.int .i64 ((q : Int) + 1)) := (show (w.alloc (.cells (byteCells 32 []) 23 (0, 0))).cell? ⟨bl, 0, none⟩ = some (.int .i64 ((q : Int) + 1)) by rw [Kl.out.cell]; rfl)
  go_enter Tryd.func87, Tryd.ntmps87
  go_wp2_with (first
     | (
        refine wpList_store_cell rfl 3 _ _ rfl bl 0 (.int .i64 q) rfl rfl rfl rfl #[.int .i64 ((q : Int) + 1)] 3 Kl.out (by simp) size_int ?_
        intro w1 hb1 hk1
        have HB1 := hid hb1
        have Kl1 := hid (show Blk w1 bl #[.int .i64 q] 3 from hk1)
        have Kr1 := hid (hb1.blk Kr.out (by omega))
        have Kw1 := hid (hb1.blk Kw.out (fun e => hne e.symm))
        have cl1 : w1.cell? ⟨bl, 0, none⟩ = some (.int .i64 q) := by rw [Kl1.out.cell]; rfl
        have cw1 : w1.cell? ⟨bw, 0, none⟩ = some (.slice (some ⟨x, o, none⟩) yn yc) := by rw [Kw1.out.cell]; rfl
        have Hcx : Hid (w1.rangeAt x (o + q * 32) (X.map (Value.int .u8))) := hid (fun j v hv => by
          rw [hb1.cell (by rw [World.size_alloc]; omega) hxl]
          exact (Hb.out.cell (p := ⟨x, o + q * 32 + j, none⟩) hx).trans (Hc.out j v hv))
        clear hb1 hk1)
     | (refine wpList_index_digs rfl 27 _ _ rfl Tryd.underlying27 size_digest x o yn yc rfl _ _ rfl q (by omega) (by omega) ?_)
     | (refine wpList_load_mid rfl 23 _ rfl x (o + q * 32) rfl _ _ Hcx.out Tryd.underlying23 rfl (by rw [List.length_map, HX.out.len]; exact size_digest) ?_)
     | (
        refine wpList_store_blk rfl 23 _ _ rfl (w.heap.size) (X.map (Value.int .u8)).toArray rfl rfl _ 23 Kr1.out 32 size_digest zsize HX.out.size (ints_one _ _) ?_
        intro w9 hb9 hk9
        have HB9 := hid hb9
        have HK9 := hid hk9
        have Kl9 := hid (hb9.blk Kl1.out (by omega))
        clear hb9 hk9))
  exact bodyPost_ret (v := .agg (X.map (Value.int .u8)).toArray) (results_blk Tryd.results87 _ (w.heap.size) rfl _ 23 HK9.out _ Tryd.underlying23 rfl 32 size_digest HX.out.size) rfl ⟨rfl, But.fresh (But.trans (But.of Hb.out) HB1.out) HB9.out (Nat.le_refl _), Kl9.out⟩

set_option maxHeartbeats 4000000 in
set_option maxRecDepth 100000 in
theorem done_any (bl : Nat) (left : Int) (w : World) (kl : Blk w bl #[.int .i64 left] 3) :
    Calls Tryd.prog 88 #[.pointer (some ⟨bl, 0, none⟩)] w fun e w' => e = .returned (.bool (decide (left = 0))) ∧ w' = w := by
  have cl : w.cell? ⟨bl, 0, none⟩ = some (.int .i64 left) := by rw [kl.cell]; rfl
  go_enter Tryd.func88, Tryd.ntmps88
  go_wp2_with fail
  go_ret
  exact ⟨rfl, rfl⟩

set_option maxHeartbeats 4000000 in
set_option maxRecDepth 100000 in
theorem taker_any (ya : Option Addr) (yn yc : Nat) (w : World) :
    Calls Tryd.prog 67 #[.slice ya yn yc] w fun e w' => e = .returned (.tuple #[.func (.func 87) #[] #[.pointer (some ⟨w.heap.size + 1, 0, none⟩), .pointer (some ⟨w.heap.size, 0, none⟩)], .func (.func 88) #[] #[.pointer (some ⟨w.heap.size + 1, 0, none⟩)]]) ∧ Below w.heap.size w w' ∧ Blk w' (w.heap.size + 1) #[.int .i64 yn] 3 ∧ Blk w' w.heap.size #[.slice ya yn yc] 27 := by
  have b1 := (Below.refl w.heap.size w).alloc (Nat.le_refl _) (.cells #[.slice ya yn yc] 27 (0, 0))
  have Kw := hid (Blk.new (w := w) (n := w.heap.size) rfl #[.slice ya yn yc] 27)
  have Hb := hid b1
  have hbz := b1.size
  have Hbs := hid (show w.heap.size + 1 = (w.alloc (.cells #[.slice ya yn yc] 27 (0, 0))).heap.size by simp only [World.size_alloc])
  clear b1 
  go_enter Tryd.func67, Tryd.ntmps67
  have cw : (w.alloc (.cells #[.slice ya yn yc] 27 (0, 0))).cell? ⟨w.heap.size, 0, none⟩ = some (.slice ya yn yc) := by rw [Kw.out.cell]; rfl
  go_wp2_with fail
  go_returns
  exact ⟨rfl, Hb.out.alloc Hb.out.size _, Blk.new (w := (w.alloc (.cells #[.slice ya yn yc] 27 (0, 0)))) (n := w.heap.size + 1) (by simp only [World.size_alloc]) _ _, Kw.out.old _⟩

theorem Dg.head {d : List Int} (h : Dg d) : (d.map (Value.int .u8))[0]? = some (.int .u8 (d.getD 0 0)) := by
  have hl := h.len
  match d, hl with
  | x :: d, _ => rfl
  | [], hl => simp at hl
/-- What lies around while a way is climbed. -/
structure HEnv (w : World) (bb bt ba bl bw : Nat) (ta : Option Addr) (tn tc : Nat) (m : List Int) (ya : Option Addr) (yn yc : Nat) (ds : List (List Int)) : Prop where
  kb : Blk w bb #[.slice ta tn tc] 67
  kt : Blk w bt #[.func (.func 87) #[] #[.pointer (some ⟨bl, 0, none⟩), .pointer (some ⟨bw, 0, none⟩)]] 96
  ka : Blk w ba #[.func (.func 68) #[] #[.pointer (some ⟨bb, 0, none⟩), .pointer (some ⟨bt, 0, none⟩), .pointer (some ⟨ba, 0, none⟩)]] 99
  kw : Blk w bw #[.slice ya yn yc] 27
  text : TextAt w ta tn tc m
  way : DigsAt w ya yn yc ds
  tab : ShaTab w
  nb : bb ≠ bl
  nt : bt ≠ bl
  na : ba ≠ bl
  nw : bw ≠ bl
theorem blk_not {w : World} {bl x o : Nat} {left : Int} {v : Value} (kl : Blk w bl #[.int .i64 left] 3) (hc : w.cell? ⟨x, o, none⟩ = some v) (hv : ∀ n, v ≠ .int .i64 n) : x ≠ bl := fun e => by
  subst e
  rw [kl.cell] at hc
  match o, hc with
  | 0, hc => exact hv left (by simpa using hc.symm)
  | o + 1, hc => simp at hc
theorem HEnv.but {w w' : World} {bb bt ba bl bw : Nat} {ta : Option Addr} {tn tc : Nat} {m : List Int} {ya : Option Addr} {yn yc : Nat} {ds : List (List Int)} {left : Int} (h : HEnv w bb bt ba bl bw ta tn tc m ya yn yc ds) (kl : Blk w bl #[.int .i64 left] 3) (hb : But bl w w') : HEnv w' bb bt ba bl bw ta tn tc m ya yn yc ds := by
  obtain ⟨kb, kt, ka, kw, ht, hw, tab, nb, nt, na, nw⟩ := h
  refine ⟨hb.blk kb nb, hb.blk kt nt, hb.blk ka na, hb.blk kw nw, ?_, ?_, ?_, nb, nt, na, nw⟩
  · obtain ⟨h1, h2, h3, h4, h5 | ⟨x, o, s, rfl, hc⟩⟩ := ht
    · exact ⟨h1, h2, h3, h4, .inl h5⟩
    · refine ⟨h1, h2, h3, h4, .inr ⟨x, o, s, rfl, fun j hj => ?_⟩⟩
      obtain ⟨q0, q1, q2⟩ := hc j hj
      have hne := blk_not kl q2 (fun n e => by cases e)
      exact ⟨q0, Nat.lt_of_lt_of_le q1 hb.size, (hb.cell q1 hne).trans q2⟩
  · obtain ⟨h1, h2, h3, h4, h5 | ⟨x, o, s, rfl, hc⟩⟩ := hw
    · exact ⟨h1, h2, h3, h4, .inl h5⟩
    · refine ⟨h1, h2, h3, h4, .inr ⟨x, o, s, rfl, fun j hj => ?_⟩⟩
      obtain ⟨q0, q1, q2⟩ := hc j hj
      have hd := Dg.getD h4 (j := j) (by omega)
      have hne : x ≠ bl := blk_not kl (q2 0 (.int .u8 ((ds.getD j []).getD 0 0)) hd.head) (fun n e => by cases e)
      exact ⟨q0, Nat.lt_of_lt_of_le q1 hb.size, fun k v hv => (hb.cell q1 hne).trans (q2 k v hv)⟩
  · exact tab.but hb (fun e => blk_not kl (tab.keys 0 (by omega)) (fun n e => by cases e) e.symm) (fun e => blk_not kl tab.start.1 (fun n e => by cases e) e.symm)
/-- What climbing from a leaf comes to, and how many digests are left then. -/
def upZ : Nat → List Int → Nat → Int → List (List Int) → Int → List Int × Int
  | 0, X, _, _, _, left => (X, left)
  | f + 1, X, n, i, ds, left => if n = 1 then (X, left) else if i < halfN n then
      (nodeL (upZ f X (halfN n) i ds (left - 1)).1 (takeZ ds left), (upZ f X (halfN n) i ds (left - 1)).2)
    else (nodeL (takeZ ds left) (upZ f X (n - halfN n) (i - halfN n) ds (left - 1)).1, (upZ f X (n - halfN n) (i - halfN n) ds (left - 1)).2)
theorem Dg.upZ {X : List Int} (hX : Dg X) (f : Nat) : ∀ n i ds left, Dg (upZ f X n i ds left).1 := by
  induction f with
  | zero => intro n i ds left; exact hX
  | succ f ih =>
    intro n i ds left
    unfold Go.Proofs.YthaicocfbmpnmaaDoor.upZ
    split
    · exact hX
    · split
      · exact Dg.nodeL _ _
      · exact Dg.nodeL _ _
set_option maxHeartbeats 4000000 in
set_option maxRecDepth 100000 in
theorem take_any {w : World} {bb bt ba bl bw : Nat} {ta : Option Addr} {tn tc : Nat} {m : List Int} {ya : Option Addr} {yn yc : Nat} {ds : List (List Int)} {left : Int} (h : HEnv w bb bt ba bl bw ta tn tc m ya yn yc ds) (kl : Blk w bl #[.int .i64 left] 3) (hlo : -1000 ≤ left) (hhi : left ≤ yn) (hyn : yn ≤ 1000000) :
    Calls Tryd.prog 87 #[.pointer (some ⟨bl, 0, none⟩), .pointer (some ⟨bw, 0, none⟩)] w fun e w' => e = .returned (.agg ((takeZ ds left).map (Value.int .u8)).toArray) ∧ But bl w w' ∧ Blk w' bl #[.int .i64 (left - 1)] 3 := by
  unfold takeZ
  by_cases h0 : left - 1 < 0
  · rw [if_pos h0]
    exact take_none bl bw left ya yn yc w h.nw.symm kl h.kw hlo h0
  · rw [if_neg h0]
    obtain ⟨q, hq⟩ := Int.eq_ofNat_of_zero_le (show 0 ≤ left - 1 by omega)
    obtain rfl : left = (q : Int) + 1 := by omega
    obtain ⟨x, o, hxa, hx, hc⟩ := h.way.at_ (by omega)
    have hd := h.way.get (j := q) (by omega)
    have hkw := h.kw
    subst hxa
    have hne : x ≠ bl := blk_not kl (hc q (by omega) 0 (.int .u8 ((ds.getD q []).getD 0 0)) hd.head) (fun n e => by cases e)
    have := take_some bl bw x o q yn yc (ds.getD q []) w h.nw.symm kl hkw (by omega) (by omega) hx hne (hc q (by omega)) hd
    rw [show (q : Int) + 1 - 1 = (q : Int) by omega, Int.toNat_natCast]
    exact this
end Go.Proofs.YthaicocfbmpnmaaDoor
