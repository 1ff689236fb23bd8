/-
  Layer 19: climbing from a leaf, by the program.
-/
import Derived.Test.YthaicocfbmpnmaaDoorLLogH
namespace Go.Proofs.YthaicocfbmpnmaaDoor
open Go.ChangeShapes Go.WideShapes Go.ChangeAt Go.RowKit

theorem but_of_in {b : Nat} {w w' : World} (h : FlowB.ButIn [b] w w') : But b w w' := ⟨h.os, h.tape, h.output, h.size, fun k hk hne => h.block k hk (by simpa using hne)⟩
theorem st_butIn {b : Nat} {w : World} (obj : Obj) (hb : b < w.heap.size) : FlowB.St (FlowB.ButIn [b]) w obj := fun w1 w2 c h1 h2 hc ho => by
  have hlt : c < w1.heap.size := by
    have := (Array.getElem?_eq_some_iff.1 ho).1
    exact this
  rw [h2.block c hlt (by simp only [List.mem_cons, List.not_mem_nil, or_false]; omega)]
  exact ho

set_option maxHeartbeats 4000000 in
set_option maxRecDepth 100000 in
theorem above_one (i left : Int) (bb bt ba bl bw : Nat) (ta : Option Addr) (tn tc : Nat) (m : List Int) (ya : Option Addr) (yn yc : Nat) (ds : List (List Int)) (w : World) (he : HEnv w bb bt ba bl bw ta tn tc m ya yn yc ds) (kl : Blk w bl #[.int .i64 left] 3) (htn : tn ≤ 1000000) :
    Calls Tryd.prog 68 #[.int .i64 1, .int .i64 i, .pointer (some ⟨bb, 0, none⟩), .pointer (some ⟨bt, 0, none⟩), .pointer (some ⟨ba, 0, none⟩)] w fun e w' => e = .returned (.agg ((leafL m).map (Value.int .u8)).toArray) ∧ But bl w w' ∧ Blk w' bl #[.int .i64 left] 3 := by
  have hllt := kl.lt
  have CL := hid (fun (W : World) (h : TextAt W ta tn tc m) (t : ShaTab W) => loleaf_any ta tn tc m W h (by omega) t)
  have HX := hid (Dg.leafL m)
  generalize leafL m = X at *
  have b1 := (Below.refl w.heap.size w).alloc (Nat.le_refl _) (.cells (byteCells 32 []) 23 (0, 0))
  have Kr := hid (Blk.new (w := w) (n := w.heap.size) rfl (byteCells 32 []) 23)
  have Hb := hid b1
  have hbz := b1.size
  have Hbs := hid (show w.heap.size + 1 = (w.alloc (.cells (byteCells 32 []) 23 (0, 0))).heap.size by simp only [World.size_alloc])
  clear b1 
  have HE := hid (he.but kl (But.of Hb.out))
  have Kl := hid (kl.below Hb.out)
  have cb : (w.alloc (.cells #[.int .u8 0, .int .u8 0, .int .u8 0, .int .u8 0, .int .u8 0, .int .u8 0, .int .u8 0, .int .u8 0, .int .u8 0, .int .u8 0, .int .u8 0, .int .u8 0, .int .u8 0, .int .u8 0, .int .u8 0, .int .u8 0, .int .u8 0, .int .u8 0, .int .u8 0, .int .u8 0, .int .u8 0, .int .u8 0, .int .u8 0, .int .u8 0, .int .u8 0, .int .u8 0, .int .u8 0, .int .u8 0, .int .u8 0, .int .u8 0, .int .u8 0, .int .u8 0] 23 (0, 0))).cell? ⟨bb, 0, none⟩ = some (.slice ta tn tc) := (show (w.alloc (.cells (byteCells 32 []) 23 (0, 0))).cell? ⟨bb, 0, none⟩ = some (.slice ta tn tc) by rw [HE.out.kb.cell]; rfl)
  clear he kl
  go_enter Tryd.func68, Tryd.ntmps68
  go_wp2_with fail
  refine (CL.out _ HE.out.text HE.out.tab).mono ?_
  rintro e w5 ⟨rfl, b5⟩
  have Kr5 := hid (Kr.out.below b5)
  have Kl5 := hid (Kl.out.below b5)
  have HB5 := hid (Below.on Hb.out b5)
  clear b5
  go_wp2_with (
        refine wpList_store_blk rfl 23 _ _ rfl (w.heap.size) (X.map (Value.int .u8)).toArray rfl rfl _ 23 Kr5.out 32 size_digest zsize HX.out.size (ints_one _ _) ?_
        intro w9 hb9 hk9
        have HB9 := hid hb9
        have HK9 := hid hk9
        have Kl9 := hid (hb9.blk Kl5.out (by omega))
        clear hb9 hk9)
  exact bodyPost_ret (v := .agg (X.map (Value.int .u8)).toArray) (results_blk Tryd.results68 _ (w.heap.size) rfl _ 23 HK9.out _ Tryd.underlying23 rfl 32 size_digest HX.out.size) rfl ⟨rfl, But.fresh (But.of HB5.out) HB9.out (Nat.le_refl _), Kl9.out⟩

set_option maxHeartbeats 4000000 in
set_option maxRecDepth 100000 in
theorem above_l (n i k : Nat) (left : Int) (bb bt ba bl bw : Nat) (ta : Option Addr) (tn tc : Nat) (m : List Int) (ya : Option Addr) (yn yc : Nat) (ds : List (List Int)) (w : World) (he : HEnv w bb bt ba bl bw ta tn tc m ya yn yc ds) (kl : Blk w bl #[.int .i64 left] 3) (hn : 2 ≤ n) (hn2 : n ≤ 200) (_hin : i < n) (hkk : halfN n = k) (hlo : -1000 ≤ left) (hhi : left ≤ yn) (hyn : yn ≤ 1000000) (hik : i < k)
    (R1 : List Int) (L2 : Int) (hR : Dg R1) (ca : ∀ W : World, HEnv W bb bt ba bl bw ta tn tc m ya yn yc ds → Blk W bl #[.int .i64 (left - 1)] 3 → Calls Tryd.prog 68 #[.int .i64 (k : Int), .int .i64 (i : Int), .pointer (some ⟨bb, 0, none⟩), .pointer (some ⟨bt, 0, none⟩), .pointer (some ⟨ba, 0, none⟩)] W fun e w' => e = .returned (.agg (R1.map (Value.int .u8)).toArray) ∧ But bl W w' ∧ Blk w' bl #[.int .i64 L2] 3) :
    Calls Tryd.prog 68 #[.int .i64 n, .int .i64 i, .pointer (some ⟨bb, 0, none⟩), .pointer (some ⟨bt, 0, none⟩), .pointer (some ⟨ba, 0, none⟩)] w fun e w' => e = .returned (.agg ((nodeL R1 (takeZ ds left)).map (Value.int .u8)).toArray) ∧ But bl w w' ∧ Blk w' bl #[.int .i64 L2] 3 := by
  obtain ⟨hk1, hk2⟩ := halfN_lt hn
  rw [hkk] at hk1 hk2
  have hn1 : ¬ ((n : Int) = 1) := by omega
  have CH := hid (fun W : World => (lohalf_any n W hn (by omega)).mono (fun e w' (h : e = .returned (.int .i64 (halfN n : Int)) ∧ w' = W) => show e = .returned (.int .i64 (halfN n : Int)) ∧ Below W.heap.size W w' from ⟨h.1, by rw [h.2]; exact Below.refl _ _⟩))
  rw [hkk] at CH
  have CT := hid (fun (W : World) (h : HEnv W bb bt ba bl bw ta tn tc m ya yn yc ds) (k1 : Blk W bl #[.int .i64 left] 3) => take_any h k1 hlo hhi hyn)
  have CA := hid ca
  have hwl := he.way.length
  have HO := hid (Dg.take he.way.each (left := left) (by omega))
  have HR := hid hR
  generalize takeZ ds left = O at *
  have CN := hid (fun (W : World) (t : ShaTab W) => lonode_any R1 O W HR.out HO.out t)
  have HX := hid (Dg.nodeL R1 O)
  generalize nodeL R1 O = X at *
  have hikI : (i : Int) < k := by omega
  clear ca hR hkk hwl
  have b1 := (Below.refl w.heap.size w).alloc (Nat.le_refl _) (.cells (byteCells 32 []) 23 (0, 0))
  have Kr := hid (Blk.new (w := w) (n := w.heap.size) rfl (byteCells 32 []) 23)
  have Hb := hid b1
  have hbz := b1.size
  have Hbs := hid (show w.heap.size + 1 = (w.alloc (.cells (byteCells 32 []) 23 (0, 0))).heap.size by simp only [World.size_alloc])
  clear b1 
  have HE := hid (he.but kl (But.of Hb.out))
  have Kl := hid (kl.below Hb.out)
  have hllt := kl.lt
  clear he kl
  go_enter Tryd.func68, Tryd.ntmps68
  go_wp2_with fail
  refine FlowB.wp_region_butIn [bl] (fun wz => Blk wz bl #[.int .i64 left] 3) 5 [0, 1, 2] [4] [(.c 3, [], []), (.b 4, [], [])] (by kernel_rfl) (by kernel_rfl) Kl.out (fun _ _ h hb => h.below hb) ?_
  apply Exists.intro
  refine ⟨fun w0 hb0 hF0 => ?_, ?_⟩
  · skip
    have yt : ∀ w', (∃ x : Ext w0, w' = x.at_) → w'.cell? ⟨bt, 0, none⟩ = some (.func (.func 87) #[] #[.pointer (some ⟨bl, 0, none⟩), .pointer (some ⟨bw, 0, none⟩)]) := fun w' ⟨x, hx⟩ => by rw [hx, ((((HE.out.but Kl.out (but_of_in hb0)).kt).below x.same)).cell]; rfl
    have c0 := fun e : Ext w0 => CH.out e.at_
    simp only [pick, List.getElem?_toArray, List.getElem?_cons_succ, List.getElem?_cons_zero, Option.toList_some, List.cons_append, List.nil_append]
    repeat (first | (go_big_quiet_want; refine quiet_load_one 96 _ rfl ⟨bt, 0, none⟩ rfl _ yt _ Tryd.underlying96 rfl ?_; go_big_quiet_on; simp only [Act.put, List.setIfInBounds_toArray, List.set_cons_zero, List.set_cons_succ]) | go_big_quiet_step ((go_at_call 69; with_reducible exact Calls.ext (c0 _))))
    exact wpQuiet_nil rfl
  refine FlowB.AlChk.one rfl (fun b => .pointer (some ⟨b, 0, none⟩)) (.cells (byteCells 32 []) 23 (0, 0)) rfl (st_butIn _ (by rw [World.size_alloc]; omega)) (fun w2 hb2 hF2 => by go_simp; rfl) ?_
  refine FlowB.AlChk.nil ?_
  refine FlowB.Walk.call rfl 87 #[.pointer (some ⟨bl, 0, none⟩), .pointer (some ⟨bw, 0, none⟩)] (fun v _ => v = .agg (O.map (Value.int .u8)).toArray) (fun _ w' => Blk w' bl #[.int .i64 (left - 1)] 3) (fun _ _ _ _ h _ => h) (fun _ _ _ h k => h.below k) rfl (fun w1 hb1 hF1 hG1 => ⟨by go_simp, ?_⟩) ?_
  · refine (CT.out w1 (HE.out.but Kl.out (but_of_in hb1)) hG1).mono ?_
    rintro e w2 ⟨rfl, b2, k2⟩
    exact ⟨_, rfl, FlowB.ButIn.of_but b2 (by simp), rfl, k2⟩
  rintro v1 w1 hb1 hF1 rfl
  apply Exists.intro
  refine ⟨fun w2 hb2 hF2 => wpQuiet_nil rfl, ?_⟩
  refine FlowB.AlChk.nil ?_
  refine FlowB.Walk.blk rfl (fun b => .pointer (some ⟨b, 0, none⟩)) (.cells (byteCells 32 []) 23 (0, 0)) (by simp) ?_
  intro b9 wz hbz_ hFz hge9 _
  apply Exists.intro
  refine ⟨fun w2 hb2 hF2 => wpQuiet_nil rfl, ?_⟩
  refine FlowB.AlChk.nil ?_
  refine FlowB.Walk.fin fun w3 h3 hF3 hG3 => ?_
  simp only [List.drop_succ_cons, List.drop_zero]
  have HB3 := hid (but_of_in h3)
  have K93 := hid (show Blk w3 b9 (byteCells 32 []) 23 from hF3.2)
  have Kl3 := hid (show Blk w3 bl #[.int .i64 (left - 1)] 3 from hG3)
  rw [World.size_alloc] at hge9
  have Kr3 := hid (HB3.out.blk Kr.out (by omega))
  clear h3 hF3 hG3 hbz_ hFz
  go_wp2_with (
        refine wpList_store_blk rfl 23 _ _ rfl b9 (O.map (Value.int .u8)).toArray rfl rfl _ 23 K93.out 32 size_digest zsize HO.out.size (ints_one _ _) ?_
        intro w4 hb4 hk4
        have HB4 := hid (But.fresh HB3.out hb4 (by rw [World.size_alloc]; omega))
        have K94 := hid hk4
        have Kl4 := hid (hb4.blk Kl3.out (by omega))
        have Kr4 := hid (hb4.blk Kr3.out (by omega))
        have HE4 := hid (HE.out.but Kl.out HB4.out)
        have hs94 := K94.out.lt
        clear hb4 hk4)
  refine FlowB.wp_region_butIn [bl] (fun wz => Blk wz bl #[.int .i64 (left - 1)] 3) 6 [0, 1, 2, 4] [] [(.c 3, [5], [])] (by kernel_rfl) (by kernel_rfl) Kl4.out (fun _ _ h hb => h.below hb) ?_
  apply Exists.intro
  refine ⟨fun w0 hb0 hF0 => ?_, ?_⟩
  · skip
    have ya_ : ∀ w', (∃ x : Ext w0, w' = x.at_) → w'.cell? ⟨ba, 0, none⟩ = some (.func (.func 68) #[] #[.pointer (some ⟨bb, 0, none⟩), .pointer (some ⟨bt, 0, none⟩), .pointer (some ⟨ba, 0, none⟩)]) := fun w' ⟨x, hx⟩ => by rw [hx, ((((HE4.out.but Kl4.out (but_of_in hb0)).ka).below x.same)).cell]; rfl
    have x0 : ∀ w', (∃ x : Ext w0, w' = x.at_) → ∃ T, Blk w' (b9) (O.map (Value.int .u8)).toArray T := fun w' ⟨x, hx⟩ => ⟨_, hx ▸ ((but_of_in hb0).blk K94.out (by omega)).below x.same⟩
    simp only [pick, List.getElem?_toArray, List.getElem?_cons_succ, List.getElem?_cons_zero, Option.toList_some, List.cons_append, List.nil_append]
    repeat (first | (go_big_quiet_want; refine quiet_load_one 99 _ rfl ⟨ba, 0, none⟩ rfl _ ya_ _ Tryd.underlying99 rfl ?_; go_big_quiet_on; simp only [Act.put, List.setIfInBounds_toArray, List.set_cons_zero, List.set_cons_succ]) | (go_big_quiet_want; refine quiet_load_blk 23 _ rfl (b9) rfl _ x0 _ Tryd.underlying23 rfl 32 size_digest HO.out.size ?_; go_big_quiet_on; simp only [Act.put, List.setIfInBounds_toArray, List.set_cons_zero, List.set_cons_succ]) | go_big_quiet_step (fail))
    exact wpQuiet_nil rfl
  refine FlowB.AlChk.nil ?_
  refine FlowB.Walk.call rfl 68 #[.int .i64 (k : Int), .int .i64 (i : Int), .pointer (some ⟨bb, 0, none⟩), .pointer (some ⟨bt, 0, none⟩), .pointer (some ⟨ba, 0, none⟩)] (fun v _ => v = .agg (R1.map (Value.int .u8)).toArray) (fun _ w' => Blk w' bl #[.int .i64 L2] 3) (fun _ _ _ _ h _ => h) (fun _ _ _ h k => h.below k) rfl (fun w1 hb1 hF1 hG1 => ⟨by go_simp, ?_⟩) ?_
  · skip
    refine (CA.out w1 (HE4.out.but Kl4.out (but_of_in hb1)) hG1).mono ?_
    rintro e w2 ⟨rfl, b2, k2⟩
    exact ⟨_, rfl, FlowB.ButIn.of_but b2 (by simp), rfl, k2⟩
  rintro v1 w1 hb1 hF1 rfl
  apply Exists.intro
  refine ⟨fun w0 hb0 hF0 => ?_, ?_⟩
  · skip
    have c1 := fun e : Ext w0 => CN.out e.at_ ((HE4.out.but Kl4.out (but_of_in hb0)).tab.below e.same)
    simp only [pick, List.getElem?_toArray, List.getElem?_cons_succ, List.getElem?_cons_zero, Option.toList_some, List.cons_append, List.nil_append, Act.put, List.setIfInBounds_toArray, List.set_cons_zero, List.set_cons_succ]
    repeat (go_big_quiet_step ((go_at_call 17; with_reducible exact Calls.ext (c1 _))))
    exact wpQuiet_nil rfl
  refine FlowB.AlChk.nil ?_
  refine FlowB.Walk.fin fun w5 h5 hF5 hG5 => ?_
  simp only [List.drop_succ_cons, List.drop_zero]
  have HB5 := hid (but_of_in h5)
  have Kl5 := hid (show Blk w5 bl #[.int .i64 L2] 3 from hG5)
  have Kr5 := hid (HB5.out.blk Kr4.out (by omega))
  clear h5 hF5 hG5
  go_wp2_with (
        refine wpList_store_blk rfl 23 _ _ rfl (w.heap.size) (X.map (Value.int .u8)).toArray rfl rfl _ 23 Kr5.out 32 size_digest zsize HX.out.size (ints_one _ _) ?_
        intro w9 hb9 hk9
        have HB9 := hid hb9
        have HK9 := hid hk9
        have Kl9 := hid (hb9.blk Kl5.out (by omega))
        clear hb9 hk9)
  exact bodyPost_ret (v := .agg (X.map (Value.int .u8)).toArray) (results_blk Tryd.results68 _ (w.heap.size) rfl _ 23 HK9.out _ Tryd.underlying23 rfl 32 size_digest HX.out.size) rfl ⟨rfl, But.fresh (But.trans (But.of Hb.out) (But.trans HB4.out HB5.out)) HB9.out (Nat.le_refl _), Kl9.out⟩

set_option maxHeartbeats 4000000 in
set_option maxRecDepth 100000 in
theorem above_r (n i k : Nat) (left : Int) (bb bt ba bl bw : Nat) (ta : Option Addr) (tn tc : Nat) (m : List Int) (ya : Option Addr) (yn yc : Nat) (ds : List (List Int)) (w : World) (he : HEnv w bb bt ba bl bw ta tn tc m ya yn yc ds) (kl : Blk w bl #[.int .i64 left] 3) (hn : 2 ≤ n) (hn2 : n ≤ 200) (hin : i < n) (hkk : halfN n = k) (hlo : -1000 ≤ left) (hhi : left ≤ yn) (hyn : yn ≤ 1000000) (hik : ¬ i < k)
    (R1 : List Int) (L2 : Int) (hR : Dg R1) (ca : ∀ W : World, HEnv W bb bt ba bl bw ta tn tc m ya yn yc ds → Blk W bl #[.int .i64 (left - 1)] 3 → Calls Tryd.prog 68 #[.int .i64 ((n - k : Nat) : Int), .int .i64 ((i - k : Nat) : Int), .pointer (some ⟨bb, 0, none⟩), .pointer (some ⟨bt, 0, none⟩), .pointer (some ⟨ba, 0, none⟩)] W fun e w' => e = .returned (.agg (R1.map (Value.int .u8)).toArray) ∧ But bl W w' ∧ Blk w' bl #[.int .i64 L2] 3) :
    Calls Tryd.prog 68 #[.int .i64 n, .int .i64 i, .pointer (some ⟨bb, 0, none⟩), .pointer (some ⟨bt, 0, none⟩), .pointer (some ⟨ba, 0, none⟩)] w fun e w' => e = .returned (.agg ((nodeL (takeZ ds left) R1).map (Value.int .u8)).toArray) ∧ But bl w w' ∧ Blk w' bl #[.int .i64 L2] 3 := by
  obtain ⟨hk1, hk2⟩ := halfN_lt hn
  rw [hkk] at hk1 hk2
  have hn1 : ¬ ((n : Int) = 1) := by omega
  have CH := hid (fun W : World => (lohalf_any n W hn (by omega)).mono (fun e w' (h : e = .returned (.int .i64 (halfN n : Int)) ∧ w' = W) => show e = .returned (.int .i64 (halfN n : Int)) ∧ Below W.heap.size W w' from ⟨h.1, by rw [h.2]; exact Below.refl _ _⟩))
  rw [hkk] at CH
  have CT := hid (fun (W : World) (h : HEnv W bb bt ba bl bw ta tn tc m ya yn yc ds) (k1 : Blk W bl #[.int .i64 left] 3) => take_any h k1 hlo hhi hyn)
  have CA := hid ca
  have hwl := he.way.length
  have HO := hid (Dg.take he.way.each (left := left) (by omega))
  have HR := hid hR
  generalize takeZ ds left = O at *
  have CN := hid (fun (W : World) (t : ShaTab W) => lonode_any O R1 W HO.out HR.out t)
  have HX := hid (Dg.nodeL O R1)
  generalize nodeL O R1 = X at *
  have hikI : ¬ ((i : Int) < k) := by omega
  have Hs1 := hid (show (n : Int) - (k : Int) = ((n - k : Nat) : Int) by omega)
  have Hs2 := hid (show (i : Int) - (k : Int) = ((i - k : Nat) : Int) by omega)
  have hw1 : wrap64 ((n : Int) - (k : Int)) = (n : Int) - (k : Int) := by unfold wrap64; omega
  have hw2 : wrap64 ((i : Int) - (k : Int)) = (i : Int) - (k : Int) := by unfold wrap64; omega
  clear ca hR hkk hwl
  have b1 := (Below.refl w.heap.size w).alloc (Nat.le_refl _) (.cells (byteCells 32 []) 23 (0, 0))
  have Kr := hid (Blk.new (w := w) (n := w.heap.size) rfl (byteCells 32 []) 23)
  have Hb := hid b1
  have hbz := b1.size
  have Hbs := hid (show w.heap.size + 1 = (w.alloc (.cells (byteCells 32 []) 23 (0, 0))).heap.size by simp only [World.size_alloc])
  clear b1 
  have HE := hid (he.but kl (But.of Hb.out))
  have Kl := hid (kl.below Hb.out)
  have hllt := kl.lt
  clear he kl
  go_enter Tryd.func68, Tryd.ntmps68
  go_wp2_with fail
  refine FlowB.wp_region_butIn [bl] (fun wz => Blk wz bl #[.int .i64 left] 3) 5 [0, 1, 2] [4] [(.c 3, [], []), (.b 4, [], [])] (by kernel_rfl) (by kernel_rfl) Kl.out (fun _ _ h hb => h.below hb) ?_
  apply Exists.intro
  refine ⟨fun w0 hb0 hF0 => ?_, ?_⟩
  · skip
    have yt : ∀ w', (∃ x : Ext w0, w' = x.at_) → w'.cell? ⟨bt, 0, none⟩ = some (.func (.func 87) #[] #[.pointer (some ⟨bl, 0, none⟩), .pointer (some ⟨bw, 0, none⟩)]) := fun w' ⟨x, hx⟩ => by rw [hx, ((((HE.out.but Kl.out (but_of_in hb0)).kt).below x.same)).cell]; rfl
    have c0 := fun e : Ext w0 => CH.out e.at_
    simp only [pick, List.getElem?_toArray, List.getElem?_cons_succ, List.getElem?_cons_zero, Option.toList_some, List.cons_append, List.nil_append]
    repeat (first | (go_big_quiet_want; refine quiet_load_one 96 _ rfl ⟨bt, 0, none⟩ rfl _ yt _ Tryd.underlying96 rfl ?_; go_big_quiet_on; simp only [Act.put, List.setIfInBounds_toArray, List.set_cons_zero, List.set_cons_succ]) | go_big_quiet_step ((go_at_call 69; with_reducible exact Calls.ext (c0 _))))
    exact wpQuiet_nil rfl
  refine FlowB.AlChk.one rfl (fun b => .pointer (some ⟨b, 0, none⟩)) (.cells (byteCells 32 []) 23 (0, 0)) rfl (st_butIn _ (by rw [World.size_alloc]; omega)) (fun w2 hb2 hF2 => by go_simp; rfl) ?_
  refine FlowB.AlChk.nil ?_
  refine FlowB.Walk.call rfl 87 #[.pointer (some ⟨bl, 0, none⟩), .pointer (some ⟨bw, 0, none⟩)] (fun v _ => v = .agg (O.map (Value.int .u8)).toArray) (fun _ w' => Blk w' bl #[.int .i64 (left - 1)] 3) (fun _ _ _ _ h _ => h) (fun _ _ _ h k => h.below k) rfl (fun w1 hb1 hF1 hG1 => ⟨by go_simp, ?_⟩) ?_
  · refine (CT.out w1 (HE.out.but Kl.out (but_of_in hb1)) hG1).mono ?_
    rintro e w2 ⟨rfl, b2, k2⟩
    exact ⟨_, rfl, FlowB.ButIn.of_but b2 (by simp), rfl, k2⟩
  rintro v1 w1 hb1 hF1 rfl
  apply Exists.intro
  refine ⟨fun w2 hb2 hF2 => wpQuiet_nil rfl, ?_⟩
  refine FlowB.AlChk.nil ?_
  refine FlowB.Walk.blk rfl (fun b => .pointer (some ⟨b, 0, none⟩)) (.cells (byteCells 32 []) 23 (0, 0)) (by simp) ?_
  intro b9 wz hbz_ hFz hge9 _
  apply Exists.intro
  refine ⟨fun w2 hb2 hF2 => wpQuiet_nil rfl, ?_⟩
  refine FlowB.AlChk.nil ?_
  refine FlowB.Walk.fin fun w3 h3 hF3 hG3 => ?_
  simp only [List.drop_succ_cons, List.drop_zero]
  have HB3 := hid (but_of_in h3)
  have K93 := hid (show Blk w3 b9 (byteCells 32 []) 23 from hF3.2)
  have Kl3 := hid (show Blk w3 bl #[.int .i64 (left - 1)] 3 from hG3)
  rw [World.size_alloc] at hge9
  have Kr3 := hid (HB3.out.blk Kr.out (by omega))
  clear h3 hF3 hG3 hbz_ hFz
  go_wp2_with (
        refine wpList_store_blk rfl 23 _ _ rfl b9 (O.map (Value.int .u8)).toArray rfl rfl _ 23 K93.out 32 size_digest zsize HO.out.size (ints_one _ _) ?_
        intro w4 hb4 hk4
        have HB4 := hid (But.fresh HB3.out hb4 (by rw [World.size_alloc]; omega))
        have K94 := hid hk4
        have Kl4 := hid (hb4.blk Kl3.out (by omega))
        have Kr4 := hid (hb4.blk Kr3.out (by omega))
        have HE4 := hid (HE.out.but Kl.out HB4.out)
        have hs94 := K94.out.lt
        clear hb4 hk4)
  refine FlowB.wp_region_butIn [bl] (fun wz => Blk wz bl #[.int .i64 (left - 1)] 3) 10 [0, 1, 2, 3, 4, 5, 6, 7] [] [(.c 8, [9], [])] (by kernel_rfl) (by kernel_rfl) Kl4.out (fun _ _ h hb => h.below hb) ?_
  apply Exists.intro
  refine ⟨fun w0 hb0 hF0 => ?_, ?_⟩
  · skip
    have ya_ : ∀ w', (∃ x : Ext w0, w' = x.at_) → w'.cell? ⟨ba, 0, none⟩ = some (.func (.func 68) #[] #[.pointer (some ⟨bb, 0, none⟩), .pointer (some ⟨bt, 0, none⟩), .pointer (some ⟨ba, 0, none⟩)]) := fun w' ⟨x, hx⟩ => by rw [hx, ((((HE4.out.but Kl4.out (but_of_in hb0)).ka).below x.same)).cell]; rfl
    have x0 : ∀ w', (∃ x : Ext w0, w' = x.at_) → ∃ T, Blk w' (b9) (O.map (Value.int .u8)).toArray T := fun w' ⟨x, hx⟩ => ⟨_, hx ▸ ((but_of_in hb0).blk K94.out (by omega)).below x.same⟩
    simp only [pick, List.getElem?_toArray, List.getElem?_cons_succ, List.getElem?_cons_zero, Option.toList_some, List.cons_append, List.nil_append]
    repeat (first | (go_big_quiet_want; refine quiet_load_one 99 _ rfl ⟨ba, 0, none⟩ rfl _ ya_ _ Tryd.underlying99 rfl ?_; go_big_quiet_on; simp only [Act.put, List.setIfInBounds_toArray, List.set_cons_zero, List.set_cons_succ]) | (go_big_quiet_want; refine quiet_load_blk 23 _ rfl (b9) rfl _ x0 _ Tryd.underlying23 rfl 32 size_digest HO.out.size ?_; go_big_quiet_on; simp only [Act.put, List.setIfInBounds_toArray, List.set_cons_zero, List.set_cons_succ]) | go_big_quiet_step (fail))
    exact wpQuiet_nil rfl
  refine FlowB.AlChk.nil ?_
  refine FlowB.Walk.call rfl 68 #[.int .i64 ((n : Int) - (k : Int)), .int .i64 ((i : Int) - (k : Int)), .pointer (some ⟨bb, 0, none⟩), .pointer (some ⟨bt, 0, none⟩), .pointer (some ⟨ba, 0, none⟩)] (fun v _ => v = .agg (R1.map (Value.int .u8)).toArray) (fun _ w' => Blk w' bl #[.int .i64 L2] 3) (fun _ _ _ _ h _ => h) (fun _ _ _ h k => h.below k) rfl (fun w1 hb1 hF1 hG1 => ⟨by go_simp, ?_⟩) ?_
  · skip
    rw [Hs1.out, Hs2.out]
    refine (CA.out w1 (HE4.out.but Kl4.out (but_of_in hb1)) hG1).mono ?_
    rintro e w2 ⟨rfl, b2, k2⟩
    exact ⟨_, rfl, FlowB.ButIn.of_but b2 (by simp), rfl, k2⟩
  rintro v1 w1 hb1 hF1 rfl
  apply Exists.intro
  refine ⟨fun w0 hb0 hF0 => ?_, ?_⟩
  · skip
    have c1 := fun e : Ext w0 => CN.out e.at_ ((HE4.out.but Kl4.out (but_of_in hb0)).tab.below e.same)
    simp only [pick, List.getElem?_toArray, List.getElem?_cons_succ, List.getElem?_cons_zero, Option.toList_some, List.cons_append, List.nil_append, Act.put, List.setIfInBounds_toArray, List.set_cons_zero, List.set_cons_succ]
    repeat (go_big_quiet_step ((go_at_call 17; with_reducible exact Calls.ext (c1 _))))
    exact wpQuiet_nil rfl
  refine FlowB.AlChk.nil ?_
  refine FlowB.Walk.fin fun w5 h5 hF5 hG5 => ?_
  simp only [List.drop_succ_cons, List.drop_zero]
  have HB5 := hid (but_of_in h5)
  have Kl5 := hid (show Blk w5 bl #[.int .i64 L2] 3 from hG5)
  have Kr5 := hid (HB5.out.blk Kr4.out (by omega))
  clear h5 hF5 hG5
  go_wp2_with (
        refine wpList_store_blk rfl 23 _ _ rfl (w.heap.size) (X.map (Value.int .u8)).toArray rfl rfl _ 23 Kr5.out 32 size_digest zsize HX.out.size (ints_one _ _) ?_
        intro w9 hb9 hk9
        have HB9 := hid hb9
        have HK9 := hid hk9
        have Kl9 := hid (hb9.blk Kl5.out (by omega))
        clear hb9 hk9)
  exact bodyPost_ret (v := .agg (X.map (Value.int .u8)).toArray) (results_blk Tryd.results68 _ (w.heap.size) rfl _ 23 HK9.out _ Tryd.underlying23 rfl 32 size_digest HX.out.size) rfl ⟨rfl, But.fresh (But.trans (But.of Hb.out) (But.trans HB4.out HB5.out)) HB9.out (Nat.le_refl _), Kl9.out⟩

set_option maxHeartbeats 4000000 in
set_option maxRecDepth 100000 in
theorem above_any (f : Nat) : ∀ (n i : Nat) (left : Int) (bb bt ba bl bw : Nat) (ta : Option Addr) (tn tc : Nat) (m : List Int) (ya : Option Addr) (yn yc : Nat) (ds : List (List Int)) (w : World), HEnv w bb bt ba bl bw ta tn tc m ya yn yc ds → Blk w bl #[.int .i64 left] 3 → 1 ≤ n → n ≤ f → n ≤ 200 → i < n → (f : Int) - 1000 ≤ left → left ≤ yn → yn ≤ 1000000 → tn ≤ 1000000 →
    Calls Tryd.prog 68 #[.int .i64 n, .int .i64 i, .pointer (some ⟨bb, 0, none⟩), .pointer (some ⟨bt, 0, none⟩), .pointer (some ⟨ba, 0, none⟩)] w fun e w' => e = .returned (.agg ((upZ f (leafL m) n i ds left).1.map (Value.int .u8)).toArray) ∧ But bl w w' ∧ Blk w' bl #[.int .i64 (upZ f (leafL m) n i ds left).2] 3 := by
  induction f with
  | zero => intro n i left bb bt ba bl bw ta tn tc m ya yn yc ds w he kl h1 h2; omega
  | succ f ih =>
    intro n i left bb bt ba bl bw ta tn tc m ya yn yc ds w he kl h1 h2 h3 h4 h5 h6 h7 h8
    rcases Nat.eq_or_lt_of_le h1 with rfl | hlt
    · rw [upZ, if_pos rfl]
      exact above_one i left bb bt ba bl bw ta tn tc m ya yn yc ds w he kl h8
    · obtain ⟨hk1, hk2⟩ := halfN_lt (n := n) hlt
      rw [upZ, if_neg (by omega)]
      by_cases hik : i < halfN n
      · rw [if_pos (by omega)]
        exact above_l n i (halfN n) left bb bt ba bl bw ta tn tc m ya yn yc ds w he kl hlt h3 h4 rfl (by omega) h6 h7 hik _ _ (Dg.upZ (Dg.leafL m) f _ _ _ _) (fun W hW kW => ih (halfN n) i (left - 1) bb bt ba bl bw ta tn tc m ya yn yc ds W hW kW hk1 (by omega) (by omega) hik (by omega) (by omega) h7 h8)
      · rw [if_neg (by omega), show (i : Int) - (halfN n : Int) = ((i - halfN n : Nat) : Int) by omega]
        exact above_r n i (halfN n) left bb bt ba bl bw ta tn tc m ya yn yc ds w he kl hlt h3 h4 rfl (by omega) h6 h7 hik _ _ (Dg.upZ (Dg.leafL m) f _ _ _ _) (fun W hW kW => ih (n - halfN n) (i - halfN n) (left - 1) bb bt ba bl bw ta tn tc m ya yn yc ds W hW kW (by omega) (by omega) (by omega) (by omega) (by omega) (by omega) h7 h8)
end Go.Proofs.YthaicocfbmpnmaaDoor
