/-
  Layer 20: the texts of heads, epochs, and next keys.
-/
import Derived.Test.YtkakoiaahgchmaaGWire1
namespace Go.Proofs.Ytkakoiaahgchmaa
open Go.ChangeShapes Go.WideShapes Go.ChangeAt Go.RowKit

def shC (L V : Int) : Array Value := #[.int .i64 L, .int .i64 V]
theorem size_shape : (Try.prog.info? 23).map (·.size) = some 2 := by kernel_rfl
/-- A key's cells. -/
def pubC (L V : Int) (root pub : List Int) : List Value := .int .i64 L :: .int .i64 V :: (root.map (Value.int .u8) ++ pub.map (Value.int .u8))
theorem pubC_length {L V : Int} {root pub : List Int} (h1 : Dg root) (h2 : Dg pub) : (pubC L V root pub).length = 66 := by simp [pubC, h1.len, h2.len]
theorem pubC_size {L V : Int} {root pub : List Int} (h1 : Dg root) (h2 : Dg pub) : (pubC L V root pub).toArray.size = 66 := by rw [List.size_toArray, pubC_length h1 h2]
theorem pubC_ones (L V : Int) (root pub : List Int) : (pubC L V root pub).toArray.all (·.oneCell') = true := all_oneCell_toArray fun u hu => by
  simp only [pubC, List.mem_cons, List.mem_append, List.mem_map] at hu
  rcases hu with rfl | rfl | ⟨_, _, rfl⟩ | ⟨_, _, rfl⟩ <;> rfl
theorem pubC_shape {L V : Int} {root pub : List Int} {w : World} {b : Nat} {T : TypeId} (k : Blk w b (pubC L V root pub).toArray T) : w.rangeAt b 0 (shC L V).toList := fun j v hv => by
  rw [Nat.zero_add, k.cell, List.getElem?_toArray, ← hv]
  match j, hv with
  | 0, _ => rfl
  | 1, _ => rfl
  | j + 2, h => simp [shC] at h
theorem pubC_root {L V : Int} {root pub : List Int} {w : World} {b : Nat} {T : TypeId} (k : Blk w b (pubC L V root pub).toArray T) : w.rangeAt b 2 (root.map (Value.int .u8)) := fun j v hv => by
  have hj : j < root.length := by have := (List.getElem?_eq_some_iff.1 hv).1; simpa using this
  rw [k.cell, List.getElem?_toArray, ← hv]
  unfold pubC
  rw [show 2 + j = j + 1 + 1 by omega, List.getElem?_cons_succ, List.getElem?_cons_succ, List.getElem?_append_left (by rw [List.length_map]; exact hj)]
theorem pubC_pub {L V : Int} {root pub : List Int} (h1 : Dg root) {w : World} {b : Nat} {T : TypeId} (k : Blk w b (pubC L V root pub).toArray T) : w.rangeAt b 34 (pub.map (Value.int .u8)) := fun j v hv => by
  rw [k.cell, List.getElem?_toArray, ← hv]
  unfold pubC
  rw [show 34 + j = (32 + j) + 1 + 1 by omega, List.getElem?_cons_succ, List.getElem?_cons_succ, List.getElem?_append_right (by rw [List.length_map, h1.len]; omega), List.length_map, h1.len, show 32 + j - 32 = j by omega]
theorem size_public : (Try.prog.info? 53).map (·.size) = some 66 := by kernel_rfl
theorem size_head : (Try.prog.info? 49).map (·.size) = some 66 := by kernel_rfl
theorem pubC_troot {L V : Int} {root pub : List Int} {w : World} {b : Nat} {T : TypeId} (h1 : Dg root) (k : Blk w b (pubC L V root pub).toArray T) : TextAt w (some ⟨b, 2, none⟩) 32 32 root :=
  TextAt.of_blk k h1.len (Nat.le_refl _) (by omega) h1.small (fun j hj => by
    have := pubC_root k j (.int .u8 (root.getD j 0)) (by rw [List.getElem?_map, List.getElem?_eq_getElem (by rw [h1.len]; exact hj)]; simp [List.getD_eq_getElem?_getD, List.getElem?_eq_getElem (show j < root.length by rw [h1.len]; exact hj)])
    rw [← k.cell]
    exact this)
theorem pubC_tpub {L V : Int} {root pub : List Int} {w : World} {b : Nat} {T : TypeId} (h1 : Dg root) (h2 : Dg pub) (k : Blk w b (pubC L V root pub).toArray T) : TextAt w (some ⟨b, 34, none⟩) 32 32 pub :=
  TextAt.of_blk k h2.len (Nat.le_refl _) (by omega) h2.small (fun j hj => by
    have := pubC_pub h1 k j (.int .u8 (pub.getD j 0)) (by rw [List.getElem?_map, List.getElem?_eq_getElem (by rw [h2.len]; exact hj)]; simp [List.getD_eq_getElem?_getD, List.getElem?_eq_getElem (show j < pub.length by rw [h2.len]; exact hj)])
    rw [← k.cell]
    exact this)
/-- a number as one of 64 bits -/
def uZ (n : Int) : Int := n % 18446744073709551616
theorem uZ_in (n : Int) : 0 ≤ uZ n ∧ uZ n < 18446744073709551616 := by unfold uZ; omega
def headZ (k e : Int) (t l : List Int) : List Int := [1] ++ (be 8 (uZ k) ++ (be 8 (uZ e) ++ (t ++ l)))
def epochZ (e : Int) (t : List Int) : List Int := be 8 (uZ e) ++ t
def keyZ (k L V : Int) (r p : List Int) : List Int := [2] ++ (be 8 (uZ k) ++ (be 8 (uZ L) ++ (be 8 (uZ V) ++ (r ++ p))))

set_option maxHeartbeats 4000000 in
set_option maxRecDepth 100000 in
theorem wnumber_any (n : Int) (w : World) (_hn : -9223372036854775808 ≤ n ∧ n < 9223372036854775808) :
    Calls Try.prog 19 #[.int .i64 n] w fun e w' => ∃ v, e = .returned v ∧ Below w.heap.size w w' ∧ NumAt (uZ n) v w' := by
  have hu := uZ_in n
  have hw : IntKind.u64.wrap n = uZ n := by unfold uZ; rfl
  have CN := hid (fun W : World => number_any (uZ n) 8 8 W hu.1 hu.2 (by decide))
  have hu2 : n % 18446744073709551616 = uZ n := rfl
  go_enter Try.func19, Try.ntmps19
  go_wp2_with fail
  refine (CN.out _).mono ?_
  rintro e w1 ⟨g, hg, rfl, b1, k1⟩
  have H := hid (And.intro b1 k1)
  clear b1 k1
  go_wp2_with fail
  go_ret
  exact ⟨_, rfl, H.out.1, g, rfl, H.out.2⟩

set_option maxHeartbeats 4000000 in
set_option maxRecDepth 100000 in
theorem headtext_any (k q : Int) (t l : List Int) (w : World) (hk : -9223372036854775808 ≤ k ∧ k < 9223372036854775808) (hq : -9223372036854775808 ≤ q ∧ q < 9223372036854775808) (htd : Dg t) (hld : Dg l) :
    Calls Try.prog 14 #[.agg (pubC k q t l).toArray] w fun e w' => ∃ v, e = .returned v ∧ Below w.heap.size w w' ∧ TextV (headZ k q t l) v w' := by
  have Hk := hid hk
  have Hq := hid hq
  have Htd := hid htd
  have Hld := hid hld
  have b1 := (Below.refl w.heap.size w).alloc (Nat.le_refl _) (.cells (pubC k q t l).toArray 49 (0, 0))
  have Kp := hid (Blk.new (w := w) (n := w.heap.size) rfl (pubC k q t l).toArray 49)
  have Hb := hid b1
  have hbz := b1.size
  have Hbs := hid (show w.heap.size + 1 = (w.alloc (.cells (pubC k q t l).toArray 49 (0, 0))).heap.size by simp only [World.size_alloc])
  clear b1 
  go_enter Try.func14, Try.ntmps14
  go_wp2_with fail
  refine wp_region_flow 13 [1, 2, 4, 5, 7, 8, 9, 10] [0] [(.c 3, [], []), (.c 6, [], []), (.b 0, [], [11]), (.b 11, [], []), (.c 12, [], [])] (by kernel_rfl) (by kernel_rfl) ?_
  apply Exists.intro
  refine ⟨fun w0 hb0 hF0 => ?_, ?_⟩
  · skip
    have y0 : ∀ w', (∃ x : Ext w0, w' = x.at_) → w'.cell? ⟨w.heap.size, 0, none⟩ = some (.int .i64 k) := fun w' ⟨x, hx⟩ => by rw [hx, ((Kp.out.below hb0).below x.same).cell]; rfl
    have y1 : ∀ w', (∃ x : Ext w0, w' = x.at_) → w'.cell? ⟨w.heap.size, 1, none⟩ = some (.int .i64 q) := fun w' ⟨x, hx⟩ => by rw [hx, ((Kp.out.below hb0).below x.same).cell]; rfl
    simp only [pick, List.getElem?_toArray, List.getElem?_cons_succ, List.getElem?_cons_zero, Option.toList_some, List.cons_append, List.nil_append]
    repeat (first | (go_big_quiet_want; refine quiet_load_one 3 _ rfl ⟨w.heap.size, 0, none⟩ rfl _ y0 _ Try.underlying3 rfl ?_; go_big_quiet_on; simp only [Act.put, List.setIfInBounds_toArray, List.set_cons_zero, List.set_cons_succ]) | (go_big_quiet_want; refine quiet_load_one 3 _ rfl ⟨w.heap.size, 1, none⟩ rfl _ y1 _ Try.underlying3 rfl ?_; go_big_quiet_on; simp only [Act.put, List.setIfInBounds_toArray, List.set_cons_zero, List.set_cons_succ]) | go_big_quiet_step (fail))
    exact wpQuiet_nil rfl
  refine AlChk.one rfl (fun b => .slice (some ⟨b, 0, none⟩) 1 1) (.cells #[.int .u8 1] 5 (0, 0)) rfl (fun w2 hb2 hF2 => by go_simp) ?_
  refine AlChk.nil ?_
  refine Walk.call rfl 19 #[.int .i64 k] (NumAt (uZ k)) (fun v w' w'' h k => h.below k) rfl (fun w1 hb1 hF1 => ⟨by go_simp, wnumber_any k w1 Hk.out⟩) ?_
  rintro vn0 w1 hb1 hF1 ⟨g0, rfl, _⟩
  apply Exists.intro
  refine ⟨fun w2 hb2 hF2 => wpQuiet_nil rfl, ?_⟩
  refine AlChk.nil ?_
  refine Walk.call rfl 19 #[.int .i64 q] (NumAt (uZ q)) (fun v w' w'' h k => h.below k) rfl (fun w1 hb1 hF1 => ⟨by go_simp, wnumber_any q w1 Hq.out⟩) ?_
  rintro vn1 w1 hb1 hF1 ⟨g1, rfl, _⟩
  apply Exists.intro
  refine ⟨fun w2 hb2 hF2 => wpQuiet_nil rfl, ?_⟩
  refine AlChk.nil ?_
  refine Walk.blk rfl (fun b => .slice (some ⟨b, 0, none⟩) 1 1) (.cells #[.int .u8 1] 5 (0, 0)) (by simp) ?_
  intro b1 w2 hb2 hF2 hge1 _
  apply Exists.intro
  refine ⟨fun w2 hb2 hF2 => wpQuiet_nil rfl, ?_⟩
  refine AlChk.one rfl (fun b => .slice (some ⟨b, 0, none⟩) 5 5) (.cells #[.slice (some ⟨b1, 0, none⟩) 1 1, .slice (some ⟨g0, 0, none⟩) 8 8, .slice (some ⟨g1, 0, none⟩) 8 8, .slice (some ⟨w.heap.size, 2, none⟩) 32 32, .slice (some ⟨w.heap.size, 34, none⟩) 32 32] 31 (0, 0)) rfl (fun w2 hb2 hF2 => by go_simp) ?_
  refine AlChk.nil ?_
  refine Walk.blk rfl (fun b => .slice (some ⟨b, 0, none⟩) 5 5) (.cells #[.slice (some ⟨b1, 0, none⟩) 1 1, .slice (some ⟨g0, 0, none⟩) 8 8, .slice (some ⟨g1, 0, none⟩) 8 8, .slice (some ⟨w.heap.size, 2, none⟩) 32 32, .slice (some ⟨w.heap.size, 34, none⟩) 32 32] 31 (0, 0)) (by simp) ?_
  intro b9 w2 hb2 hF2 hge9 _
  apply Exists.intro
  refine ⟨fun w3 hb3 hF3 => wpQuiet_nil rfl, ?_⟩
  refine AlChk.nil ?_
  refine Walk.call rfl 29 #[.slice (some ⟨b9, 0, none⟩) 5 5] (TextV (headZ k q t l)) (fun v w' w'' h k => h.below k) rfl (fun w1 hb1 hF1 => ⟨by go_simp, ?_⟩) ?_
  · have k9 : Blk w1 b9 #[.slice (some ⟨b1, 0, none⟩) 1 1, .slice (some ⟨g0, 0, none⟩) 8 8, .slice (some ⟨g1, 0, none⟩) 8 8, .slice (some ⟨w.heap.size, 2, none⟩) 32 32, .slice (some ⟨w.heap.size, 34, none⟩) 32 32] 31 := hF1.2
    have k1 : Blk w1 b1 (([1] : List Int).map (Value.int .u8)).toArray 5 := hF1.1.2
    have n1 := hF1.1.1.2
    have n0 := hF1.1.1.1.2
    have hs := concat_any (some ⟨b9, 0, none⟩) 5 5 [[1], be 8 (uZ k), be 8 (uZ q), t, l] w1 (TextsAt.of_blk k9 rfl (Nat.le_refl _) (by omega) fun j hj => by
      match j, hj with
      | 0, _ => exact ⟨_, _, _, rfl, TextAt.of_ints k1 rfl (by omega) (by simp)⟩
      | 1, _ => exact ⟨_, _, _, rfl, n0.text⟩
      | 2, _ => exact ⟨_, _, _, rfl, n1.text⟩
      | 3, _ => exact ⟨_, _, _, rfl, pubC_troot Htd.out ((Kp.out).below hb1)⟩
      | 4, _ => exact ⟨_, _, _, rfl, pubC_tpub Htd.out Hld.out ((Kp.out).below hb1)⟩) (by simp only [sumLen, List.map_cons, List.map_nil, List.sum_cons, List.sum_nil, be_length, Htd.out.len, Hld.out.len, List.length_cons, List.length_nil]; omega)
    rw [show ([[1], be 8 (uZ k), be 8 (uZ q), t, l] : List (List Int)).flatten = (headZ k q t l) by unfold headZ; simp] at hs
    exact hs
  rintro vr w1 hb1 hF1 ⟨fa, fn, fc, rfl, _⟩
  apply Exists.intro
  refine ⟨fun w3 hb3 hF3 => wpQuiet_nil rfl, ?_⟩
  refine AlChk.nil ?_
  refine Walk.fin fun w4 h4 hF4 _ => ?_
  simp only [List.drop_succ_cons, List.drop_zero]
  have HF := hid (show TextV (headZ k q t l) (.slice fa fn fc) w4 from hF4.2)
  have HBw4 := hid (Below.on Hb.out h4)
  have hsw4 := HBw4.out.size
  have Kpw4 := hid (Kp.out.below h4)
  clear h4 hF4
  go_wp2_with fail
  go_ret
  exact ⟨_, rfl, HBw4.out, HF.out⟩

set_option maxHeartbeats 4000000 in
set_option maxRecDepth 100000 in
theorem epochtext_any (q : Int) (t : List Int) (w : World) (hq : -9223372036854775808 ≤ q ∧ q < 9223372036854775808) (htd : Dg t) :
    Calls Try.prog 15 #[.int .i64 q, .agg (t.map (Value.int .u8)).toArray] w fun e w' => ∃ v, e = .returned v ∧ Below w.heap.size w w' ∧ TextV (epochZ q t) v w' := by
  have Hq := hid hq
  have Htd := hid htd
  have b1 := (Below.refl w.heap.size w).alloc (Nat.le_refl _) (.cells (t.map (Value.int .u8)).toArray 25 (0, 0))
  have Kd := hid (Blk.new (w := w) (n := w.heap.size) rfl (t.map (Value.int .u8)).toArray 25)
  have Hb := hid b1
  have hbz := b1.size
  have Hbs := hid (show w.heap.size + 1 = (w.alloc (.cells (t.map (Value.int .u8)).toArray 25 (0, 0))).heap.size by simp only [World.size_alloc])
  clear b1 
  go_enter Try.func15, Try.ntmps15
  go_wp2_with fail
  refine wp_region_flow 5 [0, 2] [] [(.c 1, [], [3]), (.b 3, [], []), (.c 4, [], [])] (by kernel_rfl) (by kernel_rfl) ?_
  apply Exists.intro
  refine ⟨fun w0 hb0 hF0 => ?_, ?_⟩
  · skip
    simp only [pick, List.getElem?_toArray, List.getElem?_cons_succ, List.getElem?_cons_zero, Option.toList_some, List.cons_append, List.nil_append]
    repeat (first | go_big_quiet_step (fail))
    exact wpQuiet_nil rfl
  refine AlChk.nil ?_
  refine Walk.call rfl 19 #[.int .i64 q] (NumAt (uZ q)) (fun v w' w'' h k => h.below k) rfl (fun w1 hb1 hF1 => ⟨by go_simp, wnumber_any q w1 Hq.out⟩) ?_
  rintro vn0 w1 hb1 hF1 ⟨g0, rfl, _⟩
  apply Exists.intro
  refine ⟨fun w2 hb2 hF2 => wpQuiet_nil rfl, ?_⟩
  refine AlChk.one rfl (fun b => .slice (some ⟨b, 0, none⟩) 2 2) (.cells #[.slice (some ⟨g0, 0, none⟩) 8 8, .slice (some ⟨w.heap.size, 0, none⟩) 32 32] 31 (0, 0)) rfl (fun w2 hb2 hF2 => by go_simp) ?_
  refine AlChk.nil ?_
  refine Walk.blk rfl (fun b => .slice (some ⟨b, 0, none⟩) 2 2) (.cells #[.slice (some ⟨g0, 0, none⟩) 8 8, .slice (some ⟨w.heap.size, 0, none⟩) 32 32] 31 (0, 0)) (by simp) ?_
  intro b9 w2 hb2 hF2 hge9 _
  apply Exists.intro
  refine ⟨fun w3 hb3 hF3 => wpQuiet_nil rfl, ?_⟩
  refine AlChk.nil ?_
  refine Walk.call rfl 29 #[.slice (some ⟨b9, 0, none⟩) 2 2] (TextV (epochZ q t)) (fun v w' w'' h k => h.below k) rfl (fun w1 hb1 hF1 => ⟨by go_simp, ?_⟩) ?_
  · have k9 : Blk w1 b9 #[.slice (some ⟨g0, 0, none⟩) 8 8, .slice (some ⟨w.heap.size, 0, none⟩) 32 32] 31 := hF1.2
    have n0 := hF1.1.2
    have hs := concat_any (some ⟨b9, 0, none⟩) 2 2 [be 8 (uZ q), t] w1 (TextsAt.of_blk k9 rfl (Nat.le_refl _) (by omega) fun j hj => by
      match j, hj with
      | 0, _ => exact ⟨_, _, _, rfl, n0.text⟩
      | 1, _ => exact ⟨_, _, _, rfl, Htd.out.text ((Kd.out).below hb1)⟩) (by simp only [sumLen, List.map_cons, List.map_nil, List.sum_cons, List.sum_nil, be_length, Htd.out.len, List.length_cons, List.length_nil]; omega)
    rw [show ([be 8 (uZ q), t] : List (List Int)).flatten = (epochZ q t) by unfold epochZ; simp] at hs
    exact hs
  rintro vr w1 hb1 hF1 ⟨fa, fn, fc, rfl, _⟩
  apply Exists.intro
  refine ⟨fun w3 hb3 hF3 => wpQuiet_nil rfl, ?_⟩
  refine AlChk.nil ?_
  refine Walk.fin fun w4 h4 hF4 _ => ?_
  simp only [List.drop_succ_cons, List.drop_zero]
  have HF := hid (show TextV (epochZ q t) (.slice fa fn fc) w4 from hF4.2)
  have HBw4 := hid (Below.on Hb.out h4)
  have hsw4 := HBw4.out.size
  have Kdw4 := hid (Kd.out.below h4)
  clear h4 hF4
  go_wp2_with fail
  go_ret
  exact ⟨_, rfl, HBw4.out, HF.out⟩

set_option maxHeartbeats 4000000 in
set_option maxRecDepth 100000 in
theorem keytext_any (k L V : Int) (r p : List Int) (w : World) (hk : -9223372036854775808 ≤ k ∧ k < 9223372036854775808) (hL : -9223372036854775808 ≤ L ∧ L < 9223372036854775808) (hV : -9223372036854775808 ≤ V ∧ V < 9223372036854775808) (hrd : Dg r) (hpd : Dg p) :
    Calls Try.prog 16 #[.int .i64 k, .agg (pubC L V r p).toArray] w fun e w' => ∃ v, e = .returned v ∧ Below w.heap.size w w' ∧ TextV (keyZ k L V r p) v w' := by
  have Hk := hid hk
  have HL := hid hL
  have HV := hid hV
  have Hrd := hid hrd
  have Hpd := hid hpd
  have b1 := (Below.refl w.heap.size w).alloc (Nat.le_refl _) (.cells (pubC L V r p).toArray 53 (0, 0))
  have Kp := hid (Blk.new (w := w) (n := w.heap.size) rfl (pubC L V r p).toArray 53)
  have Hb := hid b1
  have hbz := b1.size
  have Hbs := hid (show w.heap.size + 1 = (w.alloc (.cells (pubC L V r p).toArray 53 (0, 0))).heap.size by simp only [World.size_alloc])
  clear b1 
  go_enter Try.func16, Try.ntmps16
  go_wp2_with fail
  refine wp_region_flow 17 [1, 3, 4, 5, 7, 8, 9, 11, 12, 13, 14] [0] [(.c 2, [], []), (.c 6, [], []), (.c 10, [], []), (.b 0, [], [15]), (.b 15, [], []), (.c 16, [], [])] (by kernel_rfl) (by kernel_rfl) ?_
  apply Exists.intro
  refine ⟨fun w0 hb0 hF0 => ?_, ?_⟩
  · skip
    have y0 : ∀ w', (∃ x : Ext w0, w' = x.at_) → w'.cell? ⟨w.heap.size, 0, none⟩ = some (.int .i64 L) := fun w' ⟨x, hx⟩ => by rw [hx, ((Kp.out.below hb0).below x.same).cell]; rfl
    have y1 : ∀ w', (∃ x : Ext w0, w' = x.at_) → w'.cell? ⟨w.heap.size, 1, none⟩ = some (.int .i64 V) := fun w' ⟨x, hx⟩ => by rw [hx, ((Kp.out.below hb0).below x.same).cell]; rfl
    simp only [pick, List.getElem?_toArray, List.getElem?_cons_succ, List.getElem?_cons_zero, Option.toList_some, List.cons_append, List.nil_append]
    repeat (first | (go_big_quiet_want; refine quiet_load_one 3 _ rfl ⟨w.heap.size, 0, none⟩ rfl _ y0 _ Try.underlying3 rfl ?_; go_big_quiet_on; simp only [Act.put, List.setIfInBounds_toArray, List.set_cons_zero, List.set_cons_succ]) | (go_big_quiet_want; refine quiet_load_one 3 _ rfl ⟨w.heap.size, 1, none⟩ rfl _ y1 _ Try.underlying3 rfl ?_; go_big_quiet_on; simp only [Act.put, List.setIfInBounds_toArray, List.set_cons_zero, List.set_cons_succ]) | go_big_quiet_step (fail))
    exact wpQuiet_nil rfl
  refine AlChk.one rfl (fun b => .slice (some ⟨b, 0, none⟩) 1 1) (.cells #[.int .u8 2] 5 (0, 0)) rfl (fun w2 hb2 hF2 => by go_simp) ?_
  refine AlChk.nil ?_
  refine Walk.call rfl 19 #[.int .i64 k] (NumAt (uZ k)) (fun v w' w'' h k => h.below k) rfl (fun w1 hb1 hF1 => ⟨by go_simp, wnumber_any k w1 Hk.out⟩) ?_
  rintro vn0 w1 hb1 hF1 ⟨g0, rfl, _⟩
  apply Exists.intro
  refine ⟨fun w2 hb2 hF2 => wpQuiet_nil rfl, ?_⟩
  refine AlChk.nil ?_
  refine Walk.call rfl 19 #[.int .i64 L] (NumAt (uZ L)) (fun v w' w'' h k => h.below k) rfl (fun w1 hb1 hF1 => ⟨by go_simp, wnumber_any L w1 HL.out⟩) ?_
  rintro vn1 w1 hb1 hF1 ⟨g1, rfl, _⟩
  apply Exists.intro
  refine ⟨fun w2 hb2 hF2 => wpQuiet_nil rfl, ?_⟩
  refine AlChk.nil ?_
  refine Walk.call rfl 19 #[.int .i64 V] (NumAt (uZ V)) (fun v w' w'' h k => h.below k) rfl (fun w1 hb1 hF1 => ⟨by go_simp, wnumber_any V w1 HV.out⟩) ?_
  rintro vn2 w1 hb1 hF1 ⟨g2, rfl, _⟩
  apply Exists.intro
  refine ⟨fun w2 hb2 hF2 => wpQuiet_nil rfl, ?_⟩
  refine AlChk.nil ?_
  refine Walk.blk rfl (fun b => .slice (some ⟨b, 0, none⟩) 1 1) (.cells #[.int .u8 2] 5 (0, 0)) (by simp) ?_
  intro b1 w2 hb2 hF2 hge1 _
  apply Exists.intro
  refine ⟨fun w2 hb2 hF2 => wpQuiet_nil rfl, ?_⟩
  refine AlChk.one rfl (fun b => .slice (some ⟨b, 0, none⟩) 6 6) (.cells #[.slice (some ⟨b1, 0, none⟩) 1 1, .slice (some ⟨g0, 0, none⟩) 8 8, .slice (some ⟨g1, 0, none⟩) 8 8, .slice (some ⟨g2, 0, none⟩) 8 8, .slice (some ⟨w.heap.size, 2, none⟩) 32 32, .slice (some ⟨w.heap.size, 34, none⟩) 32 32] 31 (0, 0)) rfl (fun w2 hb2 hF2 => by go_simp) ?_
  refine AlChk.nil ?_
  refine Walk.blk rfl (fun b => .slice (some ⟨b, 0, none⟩) 6 6) (.cells #[.slice (some ⟨b1, 0, none⟩) 1 1, .slice (some ⟨g0, 0, none⟩) 8 8, .slice (some ⟨g1, 0, none⟩) 8 8, .slice (some ⟨g2, 0, none⟩) 8 8, .slice (some ⟨w.heap.size, 2, none⟩) 32 32, .slice (some ⟨w.heap.size, 34, none⟩) 32 32] 31 (0, 0)) (by simp) ?_
  intro b9 w2 hb2 hF2 hge9 _
  apply Exists.intro
  refine ⟨fun w3 hb3 hF3 => wpQuiet_nil rfl, ?_⟩
  refine AlChk.nil ?_
  refine Walk.call rfl 29 #[.slice (some ⟨b9, 0, none⟩) 6 6] (TextV (keyZ k L V r p)) (fun v w' w'' h k => h.below k) rfl (fun w1 hb1 hF1 => ⟨by go_simp, ?_⟩) ?_
  · have k9 : Blk w1 b9 #[.slice (some ⟨b1, 0, none⟩) 1 1, .slice (some ⟨g0, 0, none⟩) 8 8, .slice (some ⟨g1, 0, none⟩) 8 8, .slice (some ⟨g2, 0, none⟩) 8 8, .slice (some ⟨w.heap.size, 2, none⟩) 32 32, .slice (some ⟨w.heap.size, 34, none⟩) 32 32] 31 := hF1.2
    have k1 : Blk w1 b1 (([2] : List Int).map (Value.int .u8)).toArray 5 := hF1.1.2
    have n2 := hF1.1.1.2
    have n1 := hF1.1.1.1.2
    have n0 := hF1.1.1.1.1.2
    have hs := concat_any (some ⟨b9, 0, none⟩) 6 6 [[2], be 8 (uZ k), be 8 (uZ L), be 8 (uZ V), r, p] w1 (TextsAt.of_blk k9 rfl (Nat.le_refl _) (by omega) fun j hj => by
      match j, hj with
      | 0, _ => exact ⟨_, _, _, rfl, TextAt.of_ints k1 rfl (by omega) (by simp)⟩
      | 1, _ => exact ⟨_, _, _, rfl, n0.text⟩
      | 2, _ => exact ⟨_, _, _, rfl, n1.text⟩
      | 3, _ => exact ⟨_, _, _, rfl, n2.text⟩
      | 4, _ => exact ⟨_, _, _, rfl, pubC_troot Hrd.out ((Kp.out).below hb1)⟩
      | 5, _ => exact ⟨_, _, _, rfl, pubC_tpub Hrd.out Hpd.out ((Kp.out).below hb1)⟩) (by simp only [sumLen, List.map_cons, List.map_nil, List.sum_cons, List.sum_nil, be_length, Hrd.out.len, Hpd.out.len, List.length_cons, List.length_nil]; omega)
    rw [show ([[2], be 8 (uZ k), be 8 (uZ L), be 8 (uZ V), r, p] : List (List Int)).flatten = (keyZ k L V r p) by unfold keyZ; simp] at hs
    exact hs
  rintro vr w1 hb1 hF1 ⟨fa, fn, fc, rfl, _⟩
  apply Exists.intro
  refine ⟨fun w3 hb3 hF3 => wpQuiet_nil rfl, ?_⟩
  refine AlChk.nil ?_
  refine Walk.fin fun w4 h4 hF4 _ => ?_
  simp only [List.drop_succ_cons, List.drop_zero]
  have HF := hid (show TextV (keyZ k L V r p) (.slice fa fn fc) w4 from hF4.2)
  have HBw4 := hid (Below.on Hb.out h4)
  have hsw4 := HBw4.out.size
  have Kpw4 := hid (Kp.out.below h4)
  clear h4 hF4
  go_wp2_with fail
  go_ret
  exact ⟨_, rfl, HBw4.out, HF.out⟩
end Go.Proofs.Ytkakoiaahgchmaa
