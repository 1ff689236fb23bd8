/-
  Put together, as far as wanted: ELLogA ELLogB ELLogH ELLogI ELLogK ELLogM ELLogQ ELNFlowD EPtA EPtB EPtC EPtF EPtH EPrA EPrB EPrC EPrD EPrE EPrG EPrX EPrY EPrI EPrJ EPrKM ECommit ExA ExB ExC ExE ENPair ExF ExG.
-/
import Derived.Test.YtkakoiaahgchmaaDoorPT2
namespace Go.Proofs.YtkakoiaahgchmaaDoor
set_option maxRecDepth 100000
open Go.ChangeShapes Go.WideShapes Go.ChangeAt Go.RowKit
/-- The greatest power of two below a number. -/
def halfN (n : Nat) : Nat := 2 ^ Nat.log2 (n - 1)
theorem halfN_two : halfN 2 = 1 := by decide
theorem halfN_step {n : Nat} (h : 2 < n) : halfN n = 2 * halfN ((n + 1) / 2) := by
  unfold halfN
  rw [show (n + 1) / 2 - 1 = (n - 1) / 2 by omega]
  have : Nat.log2 (n - 1) = Nat.log2 ((n - 1) / 2) + 1 := by
    rw [Nat.log2_def, if_pos (by omega)]
  rw [this, Nat.pow_succ, Nat.mul_comm]
theorem halfN_lt {n : Nat} (h : 2 ≤ n) : 1 ≤ halfN n ∧ halfN n < n := by
  have h1 := Nat.log2_self_le (n := n - 1) (by omega)
  have h2 := Nat.pow_pos (n := Nat.log2 (n - 1)) (show 0 < 2 by omega)
  unfold halfN
  omega
/-- What a text's leaf is. -/
@[irreducible] def leafL (m : List Int) : List Int := sumZ (0 :: m)
/-- What the node above two is. -/
@[irreducible] def nodeL (a b : List Int) : List Int := sumZ (1 :: (a ++ b))
theorem Dg.leafL (m : List Int) : Dg (leafL m) := by unfold Go.Proofs.YtkakoiaahgchmaaDoor.leafL; exact Dg.sum _
theorem Dg.nodeL (a b : List Int) : Dg (nodeL a b) := by unfold Go.Proofs.YtkakoiaahgchmaaDoor.nodeL; exact Dg.sum _
/-- A log's root: so many calls are enough. -/
def rootL : Nat → List (List Int) → List Int
  | 0, _ => zD
  | f + 1, ts => if ts.length = 0 then zD else if ts.length = 1 then leafL (ts.getD 0 []) else nodeL (rootL f (ts.take (halfN ts.length))) (rootL f (ts.drop (halfN ts.length)))
/-- where a part of a row of texts begins -/
def cutS (a : Option Addr) (l cap : Nat) : Option Addr := if cap = l then a else a.map (·.add (l * 1))
set_option maxHeartbeats 4000000 in
theorem loleaf_any (ta : Option Addr) (tn tc : Nat) (m : List Int) (w : World) (hT : TextAt w ta tn tc m) (hn : tn ≤ 1000000000000000) (tab : ShaTab w) :
    Calls Tryd.prog 45 #[.slice ta tn tc] w fun e w' => e = .returned (.agg ((leafL m).map (Value.int .u8)).toArray) ∧ Below w.heap.size w w' := by
  have hTl := hT.length
  have CS := hid (fun (W : World) (g g0 : Nat) (h : Blk W g #[.slice (some ⟨g0, 0, none⟩) 1 1, .slice ta tn tc] 29) (h0 : Blk W g0 (([0] : List Int).map (Value.int .u8)).toArray 5) (ht : TextAt W ta tn tc m) (t : ShaTab W) => sum_any (some ⟨g, 0, none⟩) 2 2 [[0], m] W (TextsAt.of_blk h rfl (Nat.le_refl _) (by omega) fun j hj => by
    match j, hj with
    | 0, _ => exact ⟨_, _, _, rfl, TextAt.of_ints h0 rfl (by omega) (by simp)⟩
    | 1, _ => exact ⟨_, _, _, rfl, ht⟩) (by simp only [sumLen, List.map_cons, List.map_nil, List.sum_cons, List.sum_nil, List.length_cons, List.length_nil]; omega) t)
  have HX := hid (Dg.leafL m)
  rw [show ([[0], m] : List (List Int)).flatten = 0 :: m by simp, show sumZ (0 :: m) = leafL m by unfold leafL; rfl] at CS
  generalize leafL m = X at *
  have b1 := (Below.refl w.heap.size w).alloc (Nat.le_refl _) (.cells (byteCells 32 []) 23 (0, 0))
  have Kr := hid (Blk.new (w := w) (n := w.heap.size) rfl (byteCells 32 []) 23)
  have Hb := hid b1
  have hbz := b1.size
  have Hbs := hid (show w.heap.size + 1 = (w.alloc (.cells (byteCells 32 []) 23 (0, 0))).heap.size by simp only [World.size_alloc])
  have Htab := hid tab
  clear b1 tab 
  go_enter Tryd.func45, Tryd.ntmps45
  go_wp2_with fail
  have c1 := Hb.out.alloc Hb.out.size (.cells #[.int .u8 0] 5 (0, 0))
  have c2 := c1.alloc c1.size (.cells #[.slice (some ⟨w.heap.size + 1, 0, none⟩) 1 1, .slice ta tn tc] 29 (0, 0))
  have k1 : Blk (((w.alloc (.cells (byteCells 32 []) 23 (0, 0))).alloc (.cells #[.int .u8 0] 5 (0, 0))).alloc (.cells #[.slice (some ⟨w.heap.size + 1, 0, none⟩) 1 1, .slice ta tn tc] 29 (0, 0))) (w.heap.size + 1) (([0] : List Int).map (Value.int .u8)).toArray 5 := (Blk.new (w := (w.alloc (.cells (byteCells 32 []) 23 (0, 0)))) (n := w.heap.size + 1) (by simp only [World.size_alloc]) #[.int .u8 0] 5).old (.cells #[.slice (some ⟨w.heap.size + 1, 0, none⟩) 1 1, .slice ta tn tc] 29 (0, 0))
  have k2 : Blk (((w.alloc (.cells (byteCells 32 []) 23 (0, 0))).alloc (.cells #[.int .u8 0] 5 (0, 0))).alloc (.cells #[.slice (some ⟨w.heap.size + 1, 0, none⟩) 1 1, .slice ta tn tc] 29 (0, 0))) (w.heap.size + 1 + 1) #[.slice (some ⟨w.heap.size + 1, 0, none⟩) 1 1, .slice ta tn tc] 29 := Blk.new (w := (w.alloc (.cells (byteCells 32 []) 23 (0, 0))).alloc (.cells #[.int .u8 0] 5 (0, 0))) (n := w.heap.size + 1 + 1) (by simp only [World.size_alloc]) _ _
  have kr := (Kr.out.old (.cells #[.int .u8 0] 5 (0, 0))).old (.cells #[.slice (some ⟨w.heap.size + 1, 0, none⟩) 1 1, .slice ta tn tc] 29 (0, 0))
  refine (CS.out _ _ _ k2 k1 (hT.below c2) (Htab.out.below c2)).mono ?_
  rintro e w5 ⟨rfl, b5⟩
  have HBw5 := hid (Below.on c2 b5)
  have Krw5 := hid (kr.below b5)
  clear c1 c2 k1 k2 kr b5
  go_wp2_with (
      refine wpList_store_blk rfl 23 _ _ rfl (w.heap.size) (X.map (Value.int .u8)).toArray rfl rfl _ 23 Krw5.out 32 size_digest zsize HX.out.size (ints_one _ _) ?_
      intro w9 hb9 hk9
      have HB9 := hid (hb9.below HBw5.out HBw5.out.size (by omega))
      have HK9 := hid hk9
      clear hb9 hk9)
  exact bodyPost_ret (v := .agg (X.map (Value.int .u8)).toArray) (results_blk Tryd.results45 _ (w.heap.size) rfl _ 23 HK9.out _ Tryd.underlying23 rfl 32 size_digest HX.out.size) rfl ⟨rfl, HB9.out⟩
set_option maxHeartbeats 4000000 in
theorem lonode_any (a b : List Int) (w : World) (ha : Dg a) (hb_ : Dg b) (tab : ShaTab w) :
    Calls Tryd.prog 57 #[.agg (a.map (Value.int .u8)).toArray, .agg (b.map (Value.int .u8)).toArray] w fun e w' => e = .returned (.agg ((nodeL a b).map (Value.int .u8)).toArray) ∧ Below w.heap.size w w' := by
  have CS := hid (fun (W : World) (g g0 : Nat) (h : Blk W g #[.slice (some ⟨g0, 0, none⟩) 1 1, .slice (some ⟨w.heap.size, 0, none⟩) 32 32, .slice (some ⟨w.heap.size + 1, 0, none⟩) 32 32] 29) (h0 : Blk W g0 (([1] : List Int).map (Value.int .u8)).toArray 5) (ka : Blk W w.heap.size (a.map (Value.int .u8)).toArray 23) (kb : Blk W (w.heap.size + 1) (b.map (Value.int .u8)).toArray 23) (t : ShaTab W) => sum_any (some ⟨g, 0, none⟩) 3 3 [[1], a, b] W (TextsAt.of_blk h rfl (Nat.le_refl _) (by omega) fun j hj => by
    match j, hj with
    | 0, _ => exact ⟨_, _, _, rfl, TextAt.of_ints h0 rfl (by omega) (by simp)⟩
    | 1, _ => exact ⟨_, _, _, rfl, ha.text ka⟩
    | 2, _ => exact ⟨_, _, _, rfl, hb_.text kb⟩) (by simp only [sumLen, List.map_cons, List.map_nil, List.sum_cons, List.sum_nil, List.length_cons, List.length_nil, ha.len, hb_.len]; omega) t)
  have HX := hid (Dg.nodeL a b)
  rw [show ([[1], a, b] : List (List Int)).flatten = 1 :: (a ++ b) by simp, show sumZ (1 :: (a ++ b)) = nodeL a b by unfold nodeL; rfl] at CS
  generalize nodeL a b = X at *
  have b1 := (Below.refl w.heap.size w).alloc (Nat.le_refl _) (.cells (a.map (Value.int .u8)).toArray 23 (0, 0))
  have b2 := b1.alloc b1.size (.cells (b.map (Value.int .u8)).toArray 23 (0, 0))
  have b3 := b2.alloc b2.size (.cells (byteCells 32 []) 23 (0, 0))
  have Ka := hid (((Blk.new (w := w) (n := w.heap.size) rfl (a.map (Value.int .u8)).toArray 23).old (.cells (b.map (Value.int .u8)).toArray 23 (0, 0))).old (.cells (byteCells 32 []) 23 (0, 0)))
  have Kb := hid ((Blk.new (w := (w.alloc (.cells (a.map (Value.int .u8)).toArray 23 (0, 0)))) (n := w.heap.size + 1) (by simp only [World.size_alloc]) (b.map (Value.int .u8)).toArray 23).old (.cells (byteCells 32 []) 23 (0, 0)))
  have Kr := hid (Blk.new (w := ((w.alloc (.cells (a.map (Value.int .u8)).toArray 23 (0, 0))).alloc (.cells (b.map (Value.int .u8)).toArray 23 (0, 0)))) (n := w.heap.size + 1 + 1) (by simp only [World.size_alloc]) (byteCells 32 []) 23)
  have Hb := hid b3
  have hbz := b3.size
  have Hbs := hid (show w.heap.size + 1 + 1 + 1 = (((w.alloc (.cells (a.map (Value.int .u8)).toArray 23 (0, 0))).alloc (.cells (b.map (Value.int .u8)).toArray 23 (0, 0))).alloc (.cells (byteCells 32 []) 23 (0, 0))).heap.size by simp only [World.size_alloc])
  have Htab := hid tab
  clear b1 b2 b3 tab 
  go_enter Tryd.func57, Tryd.ntmps57
  go_wp2_with fail
  refine wp_region_flow 5 [1, 2] [0] [(.b 0, [], [3]), (.b 3, [4], [])] (by kernel_rfl) (by kernel_rfl) ?_
  apply Exists.intro
  refine ⟨fun w0 hb0 hF0 => ?_, ?_⟩
  · skip
    simp only [pick, List.getElem?_toArray, List.getElem?_cons_succ, List.getElem?_cons_zero, Option.toList_some, List.cons_append, List.nil_append]
    repeat (first | go_big_quiet_step (fail))
    exact wpQuiet_nil rfl
  refine AlChk.one rfl (fun b => .slice (some ⟨b, 0, none⟩) 1 1) (.cells #[.int .u8 1] 5 (0, 0)) rfl (fun w3 hb3 hF3 => by go_simp) ?_
  refine AlChk.nil ?_
  refine Walk.blk rfl (fun b => .slice (some ⟨b, 0, none⟩) 1 1) (.cells #[.int .u8 1] 5 (0, 0)) (by simp) ?_
  intro b8 w1 hb1 hF1 hge1 _
  apply Exists.intro
  refine ⟨fun w2 hb2 hF2 => wpQuiet_nil rfl, ?_⟩
  refine AlChk.one rfl (fun b => .slice (some ⟨b, 0, none⟩) 3 3) (.cells #[.slice (some ⟨b8, 0, none⟩) 1 1, .slice (some ⟨w.heap.size, 0, none⟩) 32 32, .slice (some ⟨w.heap.size + 1, 0, none⟩) 32 32] 29 (0, 0)) rfl (fun w3 hb3 hF3 => by go_simp) ?_
  refine AlChk.nil ?_
  refine Walk.blk rfl (fun b => .slice (some ⟨b, 0, none⟩) 3 3) (.cells #[.slice (some ⟨b8, 0, none⟩) 1 1, .slice (some ⟨w.heap.size, 0, none⟩) 32 32, .slice (some ⟨w.heap.size + 1, 0, none⟩) 32 32] 29 (0, 0)) (by simp) ?_
  intro b9 w2 hb2 hF2 hge2 _
  apply Exists.intro
  refine ⟨fun w0 hb0 hF0 => ?_, ?_⟩
  · have k9 : Blk w0 b9 #[.slice (some ⟨b8, 0, none⟩) 1 1, .slice (some ⟨w.heap.size, 0, none⟩) 32 32, .slice (some ⟨w.heap.size + 1, 0, none⟩) 32 32] 29 := hF0.2
    have k8 : Blk w0 b8 (([1] : List Int).map (Value.int .u8)).toArray 5 := hF0.1.2
    have hs := fun e : Ext w0 => CS.out e.at_ b9 b8 (k9.below e.same) (k8.below e.same) ((Ka.out.below hb0).below e.same) ((Kb.out.below hb0).below e.same) ((Htab.out.below (Below.on Hb.out hb0)).below e.same)
    simp only [pick, List.getElem?_toArray, List.getElem?_cons_succ, List.getElem?_cons_zero, Option.toList_some, List.cons_append, List.nil_append, Act.put, List.setIfInBounds_toArray, List.set_cons_zero, List.set_cons_succ]
    repeat (go_big_quiet_step (first | (go_at_call 59; exact Calls.ext (hs _))))
    exact wpQuiet_nil rfl
  refine AlChk.nil ?_
  refine Walk.fin fun w4 h4 _ _ => ?_
  simp only [List.drop_succ_cons, List.drop_zero]
  have HBw4 := hid (Below.on Hb.out h4)
  have hsw4 := HBw4.out.size
  have Kaw4 := hid (Ka.out.below h4)
  have Kbw4 := hid (Kb.out.below h4)
  have Krw4 := hid (Kr.out.below h4)
  clear h4
  go_wp2_with (
      refine wpList_store_blk rfl 23 _ _ rfl (w.heap.size + 1 + 1) (X.map (Value.int .u8)).toArray rfl rfl _ 23 Krw4.out 32 size_digest zsize HX.out.size (ints_one _ _) ?_
      intro w9 hb9 hk9
      have HB9 := hid (hb9.below HBw4.out HBw4.out.size (by omega))
      have HK9 := hid hk9
      clear hb9 hk9)
  exact bodyPost_ret (v := .agg (X.map (Value.int .u8)).toArray) (results_blk Tryd.results57 _ (w.heap.size + 1 + 1) rfl _ 23 HK9.out _ Tryd.underlying23 rfl 32 size_digest HX.out.size) rfl ⟨rfl, HB9.out⟩
set_option maxHeartbeats 4000000 in
theorem refnode_any (a b : List Int) (w : World) (ha : Dg a) (hb_ : Dg b) :
    Calls Tryd.prog 67 #[.agg (a.map (Value.int .u8)).toArray, .agg (b.map (Value.int .u8)).toArray] w fun e w' => e = .returned (.agg ((nodeL a b).map (Value.int .u8)).toArray) ∧ Below w.heap.size w w' := by
  have CS := hid (fun (x : Option Addr) (c : Nat) (W : World) (h : TextAt W x 65 c (1 :: (a ++ b))) => refsum_any x 65 c (1 :: (a ++ b)) W h (by omega))
  have HX := hid (Dg.nodeL a b)
  rw [show sumZ (1 :: (a ++ b)) = nodeL a b by unfold nodeL; rfl] at CS
  generalize nodeL a b = X at *
  have b1 := (Below.refl w.heap.size w).alloc (Nat.le_refl _) (.cells (a.map (Value.int .u8)).toArray 23 (0, 0))
  have b2 := b1.alloc b1.size (.cells (b.map (Value.int .u8)).toArray 23 (0, 0))
  have b3 := b2.alloc b2.size (.cells (byteCells 32 []) 23 (0, 0))
  have Ka := hid (((Blk.new (w := w) (n := w.heap.size) rfl (a.map (Value.int .u8)).toArray 23).old (.cells (b.map (Value.int .u8)).toArray 23 (0, 0))).old (.cells (byteCells 32 []) 23 (0, 0)))
  have Kb := hid ((Blk.new (w := (w.alloc (.cells (a.map (Value.int .u8)).toArray 23 (0, 0)))) (n := w.heap.size + 1) (by simp only [World.size_alloc]) (b.map (Value.int .u8)).toArray 23).old (.cells (byteCells 32 []) 23 (0, 0)))
  have Kr := hid (Blk.new (w := ((w.alloc (.cells (a.map (Value.int .u8)).toArray 23 (0, 0))).alloc (.cells (b.map (Value.int .u8)).toArray 23 (0, 0)))) (n := w.heap.size + 1 + 1) (by simp only [World.size_alloc]) (byteCells 32 []) 23)
  have Hb := hid b3
  have hbz := b3.size
  have Hbs := hid (show w.heap.size + 1 + 1 + 1 = (((w.alloc (.cells (a.map (Value.int .u8)).toArray 23 (0, 0))).alloc (.cells (b.map (Value.int .u8)).toArray 23 (0, 0))).alloc (.cells (byteCells 32 []) 23 (0, 0))).heap.size by simp only [World.size_alloc])
  clear b1 b2 b3 
  go_enter Tryd.func67, Tryd.ntmps67
  go_wp2_with fail
  have HBB : Hid (w.heap.size + 1 + 1 + 1 ≤ (((w.alloc (.cells (a.map (Value.int .u8)).toArray 23 (0, 0))).alloc (.cells (b.map (Value.int .u8)).toArray 23 (0, 0))).alloc (.cells (byteCells 32 []) 23 (0, 0))).heap.size) := hid (Nat.le_of_eq Hbs.out)
  obtain ⟨i0, hi, hz0, hz1, hz2⟩ := info_parts info_byte
  refine FlowB.wp_region_typed (w.heap.size + 1 + 1 + 1) 5 4 [1, 3] [] [(.c 0, [], []), (.c 2, [], [])] (by kernel_rfl) (by kernel_rfl) ?_
  apply Exists.intro
  refine ⟨fun w0 hb0 hF0 => ?_, ?_⟩
  · simp only [pick, List.getElem?_toArray, List.getElem?_cons_succ, List.getElem?_cons_zero, Option.toList_some, List.cons_append, List.nil_append]
    repeat (go_big_quiet_step (fail))
    exact wpQuiet_nil rfl
  refine FlowB.AlChk.nil ?_
  refine FlowB.Walk.does rfl (fun _ _ => True) (fun v w' => OwnB w' (w.heap.size + 1 + 1 + 1) 5 v [1]) (fun v w' w'' _ h _ => h) (fun v w' w'' h k => h.below k) rfl (fun w5 hb5 hF5 _ => ?_) ?_
  · exact ⟨.slice (some ⟨w5.heap.size, 0, none⟩) 1 1, w5.alloc (.cells (([1] : List Int).map (Value.int .u8)).toArray 5), by first | (go_simp; done) | (go_simp; rfl), (FlowB.rel_typed _ _).of ((Below.refl _ _).alloc (Nat.le_refl _) _), trivial, OwnB.of_blk (Blk.new rfl _ _) (Nat.le_trans HBB.out hb5.size) rfl (by omega) (by simp)⟩
  rintro vl w5 hb5 hF5 _
  apply Exists.intro
  refine ⟨fun w4 hb4 hF4 => wpQuiet_nil rfl, ?_⟩
  refine FlowB.AlChk.nil ?_
  refine FlowB.Walk.does rfl (fun _ _ => True) (fun v w' => OwnB w' (w.heap.size + 1 + 1 + 1) 5 v ([1] ++ a)) (fun v w' w'' _ h _ => h) (fun v w' w'' h k => h.below k) rfl (fun w2 hb2 hF2 hG2 => ?_) ?_
  · have hbB := hb2.below (B := w.heap.size + 1 + 1 + 1) HBB.out
    obtain ⟨v', w', hr, q2, q3, q4⟩ := run_append_text (P := Tryd.prog) 29 Tryd.underlying29 hi hz0 hz1 hz2 hG2 (ha.text (Ka.out.belowB (by omega) hbB)) (by simp) (Nat.le_trans HBB.out hb2.size)
    exact ⟨v', w', FlowB.exec_append rfl rfl rfl hr, hG2.typed (Nat.le_refl _) q3, trivial, q2⟩
  rintro v3 w3 hb3 hF3 _
  apply Exists.intro
  refine ⟨fun w2 hb2 hF2 => wpQuiet_nil rfl, ?_⟩
  refine FlowB.AlChk.nil ?_
  refine FlowB.Walk.fin fun w4 h4 _ hG4 => ?_
  simp only [List.drop_succ_cons, List.drop_zero]
  have hbB := h4.below (B := w.heap.size + 1 + 1 + 1) HBB.out
  have Kr4 := hid (Kr.out.belowB (by omega) hbB)
  have Kb4 := hid (Kb.out.belowB (by omega) hbB)
  have Hb4 := hid (Hb.out.trans (hbB.mono (by omega)))
  have Ho4 := hid (show OwnB w4 (w.heap.size + 1 + 1 + 1) 5 v3 ([1] ++ a) from hG4)
  have hsz4 : w.heap.size + 1 + 1 + 1 ≤ w4.heap.size := Nat.le_trans HBB.out h4.size
  clear h4 hG4 hbB Kr Ka Hb
  go_wp2_with (at_builtin; refine wpList_append_text rfl _ _ rfl Tryd.underlying29 hi hz0 hz1 hz2 rfl Ho4.out rfl (hb_.text Kb4.out) (by rw [List.length_append, ha.len]; simp) hsz4 ?_)
  intro v5 w5 own5 _ b5
  obtain ⟨a5, c5, rfl, hT5, _⟩ := own5.text
  rw [show (1 :: (a ++ b)).length = 65 by rw [List.length_cons, List.length_append, ha.len, hb_.len]] at hT5 ⊢
  have HT5 := hid hT5
  have HBw5 := hid (Hb4.out.trans (b5.mono (by omega)))
  have Krw5 := hid (Kr4.out.belowB (by omega) b5)
  clear own5 hT5 b5
  go_wp2_with fail
  refine (CS.out a5 c5 w5 HT5.out).mono ?_
  rintro e w6 ⟨rfl, b6⟩
  have HBw6 := hid (Below.on HBw5.out b6)
  have Krw6 := hid (Krw5.out.below b6)
  clear b6 HT5
  go_wp2_with (
      refine wpList_store_blk rfl 23 _ _ rfl (w.heap.size + 1 + 1) (X.map (Value.int .u8)).toArray rfl rfl _ 23 Krw6.out 32 size_digest zsize HX.out.size (ints_one _ _) ?_
      intro w9 hb9 hk9
      have HB9 := hid (hb9.below HBw6.out HBw6.out.size (by omega))
      have HK9 := hid hk9
      clear hb9 hk9)
  exact bodyPost_ret (v := .agg (X.map (Value.int .u8)).toArray) (results_blk Tryd.results67 _ (w.heap.size + 1 + 1) rfl _ 23 HK9.out _ Tryd.underlying23 rfl 32 size_digest HX.out.size) rfl ⟨rfl, HB9.out⟩
end Go.Proofs.YtkakoiaahgchmaaDoor
namespace Go.Proofs.YtkakoiaahgchmaaDoor
set_option maxRecDepth 100000
open Go.ChangeShapes Go.WideShapes Go.ChangeAt Go.RowKit
section
variable {P : Program} {ops : Array Oper} {rest : List Oper} {op : Oper} {a : Act} {w : World} {Q : Exit → Act → World → Prop} {t e : TypeId}
/-- An element's address, of elements of s cells. -/
theorem run_indexAt_s (s : Nat) (ht : P.underlying t = some (.slice e)) (hs : (P.info? e).map (·.size) = some s) (b o len cap : Nat) (k : IntKind) (i : Int) (j : Nat) (hi : i = j) (hj : j < len) (w : World) :
    (Instr.indexAt t (.slice (some ⟨b, o, none⟩) len cap) (.int k i)).run P w = .ok (.pointer (some ⟨b, o + j * s, none⟩)) w := by
  subst hi
  obtain ⟨i0, hi0, h32⟩ := Option.map_eq_some_iff.1 hs
  have hlt : (0 : Int) ≤ j ∧ (j : Int) < len := by omega
  unfold Instr.indexAt
  simp [asIntOf, Sem.run_bind, run_underlying ht, hlt, sizeOf, typeInfo, hi0, h32, hj, Addr.add_mid]
theorem quiet_index_s (s : Nat) {C : World → Prop} {K : Act → Prop} (ty : TypeId) (x ix : Operand) (ho : op.op = .indexAddr ty x ix) (ht : P.underlying ty = some (.slice e)) (hs : (P.info? e).map (·.size) = some s) (b o len cap : Nat) (hx : a.eval x = .slice (some ⟨b, o, none⟩) len cap)
    (k : IntKind) (i : Int) (hix : a.eval ix = .int k i) (j : Nat) (hi : i = j) (hj : j < len) (h : K (a.put op.dst (.pointer (some ⟨b, o + j * s, none⟩)))) : op.quiet P a C K :=
  ⟨.pointer (some ⟨b, o + j * s, none⟩), fun w' hw' => by
    unfold Oper.quietAt execOp
    simp only [ho, hx, hix, Sem.run_bind, Sem.run_pure, Result.andThen_ok, run_indexAt_s s ht hs b o len cap k i j hi hj]
    simp [Oper.quietUpon], h⟩
end
/-- The way of a place. -/
def pathL : Nat → List (List Int) → Nat → List (List Int)
  | 0, _, _ => []
  | f + 1, ts, i => if ts.length = 1 then [] else if i < halfN ts.length then pathL f (ts.take (halfN ts.length)) i ++ [rootL f (ts.drop (halfN ts.length))] else pathL f (ts.drop (halfN ts.length)) (i - halfN ts.length) ++ [rootL f (ts.take (halfN ts.length))]
/-- The way from a beginning. -/
def growL : Nat → List (List Int) → Nat → Bool → List (List Int)
  | 0, _, _, _ => []
  | f + 1, ts, m, cut => if m = ts.length then (if cut then [rootL (f + 1) ts] else []) else if m ≤ halfN ts.length then growL f (ts.take (halfN ts.length)) m cut ++ [rootL f (ts.drop (halfN ts.length))] else growL f (ts.drop (halfN ts.length)) (m - halfN ts.length) true ++ [rootL f (ts.take (halfN ts.length))]
set_option maxHeartbeats 4000000 in
theorem refhalf_any (k : Nat) : ∀ (n : Nat) (w : World), n ≤ k → 2 ≤ n → n ≤ 1000000 → Calls Tryd.prog 47 #[.int .i64 n] w fun e w' => e = .returned (.int .i64 (halfN n : Int)) ∧ w' = w := by
  induction k with
  | zero => intro n w h1 h2 _; omega
  | succ k ih =>
    intro n w h1 h2 h3
    rcases Nat.eq_or_lt_of_le h2 with rfl | hlt
    · go_enter Tryd.func47, Tryd.ntmps47
      go_wp2_with fail
      go_ret
      exact ⟨by rw [halfN_two]; rfl, rfl⟩
    · have hne : ¬ ((n : Int) = 2) := by omega
      have hh := halfN_lt (n := (n + 1) / 2) (by omega)
      have hw1 : wrap64 ((n : Int) + 1) = (n : Int) + 1 := by unfold wrap64; omega
      have hd : Int.tdiv ((n : Int) + 1) 2 = (((n + 1) / 2 : Nat) : Int) := by rw [Int.tdiv_eq_ediv_of_nonneg (by omega)]; omega
      have hd2 : ((n : Int) + 1) / 2 = (((n + 1) / 2 : Nat) : Int) := by omega
      have hw2 : wrap64 (((n + 1) / 2 : Nat) : Int) = (((n + 1) / 2 : Nat) : Int) := by unfold wrap64; omega
      have hs := halfN_step hlt
      have hw3 : wrap64 (2 * (halfN ((n + 1) / 2) : Int)) = (halfN n : Int) := by unfold wrap64; omega
      have ih2 := ih ((n + 1) / 2)
      generalize (n + 1) / 2 = q at *
      go_enter Tryd.func47, Tryd.ntmps47
      go_wp2_with (go_at_call 47; refine (ih2 _ (by omega) (by omega) (by omega)).mono ?_; rintro e w' ⟨rfl, rfl⟩)
      go_ret
      exact ⟨by rw [show ((halfN n : Nat) : Int) = 2 * (halfN q : Int) by omega]; rfl, rfl⟩
section
variable {P : Program} {ops : Array Oper} {rest : List Oper} {op : Oper} {a : Act} {w : World} {Q : Exit → Act → World → Prop}
theorem wpList_index_len8 (hgd : op.guard = none) (t : TypeId) (s : ByteArray) (x : Operand) (ho : op.op = .index t (.const (.string s)) x) (hs : s = Lib.len8tab) (ht : P.underlying t = some .string) (k : IntKind) (i : Int) (hx : a.eval x = .int k i) (h0 : 0 ≤ i) (h1 : i ≤ 255)
    (h : wpList P ops Q rest (a.put op.dst (.int .u8 (Lib.len8 i))) w) : wpList P ops Q (op :: rest) a w :=
  wpList_plain hgd fun K hK => by
    subst hs
    unfold Oper.wp execOp
    have hc : a.eval (.const (.string Lib.len8tab)) = .string Lib.len8tab := rfl
    simp only [ho, hx, hc, Sem.run_bind, Sem.run_pure, Result.andThen_ok, Lib.run_index_len8tab w t k i ht h0 h1, Oper.upon_value]
    exact hK _ _ h
end
theorem len8_log (x : Nat) (hx : x < 256) : Lib.len8 (x : Int) = (if x = 0 then 0 else (Nat.log2 x : Int) + 1) :=
  (by decide +kernel : ∀ i : Fin 256, Lib.len8 ((i.val : Nat) : Int) = (if i.val = 0 then 0 else (Nat.log2 i.val : Int) + 1)) ⟨x, hx⟩
set_option maxHeartbeats 4000000 in
theorem len64_any (x : Int) (w : World) (h0 : 0 ≤ x) (h1 : x ≤ 255) : Calls Tryd.prog 85 #[.int .u64 x] w fun e w' => e = .returned (.int .i64 (Lib.len8 x)) ∧ w' = w := by
  have h2 : ¬ (4294967296 ≤ x) := by omega
  have h3 : ¬ (65536 ≤ x) := by omega
  have h4 : ¬ (256 ≤ x) := by omega
  have h5 : x % 256 = x := by omega
  have h6 : wrap64 (Lib.len8 x) = Lib.len8 x := by
    obtain ⟨n, rfl⟩ := Int.eq_ofNat_of_zero_le h0
    have hn : n < 256 := by omega
    have hl : Nat.log2 n ≤ 7 := (by decide +kernel : ∀ i : Fin 256, Nat.log2 i.val ≤ 7) ⟨n, hn⟩
    rw [len8_log n hn]
    unfold wrap64
    split <;> omega
  go_enter Tryd.func85, Tryd.ntmps85
  go_wp2_with (refine wpList_index_len8 rfl _ _ _ rfl (by kernel_rfl) Tryd.underlying9 .u8 x rfl (by omega) (by omega) ?_)
  go_ret
  exact ⟨by first | rfl | (rw [h6]; rfl) | (rw [h6, h6]; rfl), rfl⟩
set_option maxHeartbeats 4000000 in
theorem len_any (x : Int) (w : World) (h0 : 0 ≤ x) (h1 : x ≤ 255) : Calls Tryd.prog 77 #[.int .u64 x] w fun e w' => e = .returned (.int .i64 (Lib.len8 x)) ∧ w' = w := by
  go_enter Tryd.func77, Tryd.ntmps77
  go_wp2_with (go_at_call 85; refine (len64_any x _ h0 h1).mono ?_; rintro e w' ⟨rfl, rfl⟩)
  go_ret
  exact ⟨rfl, rfl⟩
theorem log2_half {n : Nat} (h : 2 ≤ n) (h2 : n ≤ 256) : ∃ k : Nat, k ≤ 7 ∧ Lib.len8 ((n : Int) - 1) = (k : Int) + 1 ∧ halfN n = 2 ^ k := by
  refine ⟨Nat.log2 (n - 1), (by decide +kernel : ∀ i : Fin 256, Nat.log2 i.val ≤ 7) ⟨n - 1, by omega⟩, ?_, rfl⟩
  have := len8_log (n - 1) (by omega)
  rw [if_neg (by omega)] at this
  rw [← this]
  congr 1
  omega
theorem wrap_pow7 {n : Nat} (h : n ≤ 7) : wrap64 ((2 : Int) ^ n) = ((2 ^ n : Nat) : Int) := (by decide +kernel : ∀ i : Fin 8, wrap64 ((2 : Int) ^ i.val) = ((2 ^ i.val : Nat) : Int)) ⟨n, by omega⟩
end Go.Proofs.YtkakoiaahgchmaaDoor
namespace Go.Proofs.YtkakoiaahgchmaaDoor
set_option maxRecDepth 100000
open Go.ChangeShapes Go.WideShapes Go.ChangeAt Go.RowKit
section
variable {P : Program} {ops : Array Oper} {rest : List Oper} {op : Oper} {a : Act} {w : World} {Q : Exit → Act → World → Prop}
/-- One cell is stored. -/
theorem run_store_one {ty : TypeId} {b o : Nat} {v : Value} {cs : Array Value} {T : TypeId} (w : World) (hk : Blk w b cs T) (ho : o < cs.size) (hi : (P.info? ty).map (·.size) = some 1) (h1 : v.oneCell' = true) (hc : v.cells = #[v]) :
    (storeVar ty ⟨b, o, none⟩ v).run P w = .ok () (w.setCells b o [v]) := by
  have h := run_storeVar_mid (P := P) w b o ty #[v] (fun j hj => ⟨by
    simp only [List.size_toArray, List.length_cons, List.length_nil] at hj
    rw [hk.cell, Array.getElem?_eq_getElem (by omega)]; rfl, hk.free _⟩) (by rw [hi]; rfl) (by simp [h1])
  unfold storeVar at *
  rw [hc]
  exact h
theorem wpList_store_cell (hgd : op.guard = none) (ty : TypeId) (x y : Operand) (ho : op.op = .store ty x y) (b o : Nat) (v : Value) (hx : a.eval x = .pointer (some ⟨b, o, none⟩)) (hy : a.eval y = v) (h1 : v.oneCell' = true) (hc : v.cells = #[v])
    (cs : Array Value) (T : TypeId) (hk : Blk w b cs T) (hlt : o < cs.size) (hi : (P.info? ty).map (·.size) = some 1)
    (h : ∀ w', But b w w' → Blk w' b (cs.setIfInBounds o v) T → wpList P ops Q rest (a.put op.dst undef) w') : wpList P ops Q (op :: rest) a w :=
  wpList_plain hgd fun K hK => by
    unfold Oper.wp execOp
    simp only [ho, hx, hy, Instr.storeAt, Instr.sureAddr, Sem.run_bind, Sem.run_pure, Result.andThen_ok, run_store_one w hk hlt hi h1 hc, Oper.upon_skip]
    exact hK _ _ (h _ (But.setCells [v] o w (But.of (Below.refl _ _))) (hk.set o v))
end
/-- What is taken, where so many are left. -/
def takeZ (ds : List (List Int)) (left : Int) : List Int := if left - 1 < 0 then zD else ds.getD (left - 1).toNat []
/-- What lies around while a way is climbed. -/
structure HEnv (w : World) (bb bt ba bl bw : Nat) (ta : Option Addr) (tn tc : Nat) (m : List Int) (ya : Option Addr) (yn yc : Nat) (ds : List (List Int)) : Prop where
  kb : Blk w bb #[.slice ta tn tc] 29
  kt : Blk w bt #[.func (.func 75) #[] #[.pointer (some ⟨bl, 0, none⟩), .pointer (some ⟨bw, 0, none⟩)]] 88
  ka : Blk w ba #[.func (.func 55) #[] #[.pointer (some ⟨bb, 0, none⟩), .pointer (some ⟨bt, 0, none⟩), .pointer (some ⟨ba, 0, none⟩)]] 91
  kw : Blk w bw #[.slice ya yn yc] 24
  text : TextAt w ta tn tc m
  way : DigsAt w ya yn yc ds
  tab : ShaTab w
  nb : bb ≠ bl
  nt : bt ≠ bl
  na : ba ≠ bl
  nw : bw ≠ bl
/-- What climbing from a leaf comes to, and how many digests are left then. -/
def upZ : Nat → List Int → Nat → Int → List (List Int) → Int → List Int × Int
  | 0, X, _, _, _, left => (X, left)
  | f + 1, X, n, i, ds, left => if n = 1 then (X, left) else if i < halfN n then
      (nodeL (upZ f X (halfN n) i ds (left - 1)).1 (takeZ ds left), (upZ f X (halfN n) i ds (left - 1)).2)
    else (nodeL (takeZ ds left) (upZ f X (n - halfN n) (i - halfN n) ds (left - 1)).1, (upZ f X (n - halfN n) (i - halfN n) ds (left - 1)).2)
end Go.Proofs.YtkakoiaahgchmaaDoor
namespace Go.Proofs.YtkakoiaahgchmaaDoor
set_option maxRecDepth 100000
open Go.ChangeShapes Go.WideShapes Go.ChangeAt Go.RowKit
theorem st_butIn {b : Nat} {w : World} (obj : Obj) (hb : b < w.heap.size) : FlowB.St (FlowB.ButIn [b]) w obj := fun w1 w2 c h1 h2 hc ho => by
  have hlt : c < w1.heap.size := by
    have := (Array.getElem?_eq_some_iff.1 ho).1
    exact this
  rw [h2.block c hlt (by simp only [List.mem_cons, List.not_mem_nil, or_false]; omega)]
  exact ho
end Go.Proofs.YtkakoiaahgchmaaDoor
namespace Go.Proofs.YtkakoiaahgchmaaDoor
set_option maxRecDepth 100000
open Go.ChangeShapes Go.WideShapes Go.ChangeAt Go.RowKit
/-- Climbing, as the reference does it: with the digests that are left. -/
def upR : Nat → List Int → Nat → Nat → List (List Int) → List Int × Bool
  | 0, X, _, _, _ => (X, false)
  | f + 1, X, n, i, ds => if n = 1 then (X, decide (ds.length = 0)) else if ds.length = 0 then (X, false) else if i < halfN n then
      (nodeL (upR f X (halfN n) i (ds.take (ds.length - 1))).1 (ds.getD (ds.length - 1) []), (upR f X (halfN n) i (ds.take (ds.length - 1))).2)
    else (nodeL (ds.getD (ds.length - 1) []) (upR f X (n - halfN n) (i - halfN n) (ds.take (ds.length - 1))).1, (upR f X (n - halfN n) (i - halfN n) (ds.take (ds.length - 1))).2)
end Go.Proofs.YtkakoiaahgchmaaDoor
namespace Go.Proofs.YtkakoiaahgchmaaDoor
set_option maxRecDepth 100000
open Go.ChangeShapes Go.WideShapes Go.ChangeAt Go.RowKit
structure GEnv (w : World) (ba bt bs bl bw : Nat) (A : List Int) (ya : Option Addr) (yn yc : Nat) (ds : List (List Int)) : Prop where
  kb : Blk w ba (A.map (Value.int .u8)).toArray 23
  kt : Blk w bt #[.func (.func 75) #[] #[.pointer (some ⟨bl, 0, none⟩), .pointer (some ⟨bw, 0, none⟩)]] 88
  ka : Blk w bs #[.func (.func 58) #[] #[.pointer (some ⟨ba, 0, none⟩), .pointer (some ⟨bt, 0, none⟩), .pointer (some ⟨bs, 0, none⟩)]] 93
  kw : Blk w bw #[.slice ya yn yc] 24
  way : DigsAt w ya yn yc ds
  tab : ShaTab w
  nb : ba ≠ bl
  nt : bt ≠ bl
  na : bs ≠ bl
  nw : bw ≠ bl
/-- What climbing from a beginning comes to, and how many digests are left then. -/
def groZ : Nat → List Int → Nat → Nat → Bool → List (List Int) → Int → (List Int × List Int) × Int
  | 0, A, _, _, _, _, left => ((A, A), left)
  | f + 1, A, m, n, cut, ds, left => if m = n then (if cut then ((takeZ ds left, takeZ ds left), left - 1) else ((A, A), left))
    else if m ≤ halfN n then
      (((groZ f A m (halfN n) cut ds (left - 1)).1.1, nodeL (groZ f A m (halfN n) cut ds (left - 1)).1.2 (takeZ ds left)), (groZ f A m (halfN n) cut ds (left - 1)).2)
    else ((nodeL (takeZ ds left) (groZ f A (m - halfN n) (n - halfN n) true ds (left - 1)).1.1, nodeL (takeZ ds left) (groZ f A (m - halfN n) (n - halfN n) true ds (left - 1)).1.2), (groZ f A (m - halfN n) (n - halfN n) true ds (left - 1)).2)
end Go.Proofs.YtkakoiaahgchmaaDoor
namespace Go.Proofs.YtkakoiaahgchmaaDoor
set_option maxRecDepth 100000
open Go.ChangeShapes Go.WideShapes Go.ChangeAt Go.RowKit
/-- Climbing from a beginning, as the reference does it: with the digests that are left. -/
def bothR : Nat → List Int → Nat → Nat → Bool → List (List Int) → (List Int × List Int) × Bool
  | 0, A, _, _, _, _ => ((A, A), false)
  | f + 1, A, m, n, cut, ds => if m = n then (if cut then (if ds.length = 1 then ((ds.getD 0 [], ds.getD 0 []), true) else ((A, A), false)) else ((A, A), decide (ds.length = 0)))
    else if ds.length = 0 then ((A, A), false)
    else if m ≤ halfN n then (((bothR f A m (halfN n) cut (ds.take (ds.length - 1))).1.1, nodeL (bothR f A m (halfN n) cut (ds.take (ds.length - 1))).1.2 (ds.getD (ds.length - 1) [])), (bothR f A m (halfN n) cut (ds.take (ds.length - 1))).2)
    else ((nodeL (ds.getD (ds.length - 1) []) (bothR f A (m - halfN n) (n - halfN n) true (ds.take (ds.length - 1))).1.1, nodeL (ds.getD (ds.length - 1) []) (bothR f A (m - halfN n) (n - halfN n) true (ds.take (ds.length - 1))).1.2), (bothR f A (m - halfN n) (n - halfN n) true (ds.take (ds.length - 1))).2)
end Go.Proofs.YtkakoiaahgchmaaDoor
namespace Go.Proofs.YtkakoiaahgchmaaDoor
set_option maxRecDepth 100000
open Go.RowKit
section
variable {P : Program} {ops : Array Oper} {md : Region.Mode}
/-- The walk, with the blocks that it has met. -/
def WalkD (P : Program) (ops : Array Oper) (R : World → World → Prop) (w : World) (Fin : Act → World → Prop) : List (Nd × List Nat × List Nat) → Pend → List Nat → Act → (World → Prop) → (World → Prop) → Prop
  | [], _, _, A, F, G => ∀ w1, R w w1 → F w1 → G w1 → Fin A w1
  | (.c j, lv, al) :: ph, pd, ks, A, F, G => ∃ o, ops[j]? = some o ∧ ∃ Fact Gact : Value → World → Prop, (∀ v w' w'', R w w' → Fact v w' → R w' w'' → Fact v w'') ∧ (∀ v w' w'', Gact v w' → Below w'.heap.size w' w'' → Gact v w'') ∧
      (∀ w1, R w w1 → F w1 → G w1 → NdOK P ops R A w1 (fun v w2 => Fact v w2 ∧ Gact v w2) o) ∧
      ∀ v w0, R w w0 → F w0 → Fact v w0 → After P ops R w (fun w1 => F w1 ∧ Fact v w1) (fun pd' A' => WalkD P ops R w Fin ph pd' ks A' (fun w1 => F w1 ∧ Fact v w1) (Gact v)) lv al pd (A.put o.dst v)
  | (.b j, lv, al) :: ph, pd, ks, A, F, G => ∃ o, ops[j]? = some o ∧ ∃ mk obj, (j, mk, obj) ∈ pd ∧
      ∀ b w0, R w w0 → F w0 → w.heap.size ≤ b → b ∉ ks → w0.heap[b]? = some obj → After P ops R w (fun w1 => F w1 ∧ w1.heap[b]? = some obj) (fun pd' A' => WalkD P ops R w Fin ph pd' (b :: ks) A' (fun w1 => F w1 ∧ w1.heap[b]? = some obj) G) lv al pd (A.put o.dst (mk b))
/-- The blocks of the operations that have come up are unlike. -/
structure DI (ops : Array Oper) (w : World) (from_ : List Nat) (pd : Pend) (listed : Array Bool) (a' : Act) (w' : World) (ks : List Nat) (β : Nat → Nat) : Prop where
  dl : ∀ p ∈ pd, p.1 ∈ from_ → listed.getD p.1 false = true
  lt : ∀ p ∈ pd, listed.getD p.1 false = true → β p.1 < w'.heap.size
  on : ∀ p ∈ pd, p.1 ∉ from_ → listed.getD p.1 false = true → w.heap.size ≤ β p.1 ∧ w'.heap[β p.1]? = some p.2.2 ∧ ∀ d, (ops[p.1]?).bind (·.dst) = some d → a'.tmps[d]? = slotV a'.tmps.size d (p.2.1 (β p.1))
  inj : ∀ p ∈ pd, ∀ q ∈ pd, listed.getD p.1 false = true → listed.getD q.1 false = true → p.1 ≠ q.1 → β p.1 ≠ β q.1
  kn : ∀ k ∈ ks, ∃ p ∈ pd, p.1 ∈ from_ ∧ β p.1 = k
variable {Q : Exit → Act → World → Prop}
end
end Go.Proofs.YtkakoiaahgchmaaDoor
namespace Go.Proofs.YtkakoiaahgchmaaDoor
set_option maxRecDepth 100000
open Go.ChangeShapes Go.WideShapes Go.ChangeAt Go.RowKit
/-- The empty node of a level. -/
def emptyL : Nat → List Int
  | 0 => sumZ [2]
  | k + 1 => nodeL (emptyL k) (emptyL k)
theorem Dg.emptyL (k : Nat) : Dg (emptyL k) := by
  cases k with
  | zero => exact Dg.sum _
  | succ k => exact Dg.nodeL _ _
/-- The first empty nodes. -/
def empN (n : Nat) : List (List Int) := (List.range n).map emptyL
theorem empN_length (n : Nat) : (empN n).length = n := by simp [empN]
theorem empN_each (n : Nat) : ∀ d ∈ empN n, Dg d := fun d hd => by
  obtain ⟨i, _, rfl⟩ := List.mem_map.1 hd
  exact Dg.emptyL i
theorem empN_succ (n : Nat) : empN (n + 1) = empN n ++ [emptyL n] := by simp [empN, List.range_succ]
theorem empN_get {n k : Nat} (h : k < n) : (empN n).getD k [] = emptyL k := by simp [empN, h]
/-- The row, while it is filled. -/
@[irreducible] def fillE (m k : Nat) : List (List Int) := empN k ++ List.replicate (m - k) zD
theorem fillE_length {m k : Nat} (h : k ≤ m) : (fillE m k).length = m := by
  simp only [fillE, List.length_append, empN_length, List.length_replicate]
  omega
theorem fillE_each (m k : Nat) : ∀ d ∈ fillE m k, Dg d := fun d hd => by
  unfold fillE at hd
  rcases List.mem_append.1 hd with hd | hd
  · exact empN_each k d hd
  · exact zRow _ d hd
theorem fillE_set {m k : Nat} (h : k < m) : (fillE m k).set k (emptyL k) = fillE m (k + 1) := by
  unfold fillE
  rw [List.set_append_right _ _ (by rw [empN_length]; exact Nat.le_refl _), empN_length, Nat.sub_self, show m - k = (m - (k + 1)) + 1 by omega, List.replicate_succ, List.set_cons_zero, empN_succ, List.append_assoc]
  rfl
theorem fillE_zero (m : Nat) : fillE m 0 = List.replicate m zD := by simp [fillE, empN]
theorem fillE_done (m : Nat) : fillE m m = empN m := by simp [fillE]
theorem fillE_get {m k j : Nat} (h : j < k) : (fillE m k).getD j [] = emptyL j := by
  unfold fillE
  rw [List.getD_eq_getElem?_getD, List.getElem?_append_left (by rw [empN_length]; exact h), ← List.getD_eq_getElem?_getD, empN_get h]
theorem dig_rng {w : World} {g : Nat} {ds : List (List Int)} {T : TypeId} (hk : Blk w g (dcs ds) T) (hds : ∀ d ∈ ds, Dg d) {j : Nat} (hj : j < ds.length) : w.rangeAt g (0 + j * 32) ((ds.getD j []).map (Value.int .u8)) := by
  rw [Nat.zero_add]
  exact hk.digs hds j hj
set_option maxHeartbeats 4000000 in
theorem empty_any (w : World) (tab : ShaTab w) :
    Calls Tryd.prog 32 #[] w fun e w' => e = .returned (.slice (some ⟨w.heap.size, 0, none⟩) 257 257) ∧ Below w.heap.size w w' ∧ Blk w' w.heap.size (dcs (empN 257)) 23 := by
  have hmk := fun W : World => make_digs 257 257 rfl (by omega) W
  rw [← fillE_zero 257] at hmk
  have CS := hid (fun (W : World) (g g0 : Nat) (h : Blk W g #[.slice (some ⟨g0, 0, none⟩) 1 1] 29) (h0 : Blk W g0 (([2] : List Int).map (Value.int .u8)).toArray 5) (t : ShaTab W) => sum_any (some ⟨g, 0, none⟩) 1 1 [[2]] W (TextsAt.of_blk h rfl (Nat.le_refl _) (by omega) fun j hj => by
    match j, hj with
    | 0, _ => exact ⟨_, _, _, rfl, TextAt.of_ints h0 rfl (by omega) (by simp)⟩) (by simp only [sumLen, List.map_cons, List.map_nil, List.sum_cons, List.sum_nil, List.length_cons, List.length_nil]; omega) t)
  rw [show ([[2]] : List (List Int)).flatten = [2] by simp, show sumZ [2] = emptyL 0 from rfl] at CS
  have Htab := hid tab
  go_enter Tryd.func32, Tryd.ntmps32
  go_wp2_with fail
  have c0 := (Below.refl w.heap.size w).alloc (Nat.le_refl _) (.cells (dcs (fillE 257 0)) 23 (0, 0))
  have c1 := c0.alloc c0.size (.cells #[.int .u8 2] 5 (0, 0))
  have c2 := c1.alloc c1.size (.cells #[.slice (some ⟨w.heap.size + 1, 0, none⟩) 1 1] 29 (0, 0))
  have k1 : Blk (((w.alloc (.cells (dcs (fillE 257 0)) 23 (0, 0))).alloc (.cells #[.int .u8 2] 5 (0, 0))).alloc (.cells #[.slice (some ⟨w.heap.size + 1, 0, none⟩) 1 1] 29 (0, 0))) (w.heap.size + 1) (([2] : List Int).map (Value.int .u8)).toArray 5 := (Blk.new (w := w.alloc (.cells (dcs (fillE 257 0)) 23 (0, 0))) (n := w.heap.size + 1) (by simp only [World.size_alloc]) #[.int .u8 2] 5).old (.cells #[.slice (some ⟨w.heap.size + 1, 0, none⟩) 1 1] 29 (0, 0))
  have k2 : Blk (((w.alloc (.cells (dcs (fillE 257 0)) 23 (0, 0))).alloc (.cells #[.int .u8 2] 5 (0, 0))).alloc (.cells #[.slice (some ⟨w.heap.size + 1, 0, none⟩) 1 1] 29 (0, 0))) (w.heap.size + 1 + 1) #[.slice (some ⟨w.heap.size + 1, 0, none⟩) 1 1] 29 := Blk.new (w := (w.alloc (.cells (dcs (fillE 257 0)) 23 (0, 0))).alloc (.cells #[.int .u8 2] 5 (0, 0))) (n := w.heap.size + 1 + 1) (by simp only [World.size_alloc]) _ _
  have k0 : Blk (((w.alloc (.cells (dcs (fillE 257 0)) 23 (0, 0))).alloc (.cells #[.int .u8 2] 5 (0, 0))).alloc (.cells #[.slice (some ⟨w.heap.size + 1, 0, none⟩) 1 1] 29 (0, 0))) w.heap.size (dcs (fillE 257 0)) 23 := ((Blk.new rfl _ _).old (.cells #[.int .u8 2] 5 (0, 0))).old (.cells #[.slice (some ⟨w.heap.size + 1, 0, none⟩) 1 1] 29 (0, 0))
  refine (CS.out _ _ _ k2 k1 (Htab.out.below c2)).mono ?_
  rintro e w5 ⟨rfl, b5⟩
  have Hb5 := hid (Below.on c2 b5)
  have Kg5 := hid (k0.below b5)
  have hs5 := Hb5.out.size
  have hg5 := Kg5.out.lt
  clear c0 c1 c2 k0 k1 k2 b5
  go_wp2_with (first
     | (refine wpList_index_digs rfl 24 _ _ rfl Tryd.underlying24 size_digest w.heap.size 0 257 257 rfl _ _ rfl 0 rfl (by omega) ?_)
     | (
        refine wpList_store_dig rfl _ _ _ rfl w.heap.size 0 (emptyL 0) rfl rfl _ 23 Kg5.out (fillE_each 257 0) (Dg.emptyL 0) (by rw [fillE_length (by omega)]; omega) size_digest ?_
        intro w6 hb6 hk6
        rw [fillE_set (by omega)] at hk6
        have Kg6 := hid hk6
        have Hb6 := hid (hb6.below Hb5.out hs5 (Nat.le_refl _))
        clear hb6 hk6))
  go_loopw [9] (fun v wr => ∃ k : Nat, k ≤ 256 ∧ v = .int .i64 k ∧ Blk wr w.heap.size (dcs (fillE 257 (k + 1))) 23 ∧ Below w.heap.size w wr) (fun v _ => 256 - (intOf v).toNat)
  case atStart => exact ⟨0, Nat.zero_le _, rfl, Kg6.out, Hb6.out⟩
  case round =>
    clear Kg6 Hb6 Kg5 Hb5
    obtain ⟨k, hk, rfl, kg, bel⟩ := hrel
    have Kgwr := hid kg
    have HBwr := hid bel
    have hswr := bel.size
    have hgwr := kg.lt
    clear kg bel
    by_cases hlt : k < 256
    · skip
      have hc0 : (k : Int) < 256 := by omega
      go_wp2_with fail
      have HE := hid (Dg.emptyL k)
      have Hrg := hid (dig_rng Kgwr.out (fillE_each 257 (k + 1)) (j := k) (by rw [fillE_length (by omega)]; omega))
      rw [fillE_get (by omega)] at Hrg
      have HNX := hid (show emptyL (k + 1) = nodeL (emptyL k) (emptyL k) from rfl)
      have CN := hid (fun (W : World) (t : ShaTab W) => lonode_any (emptyL k) (emptyL k) W HE.out HE.out t)
      rw [← HNX.out] at CN
      have HX := hid (Dg.emptyL (k + 1))
      generalize hX1 : emptyL (k + 1) = X at *
      generalize emptyL k = E at *
      refine wp_region_flow 12 (List.range 12) [] [] (by kernel_rfl) (by kernel_rfl) ?_
      apply Exists.intro
      refine ⟨fun w0 hb0 hF0 => ?_, ?_⟩
      · skip
        have c0 := fun e : Ext w0 => CN.out e.at_ (Htab.out.below (Below.on (Below.on HBwr.out hb0) e.same))
        have yr : ∀ w', (∃ x : Ext w0, w' = x.at_) → w'.rangeAt w.heap.size (0 + k * 32) (E.map (Value.int .u8)) := fun w' ⟨x, hx⟩ j v hv => by rw [hx]; exact ((Below.on hb0 x.same).cell (p := ⟨w.heap.size, 0 + k * 32 + j, none⟩) hgwr).trans (Hrg.out j v hv)
        simp only [pick, List.range, List.range.loop, List.getElem?_toArray, List.getElem?_cons_succ, List.getElem?_cons_zero, Option.toList_some, List.cons_append, List.nil_append]
        repeat (first | (go_big_quiet_want; refine quiet_index_digs 24 _ _ rfl Tryd.underlying24 size_digest w.heap.size 0 257 257 rfl _ _ rfl k rfl (by omega) ?_; go_big_quiet_on; simp only [Act.put, List.setIfInBounds_toArray, List.set_cons_zero, List.set_cons_succ]) | (go_big_quiet_want; refine quiet_load_mid 23 _ rfl w.heap.size (0 + k * 32) rfl _ yr _ Tryd.underlying23 rfl (by rw [List.length_map, HE.out.len]; exact size_digest) ?_; go_big_quiet_on; simp only [Act.put, List.setIfInBounds_toArray, List.set_cons_zero, List.set_cons_succ]) | go_big_quiet_step (first | (go_at_call 57; with_reducible exact Calls.ext (c0 _))))
        exact wpQuiet_nil rfl
      refine AlChk.nil ?_
      refine Walk.fin fun w21 hw21 _ _ => ?_
      simp only [List.drop_succ_cons, List.drop_zero]
      have HBw21 := hid (Below.on HBwr.out hw21)
      have hsw21 := HBw21.out.size
      have Hw21 := hw21
      clear hw21
      go_wp2_with (first
         | (refine wpList_index_digs rfl 24 _ _ rfl Tryd.underlying24 size_digest w.heap.size 0 257 257 rfl _ _ rfl (k + 1) rfl (by omega) ?_)
         | (
            refine wpList_store_dig rfl _ _ _ rfl w.heap.size (k + 1) X rfl rfl _ 23 (Kgwr.out.below Hw21) (fillE_each 257 (k + 1)) HX.out (by rw [fillE_length (by omega)]; omega) size_digest ?_
            intro w9 hb9 hk9
            rw [← hX1, fillE_set (by omega)] at hk9
            have Kg9 := hid hk9
            have Hb9 := hid (hb9.below HBw21.out HBw21.out.size (Nat.le_refl _))
            clear hb9 hk9))
      exact ⟨⟨k + 1, by omega, by first | rfl | simp, Kg9.out, Hb9.out⟩, by simp [intOf]; omega⟩
    · skip
      have hk7 : k = 256 := by omega
      subst hk7
      have hc0 : ¬ ((256 : Int) < 256) := by omega
      go_wp2_with fail
      go_returns
      rw [show 256 + 1 = 257 from rfl, fillE_done] at Kgwr
      exact ⟨rfl, HBwr.out, Kgwr.out⟩
theorem But.ownD {b base : Nat} {w w' : World} {v : Value} {ds : List (List Int)} (hb : But b w w') (h : OwnD w base 23 v ds) (hlt : b < base) : OwnD w' base 23 v ds := by
  obtain ⟨⟨h1, h2⟩, h3⟩ := h
  refine ⟨⟨h1, h2.imp id ?_⟩, h3⟩
  rintro ⟨g, cap, cur, rfl, hg, hh, hle, hmx, hsz, htk⟩
  have hk : Blk w g cur 23 := hh
  exact ⟨g, cap, cur, rfl, hg, hb.blk hk (by omega), hle, hmx, hsz, htk⟩
set_option maxHeartbeats 4000000 in
theorem refempty_any (w : World) :
    Calls Tryd.prog 39 #[] w fun e w' => ∃ v, e = .returned v ∧ Below w.heap.size w w' ∧ OwnD w' w.heap.size 23 v (empN 257) := by
  have Hb := hid (Below.refl w.heap.size w)
  obtain ⟨i0, hi, hz0, hz1, hz2⟩ := info_parts info_dig
  go_enter Tryd.func39, Tryd.ntmps39
  go_wp2_with fail
  have c0 := (Below.refl w.heap.size w).alloc (Nat.le_refl _) (.cells #[.int .u8 2] 5 (0, 0))
  refine (refsum_any (some ⟨w.heap.size, 0, none⟩) 1 1 [2] (w.alloc (.cells #[.int .u8 2] 5 (0, 0))) (TextAt.of_ints (Blk.new rfl #[.int .u8 2] 5) rfl (by omega) (by simp)) (by omega)).mono ?_
  rintro e w1 ⟨rfl, b1⟩
  have HBw1 := hid (Below.on c0 b1)
  have hsw1 := HBw1.out.size
  rw [show sumZ [2] = emptyL 0 from rfl]
  have HE0 := hid (Dg.emptyL 0)
  generalize hE0 : emptyL 0 = E0 at *
  clear c0 b1
  go_wp2_with (
        refine wpList_store_blk rfl 23 _ _ rfl (w1.heap.size) (E0.map (Value.int .u8)).toArray rfl rfl _ 23 (Blk.new rfl (byteCells 32 []) _) 32 size_digest zsize HE0.out.size (ints_one _ _) ?_
        intro w2 hbw2 hkw2
        have hw2 := hbw2.below ((Below.refl w1.heap.size w1).alloc (Nat.le_refl _) _) (by simp only [World.size_alloc]; omega) (Nat.le_refl _)
        have HBw2 := hid (Below.on HBw1.out hw2)
        have hsw2 := HBw2.out.size
        have Knw2 := hid hkw2
        have hfw2 : w.heap.size ≤ w1.heap.size := HBw1.out.size
        clear hbw2 hkw2 hw2)
  go_loopw [1, 3] (fun v iv wr => ∃ k : Nat, k ≤ 257 ∧ iv = .int .i64 k ∧ Blk wr w1.heap.size ((emptyL k).map (Value.int .u8)).toArray 23 ∧ OwnD wr (w1.heap.size + 1) 23 v (empN k) ∧ Below w.heap.size w wr) (fun _ iv _ => 257 - (intOf iv).toNat)
  case atStart => exact ⟨0, Nat.zero_le _, rfl, by rw [hE0]; exact Knw2.out, OwnD.nil _ _ _, HBw2.out⟩
  case round =>
    obtain ⟨k, hk, rfl, kn, ho, bel⟩ := hrel
    have Knwr := hid kn
    have HOwr := hid ho
    have HBwr := hid bel
    have hswr := bel.size
    have hnwr := kn.lt
    have hel := empN_length k
    clear kn ho bel
    by_cases hlt : k < 257
    · skip
      have hc0 : (k : Int) ≤ 256 := by omega
      have HE := hid (Dg.emptyL k)
      have HNX := hid (show emptyL (k + 1) = nodeL (emptyL k) (emptyL k) from rfl)
      have HSX := hid (empN_succ k)
      have CN := hid (fun (W : World) => refnode_any (emptyL k) (emptyL k) W HE.out HE.out)
      rw [← HNX.out] at CN
      have HX := hid (Dg.emptyL (k + 1))
      generalize hX1 : emptyL (k + 1) = X at *
      generalize hE1 : emptyL k = E at *
      go_wp2_with (first
         | (refine wpList_build_one rfl _ rfl rfl HE.out ?_)
         | (
            refine wpList_append_dig rfl _ _ rfl Tryd.underlying24 hi hz0 zD_cells32 hz1 hz2 rfl (HOwr.out.below ((Below.refl wr.heap.size wr).alloc (Nat.le_refl _) (.cells (E.map (Value.int .u8)).toArray 23 (0, 0)))) rfl (Blk.new rfl (E.map (Value.int .u8)).toArray 23) HE.out (by omega) (by rw [World.size_alloc]; omega) ?_
            intro v8 w8 ho8 hg8 hb8
            rw [← HSX.out] at ho8
            have HO8 := hid ho8
            have HB8 := hid (Below.trans (HBwr.out.alloc hswr (.cells (E.map (Value.int .u8)).toArray 23 (0, 0))) (hb8.mono (by omega)))
            have Kn8 := hid ((Knwr.out.old (.cells (E.map (Value.int .u8)).toArray 23 (0, 0))).belowB (by omega) hb8)
            have hs8 := HB8.out.size
            have hn8 := Kn8.out.lt
            clear ho8 hg8 hb8)
         | (refine wpList_load_blk rfl 23 _ rfl (w1.heap.size) rfl _ 23 Knwr.out _ Tryd.underlying23 rfl 32 size_digest HE.out.size ?_)
         | (refine wpList_load_blk rfl 23 _ rfl (w1.heap.size) rfl _ 23 Kn8.out _ Tryd.underlying23 rfl 32 size_digest HE.out.size ?_))
      refine (CN.out _).mono ?_
      rintro e w9 ⟨rfl, b9⟩
      have HB9 := hid (Below.on HB8.out b9)
      have HO9 := hid (HO8.out.below b9)
      have Kn9 := hid (Kn8.out.below b9)
      have hs9 := HB9.out.size
      clear b9
      go_wp2_with (
            refine wpList_store_blk rfl 23 _ _ rfl (w1.heap.size) (X.map (Value.int .u8)).toArray rfl rfl _ 23 Kn9.out 32 size_digest HE.out.size HX.out.size (ints_one _ _) ?_
            intro w10 hb10 hk10
            have Hk10 := hid hk10
            have Hb10 := hid (hb10.below HB9.out hs9 (by omega))
            have HO10 := hid (hb10.ownD HO9.out (by omega))
            clear hb10 hk10)
      exact ⟨⟨k + 1, by omega, by first | rfl | simp, by rw [hX1]; exact Hk10.out, HO10.out, Hb10.out⟩, by simp [intOf]; omega⟩
    · skip
      have hk7 : k = 257 := by omega
      subst hk7
      have hc0 : ¬ ((257 : Int) ≤ 256) := by omega
      go_wp2_with fail
      go_ret
      exact ⟨_, rfl, HBwr.out, HOwr.out.re (by omega)⟩
end Go.Proofs.YtkakoiaahgchmaaDoor
namespace Go.Proofs.YtkakoiaahgchmaaDoor
set_option maxRecDepth 100000
open Go.ChangeShapes Go.WideShapes Go.ChangeAt Go.RowKit
/-- What an entry's node is. -/
@[irreducible] def leafE (a b : List Int) : List Int := sumZ (0 :: (a ++ b))
theorem Dg.leafE (a b : List Int) : Dg (leafE a b) := by unfold Go.Proofs.YtkakoiaahgchmaaDoor.leafE; exact Dg.sum _
/-- An entry's bytes. -/
def entL (a b : List Int) : List Int := a ++ b
theorem two_front {a b : List Int} (ha : Dg a) {w : World} {g : Nat} {T : TypeId} (h : Blk w g ((entL a b).map (Value.int .u8)).toArray T) : TextAt w (some ⟨g, 0, none⟩) 32 32 a :=
  TextAt.of_blk h ha.len (Nat.le_refl _) (by omega) ha.small fun j hj => by
    rw [List.getElem?_toArray, Nat.zero_add, entL, List.map_append, List.getElem?_append_left (by rw [List.length_map, ha.len]; exact hj), List.getElem?_map, List.getD_eq_getElem?_getD, List.getElem?_eq_getElem (by rw [ha.len]; exact hj)]
    rfl
theorem two_back {a b : List Int} (ha : Dg a) (hb : Dg b) {w : World} {g : Nat} {T : TypeId} (h : Blk w g ((entL a b).map (Value.int .u8)).toArray T) : TextAt w (some ⟨g, 32, none⟩) 32 32 b :=
  TextAt.of_blk h hb.len (Nat.le_refl _) (by omega) hb.small fun j hj => by
    rw [List.getElem?_toArray, entL, List.map_append, List.getElem?_append_right (by rw [List.length_map, ha.len]; omega), List.length_map, ha.len, show 32 + j - 32 = j by omega, List.getElem?_map, List.getD_eq_getElem?_getD, List.getElem?_eq_getElem (by rw [hb.len]; exact hj)]
    rfl
theorem two_size {a b : List Int} (ha : Dg a) (hb : Dg b) : ((entL a b).map (Value.int .u8)).toArray.size = 64 := by simp [entL, ha.len, hb.len]
set_option maxHeartbeats 4000000 in
theorem leaf_any (a b : List Int) (w : World) (ha : Dg a) (hb_ : Dg b) (tab : ShaTab w) :
    Calls Tryd.prog 33 #[.agg ((entL a b).map (Value.int .u8)).toArray] w fun e w' => e = .returned (.agg ((leafE a b).map (Value.int .u8)).toArray) ∧ Below w.heap.size w w' := by
  have CS := hid (fun (W : World) (g g0 : Nat) (h : Blk W g #[.slice (some ⟨g0, 0, none⟩) 1 1, .slice (some ⟨w.heap.size, 0, none⟩) 32 32, .slice (some ⟨w.heap.size, 32, none⟩) 32 32] 29) (h0 : Blk W g0 (([0] : List Int).map (Value.int .u8)).toArray 5) (ka : Blk W w.heap.size ((entL a b).map (Value.int .u8)).toArray 64) (t : ShaTab W) => sum_any (some ⟨g, 0, none⟩) 3 3 [[0], a, b] W (TextsAt.of_blk h rfl (Nat.le_refl _) (by omega) fun j hj => by
    match j, hj with
    | 0, _ => exact ⟨_, _, _, rfl, TextAt.of_ints h0 rfl (by omega) (by simp)⟩
    | 1, _ => exact ⟨_, _, _, rfl, two_front ha ka⟩
    | 2, _ => exact ⟨_, _, _, rfl, two_back ha hb_ ka⟩) (by simp only [sumLen, List.map_cons, List.map_nil, List.sum_cons, List.sum_nil, List.length_cons, List.length_nil, ha.len, hb_.len]; omega) t)
  have HX := hid (Dg.leafE a b)
  rw [show ([[0], a, b] : List (List Int)).flatten = 0 :: (a ++ b) by simp, show sumZ (0 :: (a ++ b)) = leafE a b by unfold leafE; rfl] at CS
  generalize leafE a b = X at *
  have b1 := (Below.refl w.heap.size w).alloc (Nat.le_refl _) (.cells ((entL a b).map (Value.int .u8)).toArray 64 (0, 0))
  have b2 := b1.alloc b1.size (.cells (byteCells 32 []) 23 (0, 0))
  have Kx := hid ((Blk.new (w := w) (n := w.heap.size) rfl ((entL a b).map (Value.int .u8)).toArray 64).old (.cells (byteCells 32 []) 23 (0, 0)))
  have Kr := hid (Blk.new (w := (w.alloc (.cells ((entL a b).map (Value.int .u8)).toArray 64 (0, 0)))) (n := w.heap.size + 1) (by simp only [World.size_alloc]) (byteCells 32 []) 23)
  have Hb := hid b2
  have hbz := b2.size
  have Hbs := hid (show w.heap.size + 1 + 1 = ((w.alloc (.cells ((entL a b).map (Value.int .u8)).toArray 64 (0, 0))).alloc (.cells (byteCells 32 []) 23 (0, 0))).heap.size by simp only [World.size_alloc])
  have Htab := hid tab
  clear b1 b2 tab 
  go_enter Tryd.func33, Tryd.ntmps33
  go_wp2_with fail
  refine wp_region_flow 7 [1, 2, 3, 4] [0] [(.b 0, [], [5]), (.b 5, [6], [])] (by kernel_rfl) (by kernel_rfl) ?_
  apply Exists.intro
  refine ⟨fun w0 hb0 hF0 => ?_, ?_⟩
  · skip
    simp only [pick, List.getElem?_toArray, List.getElem?_cons_succ, List.getElem?_cons_zero, Option.toList_some, List.cons_append, List.nil_append]
    repeat (first | go_big_quiet_step (fail))
    exact wpQuiet_nil rfl
  refine AlChk.one rfl (fun b => .slice (some ⟨b, 0, none⟩) 1 1) (.cells #[.int .u8 0] 5 (0, 0)) rfl (fun w3 hb3 hF3 => by go_simp) ?_
  refine AlChk.nil ?_
  refine Walk.blk rfl (fun b => .slice (some ⟨b, 0, none⟩) 1 1) (.cells #[.int .u8 0] 5 (0, 0)) (by simp) ?_
  intro b8 w1 hb1 hF1 hge1 _
  apply Exists.intro
  refine ⟨fun w2 hb2 hF2 => wpQuiet_nil rfl, ?_⟩
  refine AlChk.one rfl (fun b => .slice (some ⟨b, 0, none⟩) 3 3) (.cells #[.slice (some ⟨b8, 0, none⟩) 1 1, .slice (some ⟨w.heap.size, 0, none⟩) 32 32, .slice (some ⟨w.heap.size, 32, none⟩) 32 32] 29 (0, 0)) rfl (fun w3 hb3 hF3 => by go_simp) ?_
  refine AlChk.nil ?_
  refine Walk.blk rfl (fun b => .slice (some ⟨b, 0, none⟩) 3 3) (.cells #[.slice (some ⟨b8, 0, none⟩) 1 1, .slice (some ⟨w.heap.size, 0, none⟩) 32 32, .slice (some ⟨w.heap.size, 32, none⟩) 32 32] 29 (0, 0)) (by simp) ?_
  intro b9 w2 hb2 hF2 hge2 _
  apply Exists.intro
  refine ⟨fun w0 hb0 hF0 => ?_, ?_⟩
  · have k9 : Blk w0 b9 #[.slice (some ⟨b8, 0, none⟩) 1 1, .slice (some ⟨w.heap.size, 0, none⟩) 32 32, .slice (some ⟨w.heap.size, 32, none⟩) 32 32] 29 := hF0.2
    have k8 : Blk w0 b8 (([0] : List Int).map (Value.int .u8)).toArray 5 := hF0.1.2
    have hs := fun e : Ext w0 => CS.out e.at_ b9 b8 (k9.below e.same) (k8.below e.same) ((Kx.out.below hb0).below e.same) ((Htab.out.below (Below.on Hb.out hb0)).below e.same)
    simp only [pick, List.getElem?_toArray, List.getElem?_cons_succ, List.getElem?_cons_zero, Option.toList_some, List.cons_append, List.nil_append, Act.put, List.setIfInBounds_toArray, List.set_cons_zero, List.set_cons_succ]
    repeat (go_big_quiet_step (first | (go_at_call 59; exact Calls.ext (hs _))))
    exact wpQuiet_nil rfl
  refine AlChk.nil ?_
  refine Walk.fin fun w4 h4 _ _ => ?_
  simp only [List.drop_succ_cons, List.drop_zero]
  have HBw4 := hid (Below.on Hb.out h4)
  have hsw4 := HBw4.out.size
  have Kxw4 := hid (Kx.out.below h4)
  have Krw4 := hid (Kr.out.below h4)
  clear h4
  go_wp2_with (
      refine wpList_store_blk rfl 23 _ _ rfl (w.heap.size + 1) (X.map (Value.int .u8)).toArray rfl rfl _ 23 Krw4.out 32 size_digest zsize HX.out.size (ints_one _ _) ?_
      intro w9 hb9 hk9
      have HB9 := hid (hb9.below HBw4.out HBw4.out.size (by omega))
      have HK9 := hid hk9
      clear hb9 hk9)
  exact bodyPost_ret (v := .agg (X.map (Value.int .u8)).toArray) (results_blk Tryd.results33 _ (w.heap.size + 1) rfl _ 23 HK9.out _ Tryd.underlying23 rfl 32 size_digest HX.out.size) rfl ⟨rfl, HB9.out⟩
end Go.Proofs.YtkakoiaahgchmaaDoor
namespace Go.Proofs.YtkakoiaahgchmaaDoor
set_option maxRecDepth 100000
open Go.ChangeShapes Go.WideShapes Go.ChangeAt Go.RowKit
/-- On which side the node of a level is. -/
def bitL (d : List Int) (k : Nat) : Int := d.getD (31 - k / 8) 0 / 2 ^ (k % 8) % 2
/-- A byte of an index, turned down by a bit. -/
def halfB (d : List Int) (i : Nat) : Int := d.getD i 0 / 2 + (if i = 0 then 0 else d.getD (i - 1) 0 % 2 * 128)
def halfL (d : List Int) : List Int := (List.range 32).map (halfB d)
def halfP (d : List Int) (k : Nat) : List Int := (List.range k).map (halfB d) ++ List.replicate (32 - k) 0
theorem dg_at {d : List Int} (h : Dg d) (i : Nat) : 0 ≤ d.getD i 0 ∧ d.getD i 0 < 256 := by
  rw [List.getD_eq_getElem?_getD]
  by_cases hi : i < d.length
  · rw [List.getElem?_eq_getElem hi]
    exact h.small _ (List.getElem_mem hi)
  · rw [List.getElem?_eq_none (by omega)]
    simp
theorem halfB_small {d : List Int} (h : Dg d) (i : Nat) : 0 ≤ halfB d i ∧ halfB d i < 256 := by
  have h1 := dg_at h i
  have h2 := dg_at h (i - 1)
  unfold halfB
  split <;> omega
theorem Dg.half {d : List Int} (h : Dg d) : Dg (halfL d) := ⟨by simp [halfL], fun x hx => by
  obtain ⟨i, _, rfl⟩ := List.mem_map.1 hx
  exact halfB_small h i⟩
theorem halfL_get {d : List Int} {i : Nat} (h : i < 32) : (halfL d).getD i 0 = halfB d i := by simp [halfL, h]
/-- A bit of what was turned down is the next bit. -/
theorem bit_half {d : List Int} (h : Dg d) (k : Nat) (hk : k + 1 < 256) : bitL (halfL d) k = bitL d (k + 1) := by
  unfold bitL
  rw [halfL_get (by omega)]
  have h1 := dg_at h (31 - k / 8)
  have h2 := dg_at h (31 - k / 8 - 1)
  unfold halfB
  rcases (show k % 8 = 0 ∨ k % 8 = 1 ∨ k % 8 = 2 ∨ k % 8 = 3 ∨ k % 8 = 4 ∨ k % 8 = 5 ∨ k % 8 = 6 ∨ k % 8 = 7 by omega) with e | e | e | e | e | e | e | e
  all_goals rw [e]
  · rw [show (k + 1) / 8 = k / 8 by omega, show (k + 1) % 8 = 1 by omega]; split <;> omega
  · rw [show (k + 1) / 8 = k / 8 by omega, show (k + 1) % 8 = 2 by omega]; split <;> omega
  · rw [show (k + 1) / 8 = k / 8 by omega, show (k + 1) % 8 = 3 by omega]; split <;> omega
  · rw [show (k + 1) / 8 = k / 8 by omega, show (k + 1) % 8 = 4 by omega]; split <;> omega
  · rw [show (k + 1) / 8 = k / 8 by omega, show (k + 1) % 8 = 5 by omega]; split <;> omega
  · rw [show (k + 1) / 8 = k / 8 by omega, show (k + 1) % 8 = 6 by omega]; split <;> omega
  · rw [show (k + 1) / 8 = k / 8 by omega, show (k + 1) % 8 = 7 by omega]; split <;> omega
  · rw [show (k + 1) / 8 = k / 8 + 1 by omega, show (k + 1) % 8 = 0 by omega, show 31 - (k / 8 + 1) = 31 - k / 8 - 1 by omega, if_neg (by omega)]; omega
def halfK : Nat → List Int → List Int
  | 0, d => d
  | k + 1, d => halfL (halfK k d)
theorem Dg.halfK {d : List Int} (h : Dg d) (k : Nat) : Dg (halfK k d) := by
  induction k with
  | zero => exact h
  | succ k ih => exact ih.half
theorem bit_halfK {d : List Int} (h : Dg d) (k : Nat) : ∀ j, k + j < 256 → bitL (halfK k d) j = bitL d (k + j) := by
  induction k with
  | zero => intro j _; rw [Nat.zero_add]; rfl
  | succ k ih =>
    intro j hj
    rw [show halfK (k + 1) d = halfL (halfK k d) from rfl, bit_half (h.halfK k) j (by omega), ih (j + 1) (by omega), show k + (j + 1) = k + 1 + j by omega]
theorem and_one : ∀ x : Fin 256, bits .and .u8 ((x.val : Nat) : Int) 1 = ((x.val % 2 : Nat) : Int) := by decide +kernel
theorem and_one' {x : Int} (h : 0 ≤ x ∧ x < 256) : bits .and .u8 x 1 = x % 2 := by
  have := and_one ⟨x.toNat, by omega⟩
  simp only at this
  rw [show ((x.toNat : Nat) : Int) = x by omega] at this
  rw [this]
  omega
set_option maxHeartbeats 4000000 in
theorem bit_out (d : List Int) (k : Int) (w : World) (_hd : Dg d) (hk : k < 0 ∨ 255 < k) :
    Calls Tryd.prog 37 #[.agg (d.map (Value.int .u8)).toArray, .int .i64 k] w fun e w' => e = .returned (.int .i64 0) ∧ Below w.heap.size w w' := by
  rcases hk with hk | hk
  · skip
    have b1 := (Below.refl w.heap.size w).alloc (Nat.le_refl _) (.cells (d.map (Value.int .u8)).toArray 23 (0, 0))
    have Kd := hid (Blk.new (w := w) (n := w.heap.size) rfl (d.map (Value.int .u8)).toArray 23)
    have Hb := hid b1
    have hbz := b1.size
    have Hbs := hid (show w.heap.size + 1 = (w.alloc (.cells (d.map (Value.int .u8)).toArray 23 (0, 0))).heap.size by simp only [World.size_alloc])
    clear b1 
    go_enter Tryd.func37, Tryd.ntmps37
    go_wp2_with fail
    go_returns
    exact ⟨rfl, Hb.out⟩
  · have hI0 : ¬ k < 0 := by omega
    have hI1 : (256 : Int) ≤ k := by omega
    have b1 := (Below.refl w.heap.size w).alloc (Nat.le_refl _) (.cells (d.map (Value.int .u8)).toArray 23 (0, 0))
    have Kd := hid (Blk.new (w := w) (n := w.heap.size) rfl (d.map (Value.int .u8)).toArray 23)
    have Hb := hid b1
    have hbz := b1.size
    have Hbs := hid (show w.heap.size + 1 = (w.alloc (.cells (d.map (Value.int .u8)).toArray 23 (0, 0))).heap.size by simp only [World.size_alloc])
    clear b1 
    go_enter Tryd.func37, Tryd.ntmps37
    go_wp2_with fail
    go_returns
    exact ⟨rfl, Hb.out⟩
set_option maxHeartbeats 4000000 in
theorem bit_in (d : List Int) (k : Nat) (w : World) (hd : Dg d) (hk : k < 256) :
    Calls Tryd.prog 37 #[.agg (d.map (Value.int .u8)).toArray, .int .i64 k] w fun e w' => e = .returned (.int .i64 (bitL d k)) ∧ Below w.heap.size w w' := by
  have hI0 : ¬ (k : Int) < 0 := by omega
  have hI1 : ¬ (256 : Int) ≤ (k : Int) := by omega
  have hxx := dg_at hd (31 - k / 8)
  have hlen := hd.len
  have hxe : d[31 - k / 8]? = some (d.getD (31 - k / 8) 0) := by rw [List.getD_eq_getElem?_getD, List.getElem?_eq_getElem (by omega)]; rfl
  unfold bitL
  generalize d.getD (31 - k / 8) 0 = x at *
  have b1 := (Below.refl w.heap.size w).alloc (Nat.le_refl _) (.cells (d.map (Value.int .u8)).toArray 23 (0, 0))
  have Kd := hid (Blk.new (w := w) (n := w.heap.size) rfl (d.map (Value.int .u8)).toArray 23)
  have Hb := hid b1
  have hbz := b1.size
  have Hbs := hid (show w.heap.size + 1 = (w.alloc (.cells (d.map (Value.int .u8)).toArray 23 (0, 0))).heap.size by simp only [World.size_alloc])
  clear b1 
  go_enter Tryd.func37, Tryd.ntmps37
  go_wp2_with fail
  go_returns
  refine ⟨?_, Hb.out⟩
  have h2 : 0 ≤ x / 2 ^ (k % 8) ∧ x / 2 ^ (k % 8) < 256 := ⟨Int.ediv_nonneg hxx.1 (Int.le_of_lt (Int.pow_pos (by omega))), Int.lt_of_le_of_lt (Int.ediv_le_self _ hxx.1) hxx.2⟩
  show Ending.returned (.int .i64 (wrap64 (bits .and .u8 (x / 2 ^ (k % 8)) 1))) = _
  rw [and_one' h2]
  generalize x / 2 ^ (k % 8) = y at *
  rw [show wrap64 (y % 2) = y % 2 by unfold wrap64; omega]
theorem size_byte1 : (Tryd.prog.info? 5).map (·.size) = some 1 := by kernel_rfl
theorem halfP_zero (d : List Int) : ((halfP d 0).map (Value.int .u8)).toArray = (byteCells 32 []) := by simp [halfP, byteCells]
theorem halfP_done (d : List Int) : halfP d 32 = halfL d := by simp [halfP, halfL]
theorem halfP_length (d : List Int) {k : Nat} (h : k ≤ 32) : (halfP d k).length = 32 := by
  simp only [halfP, List.length_append, List.length_map, List.length_range, List.length_replicate]
  omega
theorem halfP_set (d : List Int) {k : Nat} (h : k < 32) : (halfP d k).set k (halfB d k) = halfP d (k + 1) := by
  unfold halfP
  rw [List.set_append_right _ _ (by simp), show 32 - k = (32 - (k + 1)) + 1 by omega, List.replicate_succ, List.range_succ, List.map_append]
  simp
set_option maxHeartbeats 4000000 in
theorem half_any (d : List Int) (w : World) (hd : Dg d) :
    Calls Tryd.prog 71 #[.agg (d.map (Value.int .u8)).toArray] w fun e w' => e = .returned (.agg ((halfL d).map (Value.int .u8)).toArray) ∧ Below w.heap.size w w' := by
  have b1 := (Below.refl w.heap.size w).alloc (Nat.le_refl _) (.cells (d.map (Value.int .u8)).toArray 23 (0, 0))
  have b2 := b1.alloc b1.size (.cells (byteCells 32 []) 23 (0, 0))
  have b3 := b2.alloc b2.size (.cells (byteCells 32 []) 23 (0, 0))
  have Kd := hid (((Blk.new (w := w) (n := w.heap.size) rfl (d.map (Value.int .u8)).toArray 23).old (.cells (byteCells 32 []) 23 (0, 0))).old (.cells (byteCells 32 []) 23 (0, 0)))
  have Kr := hid ((Blk.new (w := (w.alloc (.cells (d.map (Value.int .u8)).toArray 23 (0, 0)))) (n := w.heap.size + 1) (by simp only [World.size_alloc]) (byteCells 32 []) 23).old (.cells (byteCells 32 []) 23 (0, 0)))
  have Ko := hid (Blk.new (w := ((w.alloc (.cells (d.map (Value.int .u8)).toArray 23 (0, 0))).alloc (.cells (byteCells 32 []) 23 (0, 0)))) (n := w.heap.size + 1 + 1) (by simp only [World.size_alloc]) (byteCells 32 []) 23)
  have Hb := hid b3
  have hbz := b3.size
  have Hbs := hid (show w.heap.size + 1 + 1 + 1 = (((w.alloc (.cells (d.map (Value.int .u8)).toArray 23 (0, 0))).alloc (.cells (byteCells 32 []) 23 (0, 0))).alloc (.cells (byteCells 32 []) 23 (0, 0))).heap.size by simp only [World.size_alloc])
  clear b1 b2 b3 
  go_enter Tryd.func71, Tryd.ntmps71
  go_wp2_with fail
  go_loopw [4, 5] (fun cv iv wr => ∃ k : Nat, k ≤ 32 ∧ iv = .int .i64 k ∧ cv = (.int .u8 (if k = 0 then 0 else d.getD (k - 1) 0 % 2 * 128)) ∧ Blk wr w.heap.size (d.map (Value.int .u8)).toArray 23 ∧ Blk wr (w.heap.size + 1) (byteCells 32 []) 23 ∧ Blk wr (w.heap.size + 1 + 1) ((halfP d k).map (Value.int .u8)).toArray 23 ∧ Below w.heap.size w wr) (fun _ iv _ => 32 - (intOf iv).toNat)
  case atStart => exact ⟨0, Nat.zero_le _, rfl, rfl, Kd.out, Kr.out, by rw [halfP_zero]; exact Ko.out, Hb.out⟩
  case round =>
    obtain ⟨k, hk, rfl, rfl, kd, kr, ko, bel⟩ := hrel
    have Kdwr := hid kd
    have Krwr := hid kr
    have Kowr := hid ko
    have HBwr := hid bel
    have hswr := bel.size
    have hokr := ko.lt
    clear kd kr ko bel
    by_cases hlt : k < 32
    · skip
      have hc0 : (k : Int) < 32 := by omega
      have hxx := dg_at hd k
      have hyy := dg_at hd (k - 1)
      have hlen := hd.len
      have hxe : d[k]? = some (d.getD k 0) := by rw [List.getD_eq_getElem?_getD, List.getElem?_eq_getElem (by omega)]; rfl
      have cdk : wr.cell? ⟨w.heap.size, k, none⟩ = some (.int .u8 (d.getD k 0)) := by
        rw [Kdwr.out.cell, List.getElem?_toArray, List.getElem?_map, hxe]; rfl
      have HS := hid (halfP_set d hlt)
      have HHB := hid (show halfB d k = d.getD k 0 / 2 + (if k = 0 then 0 else d.getD (k - 1) 0 % 2 * 128) from rfl)
      have HC := hid (show (if k + 1 = 0 then (0 : Int) else d.getD (k + 1 - 1) 0 % 2 * 128) = d.getD k 0 % 2 * 128 by rw [if_neg (by omega), Nat.add_sub_cancel])
      have hcc : 0 ≤ (if k = 0 then (0 : Int) else d.getD (k - 1) 0 % 2 * 128) ∧ (if k = 0 then (0 : Int) else d.getD (k - 1) 0 % 2 * 128) ≤ 128 := by split <;> omega
      generalize (if k = 0 then (0 : Int) else d.getD (k - 1) 0 % 2 * 128) = c at *
      generalize d.getD k 0 = x at *
      generalize d.getD (k - 1) 0 = y at *
      clear hxe hyy
      go_wp2_with (
            refine wpList_store_cell rfl 5 _ _ rfl (w.heap.size + 1 + 1) k (.int .u8 (x / 2 + c)) rfl rfl rfl rfl _ 23 Kowr.out (by rw [List.size_toArray, List.length_map, halfP_length d (by omega)]; omega) size_byte1 ?_
            intro w9 hb9 hk9
            rw [List.setIfInBounds_toArray, ← HHB.out, ← List.map_set, HS.out] at hk9
            have Ko9 := hid hk9
            have Kd9 := hid (hb9.blk Kdwr.out (by omega))
            have Kr9 := hid (hb9.blk Krwr.out (by omega))
            have HB9 := hid (hb9.below HBwr.out hswr (by omega))
            have cd9 : w9.cell? ⟨w.heap.size, k, none⟩ = some (.int .u8 x) := by rw [Kd9.out.cell, ← Kdwr.out.cell]; exact cdk
            clear hb9 hk9)
      exact ⟨⟨k + 1, by omega, by first | rfl | simp, by first | rfl | (rw [HC.out]), Kd9.out, Kr9.out, Ko9.out, HB9.out⟩, by simp [intOf]; omega⟩
    · skip
      have hk7 : k = 32 := by omega
      subst hk7
      have hc0 : ¬ ((32 : Int) < 32) := by omega
      rw [halfP_done] at Kowr
      have HX := hid hd.half
      generalize hX1 : halfL d = X at *
      go_wp2_with (first
         | (refine wpList_load_blk rfl 23 _ rfl (w.heap.size + 1 + 1) rfl _ 23 Kowr.out _ Tryd.underlying23 rfl 32 size_digest HX.out.size ?_)
         | (
          refine wpList_store_blk rfl 23 _ _ rfl (w.heap.size + 1) (X.map (Value.int .u8)).toArray rfl rfl _ 23 Krwr.out 32 size_digest zsize HX.out.size (ints_one _ _) ?_
          intro w9 hb9 hk9
          have HB9 := hid (hb9.below HBwr.out hswr (by omega))
          have HK9 := hid hk9
          clear hb9 hk9))
      exact bodyPost_ret (v := .agg (X.map (Value.int .u8)).toArray) (results_blk Tryd.results71 _ (w.heap.size + 1) rfl _ 23 HK9.out _ Tryd.underlying23 rfl 32 size_digest HX.out.size) rfl ⟨by first | rfl | rw [hX1], HB9.out⟩
set_option maxHeartbeats 4000000 in
theorem refbit_in (d : List Int) (k : Nat) (w : World) (hd : Dg d) (hk : k < 256) :
    Calls Tryd.prog 42 #[.agg (d.map (Value.int .u8)).toArray, .int .i64 k] w fun e w' => e = .returned (.int .i64 (bitL d k)) ∧ Below w.heap.size w w' := by
  have hI0 : ¬ (k : Int) < 0 := by omega
  have hI1 : ¬ (255 : Int) < (k : Int) := by omega
  have b1 := (Below.refl w.heap.size w).alloc (Nat.le_refl _) (.cells (d.map (Value.int .u8)).toArray 23 (0, 0))
  have Kd := hid (Blk.new (w := w) (n := w.heap.size) rfl (d.map (Value.int .u8)).toArray 23)
  have Hb := hid b1
  have hbz := b1.size
  have Hbs := hid (show w.heap.size + 1 = (w.alloc (.cells (d.map (Value.int .u8)).toArray 23 (0, 0))).heap.size by simp only [World.size_alloc])
  clear b1 
  go_enter Tryd.func42, Tryd.ntmps42
  go_wp2_with fail
  go_loopw [5] (fun iv wr => ∃ j : Nat, j ≤ k ∧ iv = .int .i64 j ∧ Blk wr w.heap.size ((halfK j d).map (Value.int .u8)).toArray 23 ∧ Below w.heap.size w wr) (fun iv _ => k - (intOf iv).toNat)
  case atStart => exact ⟨0, Nat.zero_le _, rfl, Kd.out, Hb.out⟩
  case round =>
    obtain ⟨j, hj, rfl, kd, bel⟩ := hrel
    have Kdwr := hid kd
    have HBwr := hid bel
    have hswr := bel.size
    have hdlt := kd.lt
    clear kd bel
    by_cases hlt : j < k
    · skip
      have hc0 : (j : Int) < k := by omega
      have HD0 := hid (hd.halfK j)
      have HDX := hid (show halfK (j + 1) d = halfL (halfK j d) from rfl)
      have CH := hid (fun (W : World) => half_any (halfK j d) W HD0.out)
      rw [← HDX.out] at CH
      have HX := hid (hd.halfK (j + 1))
      generalize hX1 : halfK (j + 1) d = X at *
      generalize hE1 : halfK j d = E at *
      go_wp2_with (refine wpList_load_blk rfl 23 _ rfl (w.heap.size) rfl _ 23 Kdwr.out _ Tryd.underlying23 rfl 32 size_digest HD0.out.size ?_)
      refine (CH.out _).mono ?_
      rintro e w21 ⟨rfl, bw21⟩
      have HBw21 := hid (Below.on HBwr.out bw21)
      have hsw21 := HBw21.out.size
      have Kdw21 := hid (Kdwr.out.below bw21)
      clear bw21
      go_wp2_with (
            refine wpList_store_blk rfl 23 _ _ rfl (w.heap.size) (X.map (Value.int .u8)).toArray rfl rfl _ 23 Kdw21.out 32 size_digest HD0.out.size HX.out.size (ints_one _ _) ?_
            intro w9 hb9 hk9
            have Hk9 := hid hk9
            have Hb9 := hid (hb9.below HBw21.out HBw21.out.size (by omega))
            clear hb9 hk9)
      exact ⟨⟨j + 1, by omega, by first | rfl | simp, by rw [hX1]; exact Hk9.out, Hb9.out⟩, by simp [intOf]; omega⟩
    · skip
      have hk7 : j = k := by omega
      subst hk7
      have hc0 : ¬ ((j : Int) < j) := by omega
      have hb0 := bit_halfK hd j 0 (by omega)
      rw [Nat.add_zero] at hb0
      have HB0 := hid (show bitL d j = (halfK j d).getD 31 0 % 2 by rw [← hb0]; simp [bitL])
      have HD0 := hid (hd.halfK j)
      have hxx := dg_at HD0.out 31
      have hlen := HD0.out.len
      have hxe : (halfK j d)[31]? = some ((halfK j d).getD 31 0) := by rw [List.getD_eq_getElem?_getD, List.getElem?_eq_getElem (by omega)]; rfl
      have cdk : wr.cell? ⟨w.heap.size, 31, none⟩ = some (.int .u8 ((halfK j d).getD 31 0)) := by
        rw [Kdwr.out.cell, List.getElem?_toArray, List.getElem?_map, hxe]; rfl
      clear hb0 hxe
      generalize (halfK j d).getD 31 0 = x at *
      go_wp2_with fail
      go_returns
      refine ⟨?_, HBwr.out⟩
      rw [HB0.out]
      first | rfl | (show Ending.returned (.int .i64 (wrap64 (x % 2))) = _; rw [show wrap64 (x % 2) = x % 2 by unfold wrap64; omega])
end Go.Proofs.YtkakoiaahgchmaaDoor
namespace Go.Proofs.YtkakoiaahgchmaaDoor
set_option maxRecDepth 100000
open Go.ChangeShapes Go.WideShapes Go.ChangeAt Go.RowKit
open Go.WideMaps (KeyLaw)
open Go.ChangeMaps (setBlock)
/-- An index was counted so often. -/
def MapN (r : Nat) (kv : Value) (n : Nat) (w : World) : Prop := (n = 0 ∧ w.heap[r]? = some (.map #[] 0)) ∨ w.heap[r]? = some (.map #[⟨kv, .int .i64 n, 0⟩] 1)
/-- The entries of a row. -/
structure EntsAt (w : World) (a : Option Addr) (len cap : Nat) (es : List (List Int × List Int)) : Prop where
  length : es.length = len
  le : len ≤ cap
  each : ∀ x ∈ es, Dg x.1 ∧ Dg x.2
  mem : len = 0 ∨ ∃ x o, a = some ⟨x, o, none⟩ ∧ x < w.heap.size ∧ ∀ j, j < len → w.rangeAt x (o + j * 64) ((entL (es.getD j ([], [])).1 (es.getD j ([], [])).2).map (Value.int .u8))
/-- The world goes on, and the map keeps its number. -/
def MapR (r : Nat) (kv : Value) (n : Nat) (a b : World) : Prop := FlowB.ButIn [r] a b ∧ (MapN r kv n a → MapN r kv n b)
end Go.Proofs.YtkakoiaahgchmaaDoor
namespace Go.Proofs.YtkakoiaahgchmaaDoor
set_option maxRecDepth 100000
open Go.ChangeShapes Go.WideShapes Go.ChangeAt Go.RowKit
theorem fill_part (place : Nat → Option (Nat × Nat)) (cells : Array Value) (i off : Nat) (v : Value) (rest : List (Nat × Value)) (hp : place i = some (off, v.cells.size)) (hs : off + v.cells.size ≤ cells.size) :
    Instr.fill place cells ((i, v) :: rest) = Instr.fill place (splice cells.toList off v.cells.toList).toArray rest := by
  rw [Instr.fill]
  simp only [hp]
  rw [if_neg (by simp only [ne_eq, not_true_eq_false, decide_false, Bool.false_or, decide_eq_true_eq]; omega)]
  congr 1
  have hf := fold_set v.cells.toList 0 off cells (by simpa using hs)
  apply Array.ext'
  rw [Nat.add_zero] at hf
  rw [← hf]
  have : v.cells.zipIdx = ((v.cells.toList.zipIdx 0)).toArray := by
    apply Array.ext'
    simp
  rw [this, List.foldl_toArray']
  all_goals first | rfl | simp
end Go.Proofs.YtkakoiaahgchmaaDoor
namespace Go.Proofs.YtkakoiaahgchmaaDoor
set_option maxRecDepth 100000
open Go.ChangeShapes Go.WideShapes Go.ChangeAt Go.RowKit
/-- Is a place's sibling known? -/
def knB (d : List Int) (k : Nat) : Bool := decide (d.getD (k / 8) 0 / 2 ^ (k % 8) % 2 = 1)
/-- How many of the first places' siblings are known. -/
def knN (d : List Int) : Nat → Nat
  | 0 => 0
  | k + 1 => knN d k + (if knB d k then 1 else 0)
theorem knN_le (d : List Int) (k : Nat) : knN d k ≤ k := by
  induction k with
  | zero => exact Nat.le_refl _
  | succ k ih => unfold knN; split <;> omega
theorem knN_mono (d : List Int) {j k : Nat} (h : j ≤ k) : knN d j ≤ knN d k := by
  induction h with
  | refl => exact Nat.le_refl _
  | step _ ih => exact Nat.le_trans ih (by rw [knN]; omega)
def onesB (x : Int) : Nat := (if x / 2 ^ 0 % 2 = 1 then 1 else 0) + (if x / 2 ^ 1 % 2 = 1 then 1 else 0) + (if x / 2 ^ 2 % 2 = 1 then 1 else 0) + (if x / 2 ^ 3 % 2 = 1 then 1 else 0) + (if x / 2 ^ 4 % 2 = 1 then 1 else 0) + (if x / 2 ^ 5 % 2 = 1 then 1 else 0) + (if x / 2 ^ 6 % 2 = 1 then 1 else 0) + (if x / 2 ^ 7 % 2 = 1 then 1 else 0)
theorem pop8_ones (x : Int) (h0 : 0 ≤ x) (h1 : x ≤ 255) : Lib.pop8 x = (onesB x : Int) := by
  obtain ⟨n, rfl⟩ := Int.eq_ofNat_of_zero_le h0
  exact (by decide +kernel : ∀ i : Fin 256, Lib.pop8 ((i.val : Nat) : Int) = (onesB ((i.val : Nat) : Int) : Int)) ⟨n, by omega⟩
theorem onesB_le (x : Int) : onesB x ≤ 8 := by
  unfold onesB
  repeat' split
  all_goals omega
theorem knN_step (d : List Int) (i : Nat) : knN d (8 * (i + 1)) = knN d (8 * i) + onesB (d.getD i 0) := by
  have h (j : Nat) (hj : j < 8) : knB d (8 * i + j) = decide (d.getD i 0 / 2 ^ j % 2 = 1) := by
    unfold knB
    rw [show (8 * i + j) / 8 = i by omega, show (8 * i + j) % 8 = j by omega]
  have h0 := h 0 (by omega)
  rw [Nat.add_zero] at h0
  rw [show 8 * (i + 1) = 8 * i + 1 + 1 + 1 + 1 + 1 + 1 + 1 + 1 by omega]
  simp only [knN]
  rw [h0, h 1 (by omega), h 2 (by omega), h 3 (by omega), h 4 (by omega), h 5 (by omega), h 6 (by omega), h 7 (by omega)]
  simp only [decide_eq_true_eq]
  unfold onesB
  omega
section
variable {P : Program} {ops : Array Oper} {rest : List Oper} {op : Oper} {a : Act} {w : World} {Q : Exit → Act → World → Prop}
theorem wpList_index_pop8 (hgd : op.guard = none) (t : TypeId) (s : ByteArray) (x : Operand) (ho : op.op = .index t (.const (.string s)) x) (hs : s = Lib.pop8tab) (ht : P.underlying t = some .string) (k : IntKind) (i : Int) (hx : a.eval x = .int k i) (h0 : 0 ≤ i) (h1 : i ≤ 255)
    (h : wpList P ops Q rest (a.put op.dst (.int .u8 (Lib.pop8 i))) w) : wpList P ops Q (op :: rest) a w :=
  wpList_plain hgd fun K hK => by
    subst hs
    unfold Oper.wp execOp
    have hc : a.eval (.const (.string Lib.pop8tab)) = .string Lib.pop8tab := rfl
    simp only [ho, hx, hc, Sem.run_bind, Sem.run_pure, Result.andThen_ok, Lib.run_index_pop8tab w t k i ht h0 h1, Oper.upon_value]
    exact hK _ _ h
end
set_option maxHeartbeats 4000000 in
theorem ones_any (x : Int) (w : World) (h0 : 0 ≤ x) (h1 : x < 256) : Calls Tryd.prog 82 #[.int .u8 x] w fun e w' => e = .returned (.int .i64 (onesB x)) ∧ w' = w := by
  have h6 : wrap64 (Lib.pop8 x) = (onesB x : Int) := by
    rw [pop8_ones x h0 (by omega)]
    have := onesB_le x
    unfold wrap64
    omega
  go_enter Tryd.func82, Tryd.ntmps82
  go_wp2_with (refine wpList_index_pop8 rfl _ _ _ rfl (by kernel_rfl) Tryd.underlying9 .u8 x rfl (by omega) (by omega) ?_)
  go_ret
  exact ⟨by first | rfl | (rw [h6]; rfl) | (rw [← h6]; rfl), rfl⟩
set_option maxHeartbeats 4000000 in
theorem refkn_any (d : List Int) (k : Nat) (w : World) (hd : Dg d) (hk : k < 256) :
    Calls Tryd.prog 66 #[.agg (d.map (Value.int .u8)).toArray, .int .i64 k] w fun e w' => e = .returned (.bool (knB d k)) ∧ Below w.heap.size w w' := by
  have hxx := dg_at hd (k / 8)
  have hlen := hd.len
  have hxe : d[k / 8]? = some (d.getD (k / 8) 0) := by rw [List.getD_eq_getElem?_getD, List.getElem?_eq_getElem (by omega)]; rfl
  unfold knB
  generalize d.getD (k / 8) 0 = x at *
  have b1 := (Below.refl w.heap.size w).alloc (Nat.le_refl _) (.cells (d.map (Value.int .u8)).toArray 23 (0, 0))
  have Kd := hid (Blk.new (w := w) (n := w.heap.size) rfl (d.map (Value.int .u8)).toArray 23)
  have Hb := hid b1
  have hbz := b1.size
  have Hbs := hid (show w.heap.size + 1 = (w.alloc (.cells (d.map (Value.int .u8)).toArray 23 (0, 0))).heap.size by simp only [World.size_alloc])
  clear b1 
  go_enter Tryd.func66, Tryd.ntmps66
  go_wp2_with fail
  go_loopw [5, 6] (fun bv iv wr => ∃ j : Nat, j ≤ k % 8 ∧ iv = .int .i64 j ∧ bv = .int .u8 (x / 2 ^ j) ∧ Below w.heap.size w wr) (fun _ iv _ => 8 - (intOf iv).toNat)
  case atStart => exact ⟨0, Nat.zero_le _, rfl, by rw [Int.pow_zero, Int.ediv_one], Hb.out⟩
  case round =>
    obtain ⟨j, hj, rfl, rfl, bel⟩ := hrel
    have HBwr := hid bel
    clear bel
    have hj8 : j < 8 := by omega
    have hyy : 0 ≤ x / 2 ^ j ∧ x / 2 ^ j < 256 := ⟨Int.ediv_nonneg hxx.1 (Int.le_of_lt (Int.pow_pos (by omega))), Int.lt_of_le_of_lt (Int.ediv_le_self _ hxx.1) hxx.2⟩
    by_cases hlt : j < k % 8
    · skip
      have hc0 : (j : Int) < (k : Int) % 8 := by omega
      have HS := hid (show x / 2 ^ (j + 1) = x / 2 ^ j / 2 by rw [Int.pow_succ]; first | exact (Int.ediv_ediv_of_nonneg (Int.le_of_lt (Int.pow_pos (by omega)))).symm | (rw [Int.ediv_ediv_of_nonneg (Int.le_of_lt (Int.pow_pos (by omega)))]))
      generalize hY : x / 2 ^ j = y at *
      have HY := hid hY
      clear hY
      go_wp2_with fail
      exact ⟨⟨j + 1, by omega, by first | rfl | simp, by rw [HS.out], HBwr.out⟩, by simp [intOf]; omega⟩
    · skip
      have hk7 : j = k % 8 := by omega
      have hc0 : ¬ ((j : Int) < (k : Int) % 8) := by omega
      have HK := hid hk7
      rw [← hk7]
      clear hk7
      generalize hY : x / 2 ^ j = y at *
      have HY := hid hY
      clear hY
      go_wp2_with fail
      go_returns
      refine ⟨?_, HBwr.out⟩
      rw [← HK.out, HY.out]
      by_cases hz : y % 2 = 1
      · rw [hz]; rfl
      · rw [show ((y % 2 : Int) == 1) = false by simp [hz], decide_eq_false hz]; rfl
end Go.Proofs.YtkakoiaahgchmaaDoor
namespace Go.Proofs.YtkakoiaahgchmaaDoor
set_option maxRecDepth 100000
open Go.ChangeShapes Go.WideShapes Go.ChangeAt Go.RowKit
set_option maxHeartbeats 4000000 in
theorem refwhole_any (d : List Int) (ad : Option Addr) (len cap : Nat) (w : World) (hd : Dg d) :
    Calls Tryd.prog 38 #[.agg (d.map (Value.int .u8)).toArray, .slice ad len cap] w fun e w' => e = .returned (.bool (decide (knN d 256 = len))) ∧ Below w.heap.size w w' := by
  have b1 := (Below.refl w.heap.size w).alloc (Nat.le_refl _) (.cells (d.map (Value.int .u8)).toArray 23 (0, 0))
  have Kd := hid (Blk.new (w := w) (n := w.heap.size) rfl (d.map (Value.int .u8)).toArray 23)
  have Hb := hid b1
  have hbz := b1.size
  have Hbs := hid (show w.heap.size + 1 = (w.alloc (.cells (d.map (Value.int .u8)).toArray 23 (0, 0))).heap.size by simp only [World.size_alloc])
  clear b1 
  go_enter Tryd.func38, Tryd.ntmps38
  go_wp2_with fail
  go_loopw [5, 6] (fun nv iv wr => ∃ k : Nat, k ≤ 256 ∧ iv = .int .i64 k ∧ nv = .int .i64 (knN d k : Nat) ∧ Blk wr w.heap.size (d.map (Value.int .u8)).toArray 23 ∧ Below w.heap.size w wr) (fun _ iv _ => 256 - (intOf iv).toNat)
  case atStart => exact ⟨0, Nat.zero_le _, rfl, rfl, Kd.out, Hb.out⟩
  case round =>
    obtain ⟨k, hk, rfl, rfl, kd, bel⟩ := hrel
    have Kdwr := hid kd
    have HBwr := hid bel
    have hswr := bel.size
    have hdlt := kd.lt
    clear kd bel
    have hnk := knN_le d k
    by_cases hlt : k < 256
    · skip
      have hc0 : (k : Int) < 256 := by omega
      have CK := hid (fun W : World => refkn_any d k W hd hlt)
      have HD0 := hid hd
      have HN := hid (show knN d (k + 1) = knN d k + (if knB d k then 1 else 0) from rfl)
      generalize hN : knN d k = n at *
      clear hN
      cases hB : knB d k
      · rw [hB] at CK HN
        clear hB
        go_wp2_with (refine wpList_load_blk rfl 23 _ rfl (w.heap.size) rfl _ 23 Kdwr.out _ Tryd.underlying23 rfl 32 size_digest HD0.out.size ?_)
        refine (CK.out _).mono ?_
        rintro e w21 ⟨rfl, bw21⟩
        have HBw21 := hid (Below.on HBwr.out bw21)
        have hsw21 := HBw21.out.size
        have Kdw21 := hid (Kdwr.out.below bw21)
        clear bw21
        go_wp2_with fail
        exact ⟨⟨k + 1, by omega, by first | rfl | simp, by rw [HN.out]; first | rfl | simp, Kdw21.out, HBw21.out⟩, by simp [intOf]; omega⟩
      · rw [hB] at CK HN
        clear hB
        go_wp2_with (refine wpList_load_blk rfl 23 _ rfl (w.heap.size) rfl _ 23 Kdwr.out _ Tryd.underlying23 rfl 32 size_digest HD0.out.size ?_)
        refine (CK.out _).mono ?_
        rintro e w21 ⟨rfl, bw21⟩
        have HBw21 := hid (Below.on HBwr.out bw21)
        have hsw21 := HBw21.out.size
        have Kdw21 := hid (Kdwr.out.below bw21)
        clear bw21
        go_wp2_with fail
        exact ⟨⟨k + 1, by omega, by first | rfl | simp, by rw [HN.out]; first | rfl | simp, Kdw21.out, HBw21.out⟩, by simp [intOf]; omega⟩
    · skip
      have hk7 : k = 256 := by omega
      subst hk7
      have hc0 : ¬ ((256 : Int) < 256) := by omega
      generalize hN : knN d 256 = n at *
      have HN := hid hN
      clear hN
      go_wp2_with fail
      go_returns
      refine ⟨?_, HBwr.out⟩
      rw [HN.out]
      by_cases hz : n = len
      · subst hz; rw [decide_eq_true rfl]; first | rfl | (show Ending.returned (.bool ((n : Int) == (n : Int))) = _; simp)
      · rw [decide_eq_false hz]; show Ending.returned (.bool ((n : Int) == (len : Int))) = _; rw [show ((n : Int) == (len : Int)) = false by simp; omega]; try rfl
end Go.Proofs.YtkakoiaahgchmaaDoor
namespace Go.Proofs.YtkakoiaahgchmaaDoor
set_option maxRecDepth 100000
open Go.ChangeShapes Go.WideShapes Go.ChangeAt Go.RowKit
theorem size_proof : (Tryd.prog.info? 26).map (·.size) = some 33 := by kernel_rfl
/-- A proof's cells. -/
def prC (d : List Int) (v : Value) : List Value := d.map (Value.int .u8) ++ [v]
theorem prC_size {d : List Int} (h : Dg d) (v : Value) : (prC d v).toArray.size = 33 := by simp [prC, h.len]
theorem prC_nodes {d : List Int} {v : Value} {w : World} {b : Nat} {T : TypeId} (h : Dg d) (k : Blk w b (prC d v).toArray T) : w.cell? ⟨b, 32, none⟩ = some v := by
  rw [k.cell, List.getElem?_toArray]
  simp [prC, h.len]
theorem prC_known {d : List Int} {v : Value} {w : World} {b : Nat} {T : TypeId} (k : Blk w b (prC d v).toArray T) : w.rangeAt b 0 (d.map (Value.int .u8)) := fun j u hu => by
  have hj : j < d.length := by have := (List.getElem?_eq_some_iff.1 hu).1; simpa using this
  rw [Nat.zero_add, k.cell, List.getElem?_toArray, ← hu]
  unfold prC
  rw [List.getElem?_append_left (by simpa using hj)]
set_option maxHeartbeats 4000000 in
theorem complete_any (d : List Int) (ad : Option Addr) (len cap : Nat) (w : World) (hd : Dg d) :
    Calls Tryd.prog 61 #[.agg (prC d (.slice ad len cap)).toArray] w fun e w' => e = .returned (.bool (decide (knN d 256 = len))) ∧ Below w.heap.size w w' := by
  have b1 := (Below.refl w.heap.size w).alloc (Nat.le_refl _) (.cells (prC d (.slice ad len cap)).toArray 26 (0, 0))
  have Kp := hid (Blk.new (w := w) (n := w.heap.size) rfl (prC d (.slice ad len cap)).toArray 26)
  have Hb := hid b1
  have hbz := b1.size
  have Hbs := hid (show w.heap.size + 1 = (w.alloc (.cells (prC d (.slice ad len cap)).toArray 26 (0, 0))).heap.size by simp only [World.size_alloc])
  clear b1 
  go_enter Tryd.func61, Tryd.ntmps61
  go_wp2_with (refine wpList_load_mid rfl 23 _ rfl (w.heap.size) 0 rfl _ _ (prC_known Kp.out) Tryd.underlying23 rfl (by rw [List.length_map, hd.len]; exact size_digest) ?_)
  go_loopw [3, 8] (fun nv iv wr => ∃ k : Nat, k ≤ 32 ∧ iv = .int .i64 k ∧ nv = .int .i64 (knN d (8 * k) : Nat) ∧ Blk wr w.heap.size (prC d (.slice ad len cap)).toArray 26 ∧ Below w.heap.size w wr) (fun _ iv _ => 32 - (intOf iv).toNat)
  case atStart => exact ⟨0, Nat.zero_le _, rfl, rfl, Kp.out, Hb.out⟩
  case round =>
    obtain ⟨k, hk, rfl, rfl, kd, bel⟩ := hrel
    have Kpwr := hid kd
    have HBwr := hid bel
    have hswr := bel.size
    clear kd bel
    have hnk := knN_le d (8 * k)
    by_cases hlt : k < 32
    · skip
      have hc0 : (k : Int) < 32 := by omega
      have hxx := dg_at hd k
      have hlen := hd.len
      have hix := fun W : World => run_index_ints (P := Tryd.prog) (t := 23) (e := 5) (n := 32) (k' := .i64) Tryd.underlying23 Tryd.underlying5 rfl rfl d hlen k hlt W
      have hob := onesB_le (d.getD k 0)
      have CK := hid (fun W : World => ones_any (d.getD k 0) W hxx.1 hxx.2)
      have HD0 := hid hd
      have HN := hid (knN_step d k)
      generalize d.getD k 0 = x at *
      generalize onesB x = z at *
      generalize hN : knN d (8 * k) = n at *
      clear hN
      go_wp2_with (go_at_call 82; refine (CK.out _).mono ?_; rintro e w' ⟨rfl, rfl⟩)
      exact ⟨⟨k + 1, by omega, by first | rfl | simp, by rw [HN.out]; first | rfl | simp, Kpwr.out, HBwr.out⟩, by simp [intOf]; omega⟩
    · skip
      have hk7 : k = 32 := by omega
      subst hk7
      have hc0 : ¬ ((32 : Int) < 32) := by omega
      have g32 := prC_nodes hd Kpwr.out
      generalize hN : knN d (8 * 32) = n at *
      have HN := hid hN
      clear hN
      go_wp2_with fail
      go_returns
      refine ⟨?_, HBwr.out⟩
      rw [show (256 : Nat) = 8 * 32 from rfl, HN.out]
      by_cases hz : n = len
      · subst hz; rw [decide_eq_true rfl]; first | rfl | (show Ending.returned (.bool ((n : Int) == (n : Int))) = _; simp)
      · rw [decide_eq_false hz]; show Ending.returned (.bool ((len : Int) == (n : Int))) = _; rw [show ((len : Int) == (n : Int)) = false by simp; omega]
end Go.Proofs.YtkakoiaahgchmaaDoor
namespace Go.Proofs.YtkakoiaahgchmaaDoor
set_option maxRecDepth 100000
open Go.ChangeShapes Go.WideShapes Go.ChangeAt Go.RowKit
set_option maxHeartbeats 4000000 in
theorem climb_bad (x i d : List Int) (ad : Option Addr) (len cap : Nat) (w : World) (hd : Dg d) (hn : ¬ knN d 256 = len) :
    Calls Tryd.prog 35 #[.agg (x.map (Value.int .u8)).toArray, .agg (i.map (Value.int .u8)).toArray, .agg (prC d (.slice ad len cap)).toArray] w fun e w' => e = .returned (.tuple #[.agg (byteCells 32 []), .int .i64 2]) ∧ Below w.heap.size w w' := by
  have b1 := (Below.refl w.heap.size w).alloc (Nat.le_refl _) (.cells (x.map (Value.int .u8)).toArray 23 (0, 0))
  have b2 := b1.alloc b1.size (.cells (i.map (Value.int .u8)).toArray 23 (0, 0))
  have b3 := b2.alloc b2.size (.cells (prC d (.slice ad len cap)).toArray 26 (0, 0))
  have b4 := b3.alloc b3.size (.cells (byteCells 32 []) 23 (0, 0))
  have Kx := hid ((((Blk.new (w := w) (n := w.heap.size) rfl (x.map (Value.int .u8)).toArray 23).old (.cells (i.map (Value.int .u8)).toArray 23 (0, 0))).old (.cells (prC d (.slice ad len cap)).toArray 26 (0, 0))).old (.cells (byteCells 32 []) 23 (0, 0)))
  have Ki := hid (((Blk.new (w := (w.alloc (.cells (x.map (Value.int .u8)).toArray 23 (0, 0)))) (n := w.heap.size + 1) (by simp only [World.size_alloc]) (i.map (Value.int .u8)).toArray 23).old (.cells (prC d (.slice ad len cap)).toArray 26 (0, 0))).old (.cells (byteCells 32 []) 23 (0, 0)))
  have Kp := hid ((Blk.new (w := ((w.alloc (.cells (x.map (Value.int .u8)).toArray 23 (0, 0))).alloc (.cells (i.map (Value.int .u8)).toArray 23 (0, 0)))) (n := w.heap.size + 1 + 1) (by simp only [World.size_alloc]) (prC d (.slice ad len cap)).toArray 26).old (.cells (byteCells 32 []) 23 (0, 0)))
  have Kr := hid (Blk.new (w := (((w.alloc (.cells (x.map (Value.int .u8)).toArray 23 (0, 0))).alloc (.cells (i.map (Value.int .u8)).toArray 23 (0, 0))).alloc (.cells (prC d (.slice ad len cap)).toArray 26 (0, 0)))) (n := w.heap.size + 1 + 1 + 1) (by simp only [World.size_alloc]) (byteCells 32 []) 23)
  have Hb := hid b4
  have hbz := b4.size
  have Hbs := hid (show w.heap.size + 1 + 1 + 1 + 1 = ((((w.alloc (.cells (x.map (Value.int .u8)).toArray 23 (0, 0))).alloc (.cells (i.map (Value.int .u8)).toArray 23 (0, 0))).alloc (.cells (prC d (.slice ad len cap)).toArray 26 (0, 0))).alloc (.cells (byteCells 32 []) 23 (0, 0))).heap.size by simp only [World.size_alloc])
  clear b1 b2 b3 b4 
  go_enter Tryd.func35, Tryd.ntmps35
  go_wp2_with (refine wpList_load_blk rfl 26 _ rfl (w.heap.size + 1 + 1) rfl _ 26 Kp.out _ Tryd.underlying26 rfl 33 size_proof (prC_size hd _) ?_)
  have CK := hid (fun W : World => complete_any d ad len cap W hd)
  rw [decide_eq_false hn] at CK
  refine (CK.out _).mono ?_
  rintro e w1 ⟨rfl, bw1⟩
  have HBw1 := hid (Below.on Hb.out bw1)
  have hsw1 := HBw1.out.size
  have Kxw1 := hid (Kx.out.below bw1)
  have Kiw1 := hid (Ki.out.below bw1)
  have Kpw1 := hid (Kp.out.below bw1)
  have Krw1 := hid (Kr.out.below bw1)
  clear bw1
  go_wp2_with (
      refine wpList_store_blk rfl 23 _ _ rfl (w.heap.size + 1 + 1 + 1) (byteCells 32 []) rfl rfl _ 23 Krw1.out 32 size_digest zsize zsize (by decide +kernel) ?_
      intro w9 hb9 hk9
      have HB9 := hid (hb9.below HBw1.out HBw1.out.size (by omega))
      have HK9 := hid hk9
      clear hb9 hk9)
  exact bodyPost_ret (v := .tuple #[.agg (byteCells 32 []), .int .i64 2]) (results_blk_tmp Tryd.results35 _ (w.heap.size + 1 + 1 + 1) rfl _ rfl _ 23 HK9.out _ Tryd.underlying23 rfl 32 size_digest zsize) rfl ⟨rfl, HB9.out⟩
end Go.Proofs.YtkakoiaahgchmaaDoor
namespace Go.Proofs.YtkakoiaahgchmaaDoor
set_option maxRecDepth 100000
open Go.ChangeShapes Go.WideShapes Go.ChangeAt Go.RowKit
/-- The sibling of a level. -/
def sibL (d : List Int) (ns : List (List Int)) (k : Nat) : List Int := if knB d k then ns.getD (knN d k) [] else emptyL k
/-- A step up. -/
def stepL (i : List Int) (k : Nat) (x s : List Int) : List Int := if bitL i k = 0 then nodeL x s else nodeL s x
/-- Where one comes to. -/
def climbK (d i : List Int) (ns : List (List Int)) (x : List Int) : Nat → List Int
  | 0 => x
  | k + 1 => stepL i k (climbK d i ns x k) (sibL d ns k)
theorem Dg.stepL (i : List Int) (k : Nat) (x s : List Int) : Dg (stepL i k x s) := by
  unfold Go.Proofs.YtkakoiaahgchmaaDoor.stepL
  split
  · exact Dg.nodeL _ _
  · exact Dg.nodeL _ _
theorem Dg.climbK {x : List Int} (hx : Dg x) (d i : List Int) (ns : List (List Int)) (k : Nat) : Dg (climbK d i ns x k) := by
  cases k with
  | zero => exact hx
  | succ k => exact Dg.stepL _ _ _ _
theorem own_at {w : World} {base : Nat} {e : TypeId} {ea : Option Addr} {en ec k : Nat} {ds : List (List Int)} (h : OwnD w base e (.slice ea en ec) ds) (hk : k < ds.length) :
    ∃ g o, ea = some ⟨g, o, none⟩ ∧ (base ≤ g ∧ g < w.heap.size) ∧ w.rangeAt g (o + k * 32) ((ds.getD k []).map (Value.int .u8)) := by
  obtain ⟨a, cap, hv, hd, ha⟩ := h.digs
  cases hv
  obtain ⟨g, o, rfl, hg, hr⟩ := hd.at_ (by omega)
  refine ⟨g, o, rfl, ⟨?_, hg⟩, hr k hk⟩
  rcases ha with ha | ⟨g', ha, hb⟩
  · cases ha
  · cases ha; exact hb
end Go.Proofs.YtkakoiaahgchmaaDoor
namespace Go.Proofs.YtkakoiaahgchmaaDoor
set_option maxRecDepth 100000
open Go.ChangeShapes Go.WideShapes Go.ChangeAt Go.RowKit
theorem run_build_ent {a b : List Int} (ha : Dg a) (hb : Dg b) (w : World) : (Instr.build 64 #[(0, .agg (a.map (Value.int .u8)).toArray), (1, .agg (b.map (Value.int .u8)).toArray)]).run Tryd.prog w = .ok (.agg ((entL a b).map (Value.int .u8)).toArray) w := by
  refine run_build w _ _ _ ?_
  obtain ⟨i0, hi, hz0⟩ := Option.map_eq_some_iff.1 (show (Tryd.prog.info? 64).map (·.zero) = some (some (.agg ((entL zD zD).map (Value.int .u8)).toArray)) by kernel_rfl)
  obtain ⟨fields, hu, hq⟩ : ∃ fields, Tryd.prog.underlying 64 = some (.struct fields) ∧ fields.toList.mapM (fun f => (Tryd.prog.info? f.type).map fun i => (f.offset, i.size)) = some [(0, 32), (32, 32)] := ⟨_, Tryd.underlying64, by kernel_rfl⟩
  have hz : (Value.agg ((entL zD zD).map (Value.int .u8)).toArray).cells = ((entL zD zD).map (Value.int .u8)).toArray := rfl
  unfold Program.built
  simp only [hi, hu, hz0, hq, hz]
  have hs0 : (Value.agg (a.map (Value.int .u8)).toArray).cells.size = 32 := ha.size
  have hs1 : (Value.agg (b.map (Value.int .u8)).toArray).cells.size = 32 := hb.size
  have t0 : splice (((entL zD zD).map (Value.int .u8)).toArray).toList 0 (Value.agg (a.map (Value.int .u8)).toArray).cells.toList = (entL a zD).map (Value.int .u8) := by
    show splice ((entL zD zD).map (Value.int .u8)) 0 (a.map (Value.int .u8)) = _
    unfold splice entL
    rw [List.take_zero, List.nil_append, List.length_map, ha.len, List.map_append, List.drop_append_of_le_length (by rw [List.length_map, Dg.zero.len]; omega), List.drop_eq_nil_of_le (by rw [List.length_map, Dg.zero.len]; omega), List.nil_append, List.map_append]
  have t1 : splice ((entL a zD).map (Value.int .u8)) 32 (Value.agg (b.map (Value.int .u8)).toArray).cells.toList = (entL a b).map (Value.int .u8) := by
    show splice ((entL a zD).map (Value.int .u8)) 32 (b.map (Value.int .u8)) = _
    unfold splice entL
    rw [List.map_append, List.take_append_of_le_length (by rw [List.length_map, ha.len]; omega), List.take_of_length_le (by rw [List.length_map, ha.len]; omega), List.length_map, hb.len, List.drop_eq_nil_of_le (by simp [ha.len, Dg.zero.len]), List.append_nil, List.map_append]
  rw [fill_part _ _ 0 0 _ _ (by rw [hs0]; rfl) (by rw [hs0, two_size Dg.zero Dg.zero]; omega), t0]
  rw [fill_part _ _ 1 32 _ _ (by rw [hs1]; rfl) (by rw [hs1, two_size ha Dg.zero]; omega), List.toList_toArray, t1, Instr.fill]
end Go.Proofs.YtkakoiaahgchmaaDoor
namespace Go.Proofs.YtkakoiaahgchmaaDoor
set_option maxRecDepth 100000
open Go.ChangeShapes Go.WideShapes Go.ChangeAt Go.RowKit
theorem digs_cells {H : Type} {enc : TypeId × Value → H} {P : Program} {W : World} {n : Nat} {t e q : TypeId} {cs : List Value} {x : DataW H × List MemPlace} (hu : P.underlying t = some (.slice e)) (he : P.underlying e = some (.array 32 q)) (hq : P.underlying q = some (.int .u8))
    (ce : P.cellsOf e = 32) (cq : P.cellsOf q = 1) (h : DataW.trod enc P W 0 (fun _ => true) true n t cs = some x) :
    ∃ (a : Option Addr) (len cap : Nat) (ds : List (List Int)), cs = [.slice a len cap] ∧ DigsAt W a len cap ds := by
  rcases Go.Deep.open_slice hu h with ⟨rfl, _⟩ | ⟨x, len, cap, m, n, D, Pl, rfl, _, hl, hm, hmm, _, hall⟩
  · exact ⟨none, 0, 0, [], rfl, DigsAt.nil W⟩
  · obtain ⟨b, off, s⟩ := x
    simp only [if_true] at hmm
    have hall' : ∀ i, i < cap → ∃ dd : List Int, Dg dd ∧ W.cells? 0 ((⟨b, off, s⟩ : Addr).add (i * 32)) 32 = some (dd.map (Value.int .u8)) := fun i hi => by
      obtain ⟨cs', h1, h2⟩ := hall i (by omega)
      rw [ce] at h1
      obtain ⟨dd, h3, rfl⟩ := digest_cells he hq ce cq h2
      exact ⟨dd, h3, h1⟩
    let f : Nat → List Int := fun i => if h : i < cap then Classical.choose (hall' i h) else []
    have hf : ∀ i, i < cap → Dg (f i) ∧ W.cells? 0 ((⟨b, off, s⟩ : Addr).add (i * 32)) 32 = some ((f i).map (Value.int .u8)) := fun i hi => by
      simp only [f, hi, dif_pos]
      exact Classical.choose_spec (hall' i hi)
    refine ⟨_, len, cap, (List.range len).map f, rfl, ⟨by simp, hl, by unfold maxLen at hm; omega, fun d hd => ?_, .inr ⟨b, off, s, rfl, fun i hi => ?_⟩⟩⟩
    · simp only [List.mem_map, List.mem_range] at hd
      obtain ⟨i, hi, rfl⟩ := hd
      exact (hf i (by omega)).1
    · have hc := (World.cells?_some (hf i (by omega)).2).2.2
      have h0 := (World.cells?_some (hf 0 (by omega)).2).2.2 0 (by omega)
      have hl0 := (hf 0 (by omega)).1.len
      have hli := (hf i (by omega)).1.len
      rw [List.getElem?_map, List.getElem?_eq_getElem (by omega)] at h0
      have hs : s = none := by
        have := World.cell?_spot h0
        simpa [Addr.add] using this
      subst hs
      have hx : b < W.heap.size := by
        rw [Addr.add_mid, Addr.add_mid] at h0
        exact World.block_lt_of_cell? W _ h0
      refine ⟨rfl, hx, fun k v hv => ?_⟩
      have e : ((List.range len).map f).getD i [] = f i := by simp [hi]
      rw [e] at hv
      have hk : k < 32 := by
        have := (List.getElem?_eq_some_iff.1 hv).1
        simp only [List.length_map, hli] at this
        exact this
      have := hc k hk
      rw [Addr.add_mid, Addr.add_mid] at this
      rw [this]
      exact hv
end Go.Proofs.YtkakoiaahgchmaaDoor
namespace Go.Proofs.YtkakoiaahgchmaaDoor
set_option maxRecDepth 100000
open Go.ChangeShapes Go.WideShapes Go.ChangeAt Go.RowKit
set_option maxHeartbeats 4000000 in
theorem siblings_any (d : List Int) (ad : Option Addr) (len cap : Nat) (w : World) :
    Calls Tryd.prog 62 #[.agg (prC d (.slice ad len cap)).toArray] w fun e w' => e = .returned (.func (.func 83) #[] #[.pointer (some ⟨w.heap.size, 0, none⟩)]) ∧ Below w.heap.size w w' ∧ Blk w' w.heap.size (prC d (.slice ad len cap)).toArray 26 := by
  have b1 := (Below.refl w.heap.size w).alloc (Nat.le_refl _) (.cells (prC d (.slice ad len cap)).toArray 26 (0, 0))
  have Kp := hid (Blk.new (w := w) (n := w.heap.size) rfl (prC d (.slice ad len cap)).toArray 26)
  have Hb := hid b1
  have hbz := b1.size
  have Hbs := hid (show w.heap.size + 1 = (w.alloc (.cells (prC d (.slice ad len cap)).toArray 26 (0, 0))).heap.size by simp only [World.size_alloc])
  clear b1 
  go_enter Tryd.func62, Tryd.ntmps62
  go_wp2_with fail
  go_returns
  exact ⟨rfl, Hb.out, Kp.out⟩
end Go.Proofs.YtkakoiaahgchmaaDoor
namespace Go.Proofs.YtkakoiaahgchmaaDoor
set_option maxRecDepth 100000
open Go.ChangeShapes Go.WideShapes Go.ChangeAt Go.RowKit Go.Shelf
/-- Below block b all is as it was; from there on all cells are, but those of block b. -/
structure KeepC (b : Nat) (W W' : World) : Prop where
  low : Below b W W'
  same : ∀ (k : Nat) (o : Obj), k ≠ b → W.heap[k]? = some o → o.isCells = true → W'.heap[k]? = some o
theorem KeepC.trans {b : Nat} {X Y Z : World} (h : KeepC b X Y) (k : KeepC b Y Z) : KeepC b X Z := ⟨h.low.trans k.low, fun i o hi hx ho => k.same i o hi (h.same i o hi hx ho) ho⟩
theorem KeepC.of_below {b : Nat} {W W' : World} (hb : b ≤ W.heap.size) (h : Below W.heap.size W W') : KeepC b W W' :=
  ⟨h.mono hb, fun _ _ _ hk _ => (h.block _ (Array.getElem?_eq_some_iff.1 hk).1).trans hk⟩
theorem KeepC.of_but {b : Nat} {W W' : World} (hb : b ≤ W.heap.size) (h : But b W W') : KeepC b W W' :=
  ⟨⟨h.os, h.tape, h.output, h.size, fun k hk => h.block k (by omega) (by omega)⟩, fun _ _ hne hk _ => (h.block _ (Array.getElem?_eq_some_iff.1 hk).1 hne).trans hk⟩
theorem KeepC.putObj {b n : Nat} (hb : b ≤ n) (W : World) (l : Nat) (o o' : Obj) (hn : n ≤ l) (h : W.heap[l]? = some o) (ho : o.isCells = false) : KeepC b W (W.putObj l o') :=
  ⟨(Below.refl b W).grown (grownBy_putObj' W l o') (by have := (Array.getElem?_eq_some_iff.1 h).1; omega) (fun k e => by cases e; omega), fun k q _ hk hq => by
    by_cases e : k = l
    · subst e; rw [h] at hk; cases hk; rw [ho] at hq; cases hq
    · exact (World.putObj_heap_other e).trans hk⟩
theorem KeepC.blk {b n : Nat} {W W' : World} {cs : Array Value} {T : TypeId} (h : KeepC b W W') (k : Blk W n cs T) (hne : n ≠ b) : Blk W' n cs T := h.same n _ hne k rfl
theorem keepsFrom_below {B : Nat} {W W' : World} (h : Below W.heap.size W W') : KeepsFrom B W W' :=
  ⟨h.size, fun _ _ _ hk _ => (h.block _ (Array.getElem?_eq_some_iff.1 hk).1).trans hk⟩
theorem keepsFrom_but {b B : Nat} {W W' : World} (hb : b < B) (h : But b W W') : KeepsFrom B W W' :=
  ⟨h.size, fun _ _ hB hk _ => (h.block _ (Array.getElem?_eq_some_iff.1 hk).1 (by omega)).trans hk⟩
def noDefer (o : Oper) : Bool := match o.op with | .defer _ => false | _ => true
theorem noDefer_ne {o : Oper} (h : noDefer o = true) : ∀ c, o.op ≠ .defer c := fun c hc => by
  unfold noDefer at h
  rw [hc] at h
  cases h
theorem callsIn_any {F : Fence} (hF : F.plain = Fence.wide) {n : Nat} {P : Program} {f : FuncId} {args : Array Value} {w : World} {R : Ending → World → Prop} (h : Calls P f args w R) : CallsIn F n P f args w R := by
  have h1 : CallsIn F.plain n P f args w R := by rw [hF]; exact callsIn_wide.2 h
  exact h1
theorem rowsIn_any {F : Fence} (hF : F.plain = Fence.wide) {n : Nat} {P : Program} {row : String} {args : Array Value} {w : World} {R : Value → World → Prop} (h : Rows P row args w R) : RowsIn F n P row args w R := by
  have h1 : RowsIn F.plain n P row args w R := by
    rw [hF]
    intro c cs _
    obtain ⟨v, w1, h1, s1⟩ := h c cs
    exact ⟨v, w1, h1, stepsIn_wide.2 s1⟩
  exact h1
theorem wpListIn_pre {F : Fence} (hF : F.plain = Fence.wide) {n : Nat} {P : Program} {ops : Array Oper} {Q : Exit → Act → World → Prop} (rest : List Oper) : ∀ (L : List Oper) (a : Act) (w : World), L.all noDefer = true → wpList P ops (fun e a w => e = .normal ∧ wpListIn F n P ops Q rest a w) L a w → wpListIn F n P ops Q (L ++ rest) a w
  | [], _, _, _, h => h.2
  | o :: L, a, w, hnd, h => by
    have hfn : ∀ f, F.fn f := fun f => by
      have h1 : F.plain.fn f := by rw [hF]; trivial
      exact h1
    have hdp : F.depth = none := by
      have h1 : F.plain.depth = none := by rw [hF]; rfl
      exact h1
    rw [List.all_cons, Bool.and_eq_true] at hnd
    have ih := fun a w => wpListIn_pre hF (P := P) (ops := ops) (Q := Q) (n := n) rest L a w hnd.2
    have hout : ¬ LetsOut (fun e a w => e = Exit.normal ∧ wpListIn F n P ops Q rest a w) := fun ⟨_, _, h, _⟩ => by cases h
    unfold wpList at h
    rw [List.cons_append]
    unfold wpListIn
    split at h
    · rename_i hw
      rw [if_pos hw]
      rcases h with h | ⟨_, h⟩
      · refine ⟨fun f _ => hfn f, ?_⟩
        rw [Oper.semAt_plain F _ _ (noDefer_ne hnd.1)]
        unfold Oper.wp at h
        revert h
        generalize (execOp a.eval o).run P w = r
        intro h
        unfold Oper.upon at h
        split at h
        · exact ih _ _ h
        · exact ih _ _ h
        · exact ih _ _ h
        · refine ⟨fun h => (by rw [hdp] at h; cases h), callsIn_any hF (h.mono ?_)⟩
          intro e w1 h1
          cases e with
          | returned v => exact ih _ _ h1
          | panicked c => exact absurd h1.1 (by simp)
          | outgrown => exact (hout h1).elim
        · refine ⟨fun h => (by rw [hdp] at h; cases h), ?_⟩
          exact rowsIn_any hF (h.mono fun v w1 h1 => ih _ _ h1)
        · exact absurd h.1 (by simp)
        · exact h.elim
      · exact (hout h).elim
    · rename_i hw
      rw [if_neg hw]
      exact ⟨fun f _ => hfn f, ih _ _ h⟩
theorem wpListIn_any {F : Fence} (hF : F.plain = Fence.wide) {n : Nat} {P : Program} {ops : Array Oper} {Q : Exit → Act → World → Prop} (L : List Oper) (a : Act) (w : World) (hnd : L.all noDefer = true) (h : wpList P ops (fun e a w => e = .normal ∧ Q .normal a w) L a w) : wpListIn F n P ops Q L a w := by
  have := wpListIn_pre hF (P := P) (ops := ops) (Q := Q) (n := n) [] L a w hnd h
  rwa [List.append_nil] at this
theorem wpListIn_one {F : Fence} (hF : F.plain = Fence.wide) {n : Nat} {P : Program} {ops : Array Oper} {Q : Exit → Act → World → Prop} {rest : List Oper} {o : Oper} {a : Act} {w : World} (hnd : noDefer o = true) (h : wpList P ops (fun e a w => e = .normal ∧ wpListIn F n P ops Q rest a w) [o] a w) : wpListIn F n P ops Q (o :: rest) a w :=
  wpListIn_pre hF rest [o] a w (by simp [hnd]) h
/-- A region within a range over a function, walked as anywhere. -/
theorem wpIn_region_as {F : Fence} (hF : F.plain = Fence.wide) {n id : Nat} {P : Program} {L : List Oper} {Q : Exit → Act → World → Prop} {a : Act} {w : World} (hnd : L.all noDefer = true) (h : wpList P L.toArray (fun e a w => e = .normal ∧ Q .normal a w) L a w) : (Code.region id L.toArray false).wpIn F n P Q a w :=
  wpIn_region_lit (wpListIn_any hF L a w hnd h)
theorem grown_below {w w' : World} (h : Below w.heap.size w w') : w.grownBy w' none := ⟨h.os, h.tape, h.output, h.size, fun k hk _ => h.block k hk⟩
/-- The places up to k. -/
def upF (k : Nat) : List (Fin 256) := (List.finRange 256).take k
theorem upF_succ {k : Nat} (hk : k < 256) : upF (k + 1) = upF k ++ [⟨k, hk⟩] := by
  unfold upF
  rw [List.take_add_one, List.getElem?_eq_getElem (by rw [List.length_finRange]; exact hk)]
  simp
theorem upF_length {k : Nat} (hk : k ≤ 256) : (upF k).length = k := by
  unfold upF
  rw [List.length_take, List.length_finRange]
  omega
/-- Where one has come to when these places are climbed. -/
def foldC (d i : List Int) (ns : List (List Int)) (x : List Int) (pre : List (Fin 256)) : List Int := pre.foldl (fun X (k : Fin 256) => stepL i k.1 X (sibL d ns k.1)) x
theorem foldC_snoc (d i : List Int) (ns : List (List Int)) (x : List Int) (pre : List (Fin 256)) (k : Fin 256) : foldC d i ns x (pre ++ [k]) = stepL i k.1 (foldC d i ns x pre) (sibL d ns k.1) := by
  simp [foldC]
theorem foldC_up (d i : List Int) (ns : List (List Int)) (x : List Int) : ∀ {k : Nat}, k ≤ 256 → foldC d i ns x (upF k) = climbK d i ns x k
  | 0, _ => rfl
  | k + 1, h => by rw [upF_succ (by omega), foldC_snoc, foldC_up d i ns x (by omega)]; rfl
theorem Dg.foldC {x : List Int} (hx : Dg x) (d i : List Int) (ns : List (List Int)) (pre : List (Fin 256)) : Dg (foldC d i ns x pre) := by
  rcases List.eq_nil_or_concat pre with rfl | ⟨l, a, rfl⟩
  · exact hx
  · rw [List.concat_eq_append, foldC_snoc]; exact Dg.stepL _ _ _ _
theorem Dg.sibL {w : World} {d : List Int} {ad : Option Addr} {len cap : Nat} {ns : List (List Int)} (hn : knN d 256 = len) (hns : DigsAt w ad len cap ns) {k : Nat} (hk : k < 256) : Dg (sibL d ns k) := by
  unfold Go.Proofs.YtkakoiaahgchmaaDoor.sibL
  split
  · rename_i h
    have h1 : knN d (k + 1) = knN d k + (if knB d k then 1 else 0) := rfl
    rw [if_pos h] at h1
    have h2 := knN_mono d (show k + 1 ≤ 256 by omega)
    exact Dg.getD hns.each (by rw [hns.length]; omega)
  · exact Dg.emptyL k
end Go.Proofs.YtkakoiaahgchmaaDoor
namespace Go.Proofs.YtkakoiaahgchmaaDoor
set_option maxRecDepth 100000
open Go.ChangeShapes Go.WideShapes Go.ChangeAt Go.RowKit Go.Shelf
attribute [local go_sem] Oper.semAt_some
theorem quiet_cut_l {op : Oper} {a : Act} {C : World → Prop} {K : Act → Prop} (x y : Operand) (ho : op.op = .slice 24 x (some y) none none) (a0 : Option Addr) (len cap n : Nat) (v : Int) (hx : a.eval x = .slice a0 len cap) (hy : a.eval y = .int .i64 v) (hv : v = n) (hn : n ≤ len)
    (h : K (a.put op.dst (.slice (cutD a0 n cap) (len - n) (cap - n)))) : op.quiet Tryd.prog a C K :=
  ⟨.slice (cutD a0 n cap) (len - n) (cap - n), fun w' _ => by
    subst hv
    have hr := run_cutd_l (P := Tryd.prog) Tryd.underlying24 size_digest a0 len cap (n : Int) w' (by omega) (by omega)
    rw [Int.toNat_natCast] at hr
    have he : Tryd.prog.elem 24 = 23 := by simp [Program.elem, Tryd.underlying24]
    have hs := run_sliceAt_slice (P := Tryd.prog) (w := w') 24 (.slice a0 len cap) (some (.int .i64 n)) none none (by rw [he]; exact Tryd.underlying24)
    rw [hr] at hs
    unfold Oper.quietAt execOp
    simp only [ho, hx, hy, Option.map_none, Option.map_some, Sem.run_bind, Sem.run_pure, Result.andThen_ok, hs]
    simp [Oper.quietUpon], h⟩
theorem cut_one {w : World} {a : Option Addr} {len cap q : Nat} {ns : List (List Int)} (h : DigsAt w a (len - q) (cap - q) (ns.drop q)) (hq : q + 1 ≤ len) : DigsAt w (cutD a 1 (cap - q)) (len - (q + 1)) (cap - (q + 1)) (ns.drop (q + 1)) := by
  have h1 := h.cut 1 (len - q) (by omega) (Nat.le_refl _)
  rw [List.drop_drop, List.take_of_length_le (by have := h.length; rw [List.length_drop] at this; rw [List.length_drop]; omega), Nat.sub_sub, Nat.sub_sub, show q + 1 = q + 1 from rfl] at h1
  exact h1
set_option maxHeartbeats 4000000 in
theorem siblings_stops (n : Nat) (d : List Int) (ad : Option Addr) (len cap : Nat) (ns : List (List Int)) (pb : Nat) (w W0 : World) (hd : Dg d) (hn : knN d 256 = len) (hns : DigsAt w ad len cap ns) (hB : Below w.heap.size w W0) (hpb : w.heap.size < pb) (hk : Blk W0 pb (prC d (.slice ad len cap)).toArray 26) (tab : ShaTab W0) :
    SeqStopsK Fence.wide n Tryd.prog 83 #[.pointer (some ⟨pb, 0, none⟩)] (fun k : Fin 256 => #[.int .i64 (k.1 : Int), .agg ((sibL d ns k.1).map (Value.int .u8)).toArray]) (KeepC w.heap.size) (fun ys => ys = upF 256) (fun pre => ∃ k, k ≤ 256 ∧ pre = upF k) 256 W0 := fun l J Jx W hW hJ hJx hY h0 => by
  have HK := hid (hk.below hW)
  have HB := hid (Below.on hB hW)
  have HT := hid (tab.below hW)
  have HNS := hid hns
  have HY := hid hY
  have HJ := hid hJ
  have H0 := hid h0
  have hpl := HK.out.lt
  have hws := HB.out.size
  have CE := hid (fun (W : World) (t : ShaTab W) => empty_any W t)
  have hEe := hid (empN_each 257)
  have hEl := hid (empN_length 257)
  have hEg := hid (fun (k : Nat) (h : k < 257) => empN_get (n := 257) (k := k) h)
  generalize empN 257 = es at *
  have c1 : W.cell? ⟨pb, 32, none⟩ = some (.slice ad len cap) := prC_nodes hd HK.out
  clear hW hB tab hns hY hJ hJx h0 hk
  refine callsIn_of_wp Tryd.func83 rfl trivial ?_ rfl
  simp only [Tryd.ntmps83, List.size_toArray, List.length_cons, List.length_nil, Nat.reduceAdd, Nat.reduceSub, Array.replicate_succ, Array.replicate_zero, List.push_toArray, List.append_toArray, List.nil_append, List.cons_append]
  apply wpIn_seq_k
  intro _ _
  refine wpIn_region_as rfl rfl ?_
  go_wp2_with fail
  apply wpIn_seq_k
  intro _ _
  refine wpIn_region_as rfl rfl ?_
  go_wp2_with fail
  refine (CE.out _ HT.out).mono ?_
  rintro e w1 ⟨rfl, b1, k1⟩
  have HK1 := hid (HK.out.below b1)
  have HB1 := hid (Below.on HB.out b1)
  have hb1s := b1.size
  have HG1 := hid k1
  have HJ1 := hid (HJ.out [] W w1 none H0.out (grown_below b1) (by intro r e; cases e))
  have hcut : ∀ W' : World, (Instr.slice 24 (.slice (some ⟨W.heap.size, 0, none⟩) 257 257) none (some (.int .i64 256)) none).run Tryd.prog W' = .ok (.slice (some ⟨W.heap.size, 0, none⟩) 256 257) W' := fun W' => by
    have h := run_cutd_h (P := Tryd.prog) Tryd.underlying24 size_digest (some ⟨W.heap.size, 0, none⟩) 257 257 256 W' (by omega) (by omega)
    exact h
  clear b1 k1 c1
  go_wp2_with fail
  apply wpIn_block
  gi_loopw [3, 11] (fun rv kv wr => ∃ k : Nat, k ≤ 256 ∧ kv = .int .i64 k ∧ (∃ ra, rv = .slice ra (len - knN d k) (cap - knN d k) ∧ DigsAt w ra (len - knN d k) (cap - knN d k) (ns.drop (knN d k))) ∧ J (upF k) wr ∧ Below w.heap.size w wr ∧ Blk wr pb (prC d (.slice ad len cap)).toArray 26 ∧ Blk wr W.heap.size (dcs es) 23) (fun _ kv _ => 256 - (intOf kv).toNat)
  case atStart => exact ⟨0, Nat.zero_le _, rfl, ⟨ad, rfl, by rw [show knN d 0 = 0 from rfl]; exact HNS.out⟩, HJ1.out, HB1.out, HK1.out, HG1.out⟩
  case round =>
    obtain ⟨k, hk, rfl, ⟨ra, rfl, hra⟩, hj, bel, kp, kg⟩ := hrel
    have HRA := hid hra
    have HKr := hid kp
    have HGr := hid kg
    have HBr := hid bel
    have HJr := hid hj
    have hsr := bel.size
    have hplr := kp.lt
    have hglr := kg.lt
    clear kp kg bel hj hra
    by_cases hlt : k < 256
    · skip
      have hc0 : (k : Int) < 256 := by omega
      apply wpIn_seq_k
      intro _ _
      refine wpIn_region_as rfl rfl ?_
      go_wp2_with fail
      apply wpIn_seq_k
      intro _ _
      refine wpIn_cond_true rfl ?_
      apply wpIn_skip
      gi_step
      gi_step
      apply wpIn_seq_k
      intro _ _
      apply wpIn_block
      apply wpIn_seq_k
      intro _ _
      have hE : es.getD k [] = emptyL k := hEg.out k (by omega)
      have HE := hid (Dg.emptyL k)
      have Hr0 := hid (by have h := dig_rng HGr.out hEe.out (j := k) (by rw [hEl.out]; omega); rw [hE] at h; exact h)
      clear hE
      refine wpIn_region_as rfl rfl ?_
      go_wp2_with (first
               | (refine wpList_index_digs rfl 24 _ _ rfl Tryd.underlying24 size_digest W.heap.size 0 256 257 rfl _ _ rfl k rfl (by omega) ?_)
               | (refine wpList_load_mid rfl 23 _ rfl W.heap.size (0 + k * 32) rfl _ _ Hr0.out Tryd.underlying23 rfl (by rw [List.length_map, HE.out.len]; exact size_digest) ?_)
               | (
               refine wpList_store_blk rfl 23 _ _ rfl (wr.heap.size) ((emptyL k).map (Value.int .u8)).toArray rfl rfl _ 23 (Blk.new rfl (byteCells 32 []) _) 32 size_digest zsize HE.out.size (ints_one _ _) ?_
               intro w2 hb2 hk2
               have b2 := hb2.below ((Below.refl wr.heap.size wr).alloc (Nat.le_refl _) _) (by simp only [World.size_alloc]; omega) (Nat.le_refl _)
               have HB2 := hid b2
               have hs2 := b2.size
               have HK2 := hid (HKr.out.below b2)
               have HG2 := hid (HGr.out.below b2)
               have HS2 := hid hk2
               have hsl2 := hk2.lt
               clear hb2 hk2 b2))
      apply wpIn_seq_k
      intro _ _
      apply wpIn_seq_k
      intro _ _
      have hxx := dg_at hd (k / 8)
      have hlen := hd.len
      have hxe : w2.cell? ⟨pb, k / 8, none⟩ = some (.int .u8 (d.getD (k / 8) 0)) := by
        have h := prC_known HK2.out (k / 8) (.int .u8 (d.getD (k / 8) 0)) (by rw [List.getElem?_map, List.getD_eq_getElem?_getD, List.getElem?_eq_getElem (by omega)]; rfl)
        rw [Nat.zero_add] at h
        exact h
      have hI0 : ¬ (k : Int) / 8 < 0 := by omega
      have hI1 : ¬ (32 : Int) ≤ (k : Int) / 8 := by omega
      have hI2 : ¬ (k : Int) % 8 < 0 := by omega
      have hkb : knB d k = decide (d.getD (k / 8) 0 / 2 ^ (k % 8) % 2 = 1) := rfl
      have hsn : knN d (k + 1) = knN d k + (if knB d k then 1 else 0) := rfl
      have hsb : sibL d ns k = if knB d k then ns.getD (knN d k) [] else emptyL k := rfl
      have hmn := knN_mono d (show k + 1 ≤ 256 by omega)
      have HSd := hid (Dg.sibL hn HNS.out (k := k) (by omega))
      have HYk := hid (HY.out (upF k) ⟨k, hlt⟩)
      dsimp only at HYk
      generalize d.getD (k / 8) 0 = x at *
      have h2 : 0 ≤ x / 2 ^ (k % 8) ∧ x / 2 ^ (k % 8) < 256 := ⟨Int.ediv_nonneg hxx.1 (Int.le_of_lt (Int.pow_pos (by omega))), Int.lt_of_le_of_lt (Int.ediv_le_self _ hxx.1) hxx.2⟩
      have hbt := and_one' h2
      generalize sibL d ns k = Sb at *
      cases hB : knB d k
      · skip
        rw [hB] at hkb hsn hsb
        clear hB
        have hc1 : (bits .and .u8 (x / 2 ^ (k % 8)) 1 == 1) = false := by
          rw [hbt]
          have := of_decide_eq_false hkb.symm
          simpa using this
        rw [if_neg (by simp)] at hsn hsb
        rw [Nat.add_zero] at hsn
        rw [← hsb] at HS2
        generalize hq : knN d k = q at *
        have HN := hid hsn
        have HQ := hid hq
        have HSB := hid hsb
        clear hbt hkb hsn hq hsb h2 hxx
        refine wpIn_region_as rfl rfl ?_
        go_wp2_with fail
        refine wpIn_cond_false rfl ?_
        apply wpIn_skip
        gi_step
        gi_step
        have HJY := hid (HJ.out (upF k) wr w2 none HJr.out (grown_below HB2.out) (by intro r e; cases e))
        have HBY := hid (Below.on HBr.out HB2.out)
        have HKY := hid HK2.out
        have HGY := hid HG2.out
        have HSY := hid HS2.out
        have hsY := HBY.out.size
        obtain ⟨fn, tmps, assign, body, hy, hR⟩ := HYk.out w2 HJY.out (by rw [upF_length (by omega)]; exact hlt)
        have HR := hid hR
        clear hR
        apply wpIn_seq_k
        intro _ _
        apply wpIn_region_lit
        gi_wp2_with (refine wpListIn_one (F := Fence.wide) rfl rfl ?_; refine wpList_load_blk rfl 23 _ rfl (wr.heap.size) rfl _ 23 HSY.out _ Tryd.underlying23 rfl 32 size_digest HSd.out.size ?_; refine wpList_nil ⟨rfl, ?_⟩)
        refine ⟨fun h => (by simp [Fence.wide] at h), HR.out.mono ?_⟩
        rintro e W3 (⟨rfl, hJ3, hk3⟩ | ⟨rfl, hJx3⟩)
        · skip
          have HJ3 := hid hJ3
          have HK3 := hid hk3
          clear hJ3 hk3
          gi_wp2_with fail
          go_roundw
          case rel => exact ⟨k + 1, by omega, by simp, ⟨ra, by simp only [HN.out, Nat.add_zero], by simp only [HN.out, Nat.add_zero]; exact HRA.out⟩, by rw [upF_succ hlt]; exact HJ3.out, HBY.out.trans HK3.out.low, HK3.out.blk HKY.out (by omega), HK3.out.blk HGY.out (by omega)⟩
          case measure => simp [intOf]; omega
        · skip
          have HJ3 := hid hJx3
          clear hJx3
          gi_wp2_with fail
          refine bodyPost_ret (results_none rfl _ _ _) rfl ?_
          exact ⟨⟨_, rfl⟩, .inr ⟨_, ⟨k + 1, by omega, rfl⟩, by rw [upF_succ hlt]; exact HJ3.out⟩⟩
      · skip
        rw [hB] at hkb hsn hsb
        clear hB
        have hc1 : (bits .and .u8 (x / 2 ^ (k % 8)) 1 == 1) = true := by
          rw [hbt]
          have := of_decide_eq_true hkb.symm
          simpa using this
        rw [if_pos rfl] at hsn hsb
        generalize hq : knN d k = q at *
        have hql : q + 1 ≤ len := by omega
        have HN := hid hsn
        have HQ := hid hq
        have HSB := hid hsb
        clear hbt hkb hsn hq hsb h2 hxx
        obtain ⟨g, ro, rfl, hg, hr⟩ := HRA.out.at_ (by omega)
        have Hr1 := hid (by have h := hr 0 (by omega); rw [show (ns.drop q).getD 0 [] = ns.getD q [] by simp [List.getD_eq_getElem?_getD], ← HSB.out] at h; exact h)
        clear hr
        refine wpIn_region_as rfl rfl ?_
        go_wp2_with fail
        refine wpIn_cond_true rfl ?_
        refine wpIn_wide.2 ?_
        refine FlowB.wp_region_butIn [wr.heap.size] (fun wz => Blk wz wr.heap.size ((emptyL k).map (Value.int .u8)).toArray 23) 6 [0, 1, 2, 3, 4] [] [(.c 5, [], [])] (by kernel_rfl) (by kernel_rfl) HS2.out (fun _ _ h hb => h.below hb) ?_
        apply Exists.intro
        refine ⟨fun w0 hb0 hF0 => ?_, ?_⟩
        · skip
          have yr : ∀ w', (∃ x : Ext w0, w' = x.at_) → w'.rangeAt g (ro + 0 * 32) (Sb.map (Value.int .u8)) := fun w' ⟨x, hx⟩ => by
            rw [hx]
            exact rangeAt_below (w := w0) (fun j v hv => by
              have h1 := HB2.out
              rw [show w0.cell? ⟨g, ro + 0 * 32 + j, none⟩ = w.cell? ⟨g, ro + 0 * 32 + j, none⟩ from (hb0.below (Below.on HBr.out h1) (by have := h1.size; omega) (by intro b hb; simp only [List.mem_singleton] at hb; omega)).cell (p := ⟨g, ro + 0 * 32 + j, none⟩) hg]
              exact Hr1.out j v hv) (by have := hb0.size; have := HB2.out.size; omega) x.same
          simp only [pick, List.getElem?_toArray, List.getElem?_cons_succ, List.getElem?_cons_zero, Option.toList_some, List.cons_append, List.nil_append]
          repeat (first | (go_big_quiet_want; refine quiet_index_digs 24 _ _ rfl Tryd.underlying24 size_digest g ro (len - q) (cap - q) rfl _ _ rfl 0 rfl (by omega) ?_; go_big_quiet_on; simp only [Act.put, List.setIfInBounds_toArray, List.set_cons_zero, List.set_cons_succ]) | (go_big_quiet_want; refine quiet_load_mid 23 _ rfl g (ro + 0 * 32) rfl _ yr _ Tryd.underlying23 rfl (by rw [List.length_map, HSd.out.len]; exact size_digest) ?_; go_big_quiet_on; simp only [Act.put, List.setIfInBounds_toArray, List.set_cons_zero, List.set_cons_succ]) | (go_big_quiet_want; refine quiet_cut_l _ _ rfl (some ⟨g, ro, none⟩) (len - q) (cap - q) 1 _ rfl rfl rfl (by omega) ?_; go_big_quiet_on; simp only [Act.put, List.setIfInBounds_toArray, List.set_cons_zero, List.set_cons_succ]) | go_big_quiet_step (fail))
          exact wpQuiet_nil rfl
        refine FlowB.AlChk.nil ?_
        refine FlowB.Walk.skips rfl (fun wz => Blk wz wr.heap.size (Sb.map (Value.int .u8)).toArray 23) (fun _ _ h hb => h.below hb) rfl (fun w1 hb1 hF1 hG1 => ?_) ?_
        · exact FlowB.store_skips 23 _ _ rfl (wr.heap.size) (Sb.map (Value.int .u8)).toArray rfl rfl _ 23 hG1 32 size_digest HE.out.size HSd.out.size (ints_one _ _) (by simp) (fun w2 h2 h3 => h3)
        intro w1 hb1 hF1
        apply Exists.intro
        refine ⟨fun w2 hb2 hF2 => wpQuiet_nil rfl, ?_⟩
        refine FlowB.AlChk.nil ?_
        refine FlowB.Walk.fin fun w4 h4 _ hG4 => ?_
        simp only [List.drop_succ_cons, List.drop_zero]
        have HB4 := hid (h4.below HB2.out (by have := HB2.out.size; omega) (by intro b hb; simp only [List.mem_singleton] at hb; omega))
        have HK4 := hid (h4.blk HK2.out (by simp only [List.mem_singleton]; omega))
        have HG4 := hid (h4.blk HG2.out (by simp only [List.mem_singleton]; omega))
        have HS4 := hid hG4
        clear h4 hG4 hb1 hF1
        go_wp2_with fail
        have HJY := hid (HJ.out (upF k) wr w4 none HJr.out (grown_below HB4.out) (by intro r e; cases e))
        have HBY := hid (Below.on HBr.out HB4.out)
        have HKY := hid HK4.out
        have HGY := hid HG4.out
        have HSY := hid HS4.out
        have hsY := HBY.out.size
        obtain ⟨fn, tmps, assign, body, hy, hR⟩ := HYk.out w4 HJY.out (by rw [upF_length (by omega)]; exact hlt)
        have HR := hid hR
        clear hR
        apply wpIn_seq_k
        intro _ _
        apply wpIn_region_lit
        gi_wp2_with (refine wpListIn_one (F := Fence.wide) rfl rfl ?_; refine wpList_load_blk rfl 23 _ rfl (wr.heap.size) rfl _ 23 HSY.out _ Tryd.underlying23 rfl 32 size_digest HSd.out.size ?_; refine wpList_nil ⟨rfl, ?_⟩)
        refine ⟨fun h => (by simp [Fence.wide] at h), HR.out.mono ?_⟩
        rintro e W3 (⟨rfl, hJ3, hk3⟩ | ⟨rfl, hJx3⟩)
        · skip
          have HJ3 := hid hJ3
          have HK3 := hid hk3
          clear hJ3 hk3
          gi_wp2_with fail
          go_roundw
          case rel => exact ⟨k + 1, by omega, by simp, ⟨_, by rw [HN.out]; first | rfl | simp [Nat.sub_sub], by rw [HN.out]; exact cut_one HRA.out (by omega)⟩, by rw [upF_succ hlt]; exact HJ3.out, HBY.out.trans HK3.out.low, HK3.out.blk HKY.out (by omega), HK3.out.blk HGY.out (by omega)⟩
          case measure => simp [intOf]; omega
        · skip
          have HJ3 := hid hJx3
          clear hJx3
          gi_wp2_with fail
          refine bodyPost_ret (results_none rfl _ _ _) rfl ?_
          exact ⟨⟨_, rfl⟩, .inr ⟨_, ⟨k + 1, by omega, rfl⟩, by rw [upF_succ hlt]; exact HJ3.out⟩⟩
    · skip
      have hk7 : k = 256 := by omega
      subst hk7
      have hc0 : ¬ ((256 : Int) < 256) := by omega
      gi_wp2_with fail
      go_end0
      exact ⟨⟨_, rfl⟩, .inl HJr.out⟩
end Go.Proofs.YtkakoiaahgchmaaDoor
namespace Go.Proofs.YtkakoiaahgchmaaDoor
set_option maxRecDepth 100000
open Go.ChangeShapes Go.WideShapes Go.ChangeAt Go.RowKit Go.Shelf
attribute [local go_sem] Oper.semAt_some
theorem Blk.grownC {W W' : World} {b : Nat} {cs : Array Value} {T : TypeId} {row : Option Nat} (h : Blk W b cs T) (hg : W.grownBy W' row) (hr : ∀ r, row = some r → ∃ o : Obj, W.heap[r]? = some o ∧ o.isCells = false) : Blk W' b cs T :=
  (hg.block b h.lt (fun e => by obtain ⟨o, ho, hc⟩ := hr b e.symm; rw [show W.heap[b]? = _ from h] at ho; cases ho; cases hc)).trans h
theorem bitL_two (d : List Int) (k : Nat) : bitL d k = 0 ∨ bitL d k = 1 := by
  unfold bitL
  omega
set_option maxHeartbeats 4000000 in
theorem climb_good (x i d : List Int) (ad : Option Addr) (len cap : Nat) (ns : List (List Int)) (w : World) (hx : Dg x) (hi : Dg i) (hd : Dg d) (hn : knN d 256 = len) (hns : DigsAt w ad len cap ns) (tab : ShaTab w) :
    Calls Tryd.prog 35 #[.agg (x.map (Value.int .u8)).toArray, .agg (i.map (Value.int .u8)).toArray, .agg (prC d (.slice ad len cap)).toArray] w fun e w' => e = .returned (.tuple #[.agg ((climbK d i ns x 256).map (Value.int .u8)).toArray, .int .i64 0]) ∧ Below w.heap.size w w' := by
  have b1 := (Below.refl w.heap.size w).alloc (Nat.le_refl _) (.cells (x.map (Value.int .u8)).toArray 23 (0, 0))
  have b2 := b1.alloc b1.size (.cells (i.map (Value.int .u8)).toArray 23 (0, 0))
  have b3 := b2.alloc b2.size (.cells (prC d (.slice ad len cap)).toArray 26 (0, 0))
  have b4 := b3.alloc b3.size (.cells (byteCells 32 []) 23 (0, 0))
  have Kx := hid ((((Blk.new (w := w) (n := w.heap.size) rfl (x.map (Value.int .u8)).toArray 23).old (.cells (i.map (Value.int .u8)).toArray 23 (0, 0))).old (.cells (prC d (.slice ad len cap)).toArray 26 (0, 0))).old (.cells (byteCells 32 []) 23 (0, 0)))
  have Ki := hid (((Blk.new (w := (w.alloc (.cells (x.map (Value.int .u8)).toArray 23 (0, 0)))) (n := w.heap.size + 1) (by simp only [World.size_alloc]) (i.map (Value.int .u8)).toArray 23).old (.cells (prC d (.slice ad len cap)).toArray 26 (0, 0))).old (.cells (byteCells 32 []) 23 (0, 0)))
  have Kp := hid ((Blk.new (w := ((w.alloc (.cells (x.map (Value.int .u8)).toArray 23 (0, 0))).alloc (.cells (i.map (Value.int .u8)).toArray 23 (0, 0)))) (n := w.heap.size + 1 + 1) (by simp only [World.size_alloc]) (prC d (.slice ad len cap)).toArray 26).old (.cells (byteCells 32 []) 23 (0, 0)))
  have Kr := hid (Blk.new (w := (((w.alloc (.cells (x.map (Value.int .u8)).toArray 23 (0, 0))).alloc (.cells (i.map (Value.int .u8)).toArray 23 (0, 0))).alloc (.cells (prC d (.slice ad len cap)).toArray 26 (0, 0)))) (n := w.heap.size + 1 + 1 + 1) (by simp only [World.size_alloc]) (byteCells 32 []) 23)
  have Hb := hid b4
  have hbz := b4.size
  have Hbs := hid (show w.heap.size + 1 + 1 + 1 + 1 = ((((w.alloc (.cells (x.map (Value.int .u8)).toArray 23 (0, 0))).alloc (.cells (i.map (Value.int .u8)).toArray 23 (0, 0))).alloc (.cells (prC d (.slice ad len cap)).toArray 26 (0, 0))).alloc (.cells (byteCells 32 []) 23 (0, 0))).heap.size by simp only [World.size_alloc])
  have Htab := hid tab
  clear b1 b2 b3 b4 tab 
  have CK := hid (fun W : World => complete_any d ad len cap W hd)
  rw [decide_eq_true hn] at CK
  have CS := hid (fun W : World => siblings_any d ad len cap W)
  have CN := hid (fun (a b : List Int) (ha : Dg a) (hb : Dg b) (W : World) (t : ShaTab W) => lonode_any a b W ha hb t)
  have CB := hid (fun (k : Nat) (hk : k < 256) (W : World) => bit_in i k W hi hk)
  refine (callsIn_wide (n := 7)).1 ?_
  refine callsIn_of_wp_marks Tryd.func35 rfl trivial ?_ rfl
  simp only [Tryd.ntmps35, List.size_toArray, List.length_cons, List.length_nil, Nat.reduceAdd, Nat.reduceSub, Array.replicate_succ, Array.replicate_zero, List.push_toArray, List.append_toArray, List.nil_append, List.cons_append]
  apply wpIn_seq_k
  intro _ _
  refine wpIn_region_as rfl rfl ?_
  go_wp2_with fail
  apply wpIn_seq_k
  intro _ _
  apply wpIn_seq_k
  intro _ _
  refine wpIn_region_as rfl rfl ?_
  go_wp2_with (refine wpList_load_blk rfl 26 _ rfl (w.heap.size + 1 + 1) rfl _ 26 Kp.out _ Tryd.underlying26 rfl 33 size_proof (prC_size hd _) ?_)
  refine (CK.out _).mono ?_
  rintro e w1 ⟨rfl, bw1⟩
  have HBw1 := hid (Below.on Hb.out bw1)
  have hsw1 := HBw1.out.size
  have Kxw1 := hid (Kx.out.below bw1)
  have Kiw1 := hid (Ki.out.below bw1)
  have Kpw1 := hid (Kp.out.below bw1)
  have Krw1 := hid (Kr.out.below bw1)
  clear bw1
  go_wp2_with fail
  refine wpIn_cond_false rfl ?_
  apply wpIn_skip
  gi_step
  gi_step
  apply wpIn_seq_k
  intro _ _
  apply wpIn_seq_k
  intro _ _
  refine wpIn_region_as rfl rfl ?_
  go_wp2_with (refine wpList_load_blk rfl 26 _ rfl (w.heap.size + 1 + 1) rfl _ 26 Kpw1.out _ Tryd.underlying26 rfl 33 size_proof (prC_size hd _) ?_)
  refine (CS.out _).mono ?_
  rintro e w2 ⟨rfl, b2, k2⟩
  have KQ := hid k2
  clear k2
  have HBw2 := hid (Below.on HBw1.out b2)
  have hsw2 := HBw2.out.size
  have Kxw2 := hid (Kxw1.out.below b2)
  have Kiw2 := hid (Kiw1.out.below b2)
  have Kpw2 := hid (Kpw1.out.below b2)
  have Krw2 := hid (Krw1.out.below b2)
  clear b2
  go_wp2_with fail
  apply wpIn_block
  have hns2 := hns
  have hsz : w.heap.size + 1 + 1 + 1 + 1 ≤ w1.heap.size := by have := Krw1.out.lt; omega
  have hsy : w1.heap.size < w2.heap.size := KQ.out.lt
  have htb := Htab.out.below HBw2.out
  refine wpIn_rangeFunc_ownH rfl (by omega) (gf := 83) (lb := #[.pointer (some ⟨w1.heap.size, 0, none⟩)]) rfl trivial (enters_of Tryd.func83 (by kernel_rfl) rfl)
    (siblings_stops _ d ad len cap ns w1.heap.size w w2 hd hn hns HBw2.out (by omega) KQ.out htb)
    (fun h k => h.trans k) (fun W l o o' hl h ho _ => KeepC.putObj (n := w2.heap.size) (by omega) W l o o' hl h ho) (Below.refl _ _) (fun _ => rfl)
    (fun pre W => (Blk W w.heap.size ((foldC d i ns x pre).map (Value.int .u8)).toArray 23 ∧ Blk W (w.heap.size + 1) (i.map (Value.int .u8)).toArray 23 ∧ Blk W (w.heap.size + 1 + 1 + 1) (byteCells 32 []) 23) ∧ Below w.heap.size w W)
    (fun _ _ _ => False)
    (OwnFrom.and (Own.from (fun s A B row hs hg hr => ⟨hs.1.grownC hg hr, hs.2.1.grownC hg hr, hs.2.2.grownC hg hr⟩) _) (ownFrom_below (Nat.le_refl _) (by omega)))
    (fun _ _ _ _ _ hs _ _ => hs)
    ⟨⟨Kxw2.out, Kiw2.out, Krw2.out⟩, HBw2.out⟩
    (fun k a' W => ∃ Bx, Blk W Bx ((sibL d ns k.1).map (Value.int .u8)).toArray 23 ∧ a' = { tmps := #[.agg (x.map (Value.int .u8)).toArray, .agg (i.map (Value.int .u8)).toArray, .agg (prC d (.slice ad len cap)).toArray, .pointer (some ⟨w.heap.size, 0, none⟩), .pointer (some ⟨w.heap.size + 1, 0, none⟩), .pointer (some ⟨w.heap.size + 1 + 1, 0, none⟩), .pointer (some ⟨w.heap.size + 1 + 1 + 1, 0, none⟩), .int .i64 0, .int .i64 (k.1 : Int), .pointer (some ⟨Bx, 0, none⟩), .agg (prC d (.slice ad len cap)).toArray, .bool true, .bool false, undef, .agg (prC d (.slice ad len cap)).toArray, .func (.func 83) #[] #[.pointer (some ⟨w1.heap.size, 0, none⟩)], .int .i64 (k.1 : Int), .agg ((sibL d ns k.1).map (Value.int .u8)).toArray, undef, undef, undef, undef, undef, undef, undef, undef, undef, undef, undef], defers := [] })
    (fun k a' => fun _ A B row hs hg hr => by
      obtain ⟨Bx, h2, h3⟩ := hs
      exact ⟨Bx, h2.grownC hg (fun r e => (hr r e).2), h3⟩) ?assign ?body ?done ?stop
  case stop =>
    rintro D c pre W _ _ h _
    exact h.elim
  case assign =>
    rintro l pre k W K hi hK
    apply wpIn_seq_k
    intro _ _
    refine wpIn_region_as rfl rfl ?_
    go_wp2_with fail
    have HSd := hid (Dg.sibL hn hns k.2)
    have HW := hid hi
    clear hi
    refine wpIn_region_as rfl rfl ?_
    go_wp2_with (
          refine wpList_store_blk rfl 23 _ _ rfl (W.heap.size) ((sibL d ns k.1).map (Value.int .u8)).toArray rfl rfl _ 23 (Blk.new rfl (byteCells 32 []) _) 32 size_digest zsize HSd.out.size (ints_one _ _) ?_
          intro w3 hb3 hk3
          have b3 := hb3.below ((Below.refl W.heap.size W).alloc (Nat.le_refl _) _) (by simp only [World.size_alloc]; omega) (Nat.le_refl _)
          have HB3 := hid b3
          have HK3 := hid hk3
          clear hb3 hk3 b3)
    have hWs := HW.out.2.size
    exact hK _ _ (keepsFrom_below HB3.out) (KeepC.of_below (by omega) HB3.out) ⟨⟨HW.out.1.1.below HB3.out, HW.out.1.2.1.below HB3.out, HW.out.1.2.2.below HB3.out⟩, Below.on HW.out.2 HB3.out⟩ ⟨W.heap.size, HK3.out, rfl⟩
  case body =>
    rintro l pre k a' W hl _ ⟨⟨kx, ki, kr⟩, bel⟩ ⟨Bx, kb, rfl⟩ _
    have HX := hid kx
    have HI := hid ki
    have HR := hid kr
    have HS := hid kb
    have HBW := hid bel
    have hbl := bel.size
    have hxl := kx.lt
    have hil := ki.lt
    have hrl := kr.lt
    have hsl := kb.lt
    have htW := hid (Htab.out.below bel)
    clear kx ki kr kb bel
    have HSd := hid (Dg.sibL hn hns k.2)
    have HFd := hid (Dg.foldC hx d i ns pre)
    have HF := hid (foldC_snoc d i ns x pre k)
    have HI0 := hid hi
    obtain ⟨k, hk⟩ := k
    dsimp only at *
    generalize sibL d ns k = Sb at *
    generalize foldC d i ns x pre = X at *
    apply wpIn_block
    apply wpIn_seq_k
    intro _ _
    refine wpIn_region_as rfl rfl ?_
    go_wp2_with (refine wpList_load_blk rfl 23 _ rfl (w.heap.size + 1) rfl _ 23 HI.out _ Tryd.underlying23 rfl 32 size_digest HI0.out.size ?_)
    refine (CB.out k hk _).mono ?_
    rintro e w5 ⟨rfl, b5⟩
    have HX5 := hid (HX.out.below b5)
    have HI5 := hid (HI.out.below b5)
    have HR5 := hid (HR.out.below b5)
    have HS5 := hid (HS.out.below b5)
    have HB5 := hid b5
    have hs5 := b5.size
    have ht5 := hid (htW.out.below b5)
    clear b5
    by_cases hq : bitL i k = 0
    · skip
      have HST : Hid (stepL i k X Sb = nodeL X Sb) := hid (by unfold stepL; rw [if_pos hq])
      rw [hq]
      clear hq
      go_wp2_with fail
      refine wpIn_cond_true rfl ?_
      refine wpIn_region_as rfl rfl ?_
      go_wp2_with (first | (refine wpList_load_blk rfl 23 _ rfl (w.heap.size) rfl _ 23 HX5.out _ Tryd.underlying23 rfl 32 size_digest HFd.out.size ?_) | (refine wpList_load_blk rfl 23 _ rfl (Bx) rfl _ 23 HS5.out _ Tryd.underlying23 rfl 32 size_digest HSd.out.size ?_))
      refine (CN.out X Sb HFd.out HSd.out _ ht5.out).mono ?_
      rintro e w6 ⟨rfl, b6⟩
      have HX6 := hid (HX5.out.below b6)
      have HI6 := hid (HI5.out.below b6)
      have HR6 := hid (HR5.out.below b6)
      have HB6 := hid (Below.on HB5.out b6)
      have HNd := hid (Dg.nodeL X Sb)
      have hs6 := b6.size
      generalize nodeL X Sb = T at *
      clear b6
      go_wp2_with (
         refine wpList_store_blk rfl 23 _ _ rfl (w.heap.size) (T.map (Value.int .u8)).toArray rfl rfl _ 23 HX6.out 32 size_digest HFd.out.size HNd.out.size (ints_one _ _) ?_
         intro w7 hb7 hk7
         have HK7 := hid hk7
         have HN7 := hid hb7
         have HI7 := hid (hb7.blk HI6.out (by omega))
         have HR7 := hid (hb7.blk HR6.out (by omega))
         clear hb7 hk7)
      have h6 := HB6.out
      have h7 := HN7.out
      refine ⟨(keepsFrom_below h6).trans (keepsFrom_but (by omega) h7), (KeepC.of_below (by omega) h6).trans (KeepC.of_but (by omega) h7), ⟨by rw [HF.out, HST.out]; exact HK7.out, HI7.out, HR7.out⟩, h7.below (Below.on HBW.out h6) (by have := h6.size; omega) (Nat.le_refl _)⟩
    · skip
      have HST : Hid (stepL i k X Sb = nodeL Sb X) := hid (by unfold stepL; rw [if_neg hq])
      have hq1 : bitL i k = 1 := by have := bitL_two i k; omega
      rw [hq1]
      clear hq hq1
      go_wp2_with fail
      refine wpIn_cond_false rfl ?_
      refine wpIn_region_as rfl rfl ?_
      go_wp2_with (first | (refine wpList_load_blk rfl 23 _ rfl (w.heap.size) rfl _ 23 HX5.out _ Tryd.underlying23 rfl 32 size_digest HFd.out.size ?_) | (refine wpList_load_blk rfl 23 _ rfl (Bx) rfl _ 23 HS5.out _ Tryd.underlying23 rfl 32 size_digest HSd.out.size ?_))
      refine (CN.out Sb X HSd.out HFd.out _ ht5.out).mono ?_
      rintro e w6 ⟨rfl, b6⟩
      have HX6 := hid (HX5.out.below b6)
      have HI6 := hid (HI5.out.below b6)
      have HR6 := hid (HR5.out.below b6)
      have HB6 := hid (Below.on HB5.out b6)
      have HNd := hid (Dg.nodeL Sb X)
      have hs6 := b6.size
      generalize nodeL Sb X = T at *
      clear b6
      go_wp2_with (
         refine wpList_store_blk rfl 23 _ _ rfl (w.heap.size) (T.map (Value.int .u8)).toArray rfl rfl _ 23 HX6.out 32 size_digest HFd.out.size HNd.out.size (ints_one _ _) ?_
         intro w7 hb7 hk7
         have HK7 := hid hk7
         have HN7 := hid hb7
         have HI7 := hid (hb7.blk HI6.out (by omega))
         have HR7 := hid (hb7.blk HR6.out (by omega))
         clear hb7 hk7)
      have h6 := HB6.out
      have h7 := HN7.out
      refine ⟨(keepsFrom_below h6).trans (keepsFrom_but (by omega) h7), (KeepC.of_below (by omega) h6).trans (KeepC.of_but (by omega) h7), ⟨by rw [HF.out, HST.out]; exact HK7.out, HI7.out, HR7.out⟩, h7.below (Below.on HBW.out h6) (by have := h6.size; omega) (Nat.le_refl _)⟩
  case done =>
    rintro D ys W hD rfl ⟨⟨kx, ki, kr⟩, bel⟩ hK
    rw [foldC_up d i ns x (Nat.le_refl _)] at kx
    have HX := hid kx
    have HR := hid kr
    have HBW := hid bel
    have HCd := hid (Dg.climbK hx d i ns 256)
    generalize climbK d i ns x 256 = T at *
    have HKD := hid hK
    have hbl := bel.size
    have hrl := kr.lt
    have hKl : D < W.heap.size := (Array.getElem?_eq_some_iff.1 hK).1
    clear kx ki kr bel hK
    gi_step
    gi_step
    apply wpIn_seq_k
    intro _ _
    refine wpIn_region_as rfl rfl ?_
    go_wp2_with (first
             | (refine wpList_load_blk rfl 23 _ rfl (w.heap.size) rfl _ 23 HX.out _ Tryd.underlying23 rfl 32 size_digest HCd.out.size ?_)
             | (
                refine wpList_store_blk rfl 23 _ _ rfl (w.heap.size + 1 + 1 + 1) (T.map (Value.int .u8)).toArray rfl rfl _ 23 HR.out 32 size_digest zsize HCd.out.size (ints_one _ _) ?_
                intro w9 hb9 hk9
                have HB9 := hid (hb9.below HBW.out HBW.out.size (by omega))
                have HK9 := hid hk9
                have HD9 := hid ((hb9.block D hKl (by omega)).trans HKD.out)
                clear hb9 hk9))
    apply wpIn_ret
    refine ⟨by simp, .inl ⟨_, _, rfl, run_takeDeferred HD9.out, ?_⟩⟩
    have g9 := grownBy_putObj' w9 D (.deferred none)
    have n9 : ∀ r, some D = some r → ∃ o : Obj, w9.heap[r]? = some o ∧ o.isCells = false := fun r e => by cases e; exact ⟨_, HD9.out, rfl⟩
    refine ⟨_, results_blk_tmp Tryd.results35 _ (w.heap.size + 1 + 1 + 1) rfl _ rfl _ 23 (HK9.out.grownC g9 n9) _ Tryd.underlying23 rfl 32 size_digest HCd.out.size, rfl, HB9.out.trans (belowK_b (w := w) (Nat.le_refl _) w9 D _ _ (by omega) HD9.out rfl rfl)⟩
end Go.Proofs.YtkakoiaahgchmaaDoor
namespace Go.Proofs.YtkakoiaahgchmaaDoor
set_option maxRecDepth 100000
open Go.ChangeShapes Go.WideShapes Go.ChangeAt Go.RowKit
/-- A digest that begins with 1, and with 9. -/
def oneD : List Int := 1 :: List.replicate 31 0
def nineD : List Int := 9 :: List.replicate 31 0
end Go.Proofs.YtkakoiaahgchmaaDoor
namespace Go.Proofs.YtkakoiaahgchmaaDoor
set_option maxRecDepth 100000
open Go.ChangeShapes Go.WideShapes Go.ChangeAt Go.RowKit
end Go.Proofs.YtkakoiaahgchmaaDoor
namespace Go.Proofs.YtkakoiaahgchmaaDoor
set_option maxRecDepth 100000
open Go.ChangeShapes Go.WideShapes Go.ChangeAt Go.RowKit
@[irreducible] def idxZ (nonce : List Int) (v : Int) (name : List Int) : List Int := sumZ ([1] ++ (nonce ++ (be 8 v ++ name)))
@[irreducible] def nonceZ (key : List Int) (v : Int) (name : List Int) : List Int := macZ key ([1] ++ (be 8 v ++ name))
@[irreducible] def madeZ (salt value : List Int) : List Int := sumZ ([2] ++ (salt ++ value))
@[irreducible] def saltZ (key index value : List Int) : List Int := macZ key ([2] ++ (index ++ value))
/-- what 'bytesOf' hands back -/
def NumAt (n : Int) (v : Value) (w : World) : Prop := ∃ g, v = .slice (some ⟨g, 0, none⟩) 8 8 ∧ Blk w g ((be 8 n).map (Value.int .u8)).toArray 5
end Go.Proofs.YtkakoiaahgchmaaDoor
namespace Go.Proofs.YtkakoiaahgchmaaDoor
set_option maxRecDepth 100000
open Go.ChangeShapes Go.WideShapes Go.ChangeAt Go.RowKit
theorem OwnB.none_ {w : World} {base : Nat} {e : TypeId} {a : Option Addr} {n c : Nat} {bs : List Int} (h : OwnB w base e (.slice a n c) bs) : OwnB w base e (.slice a 0 c) [] := by
  obtain ⟨⟨h1, ⟨h2, h3⟩ | ⟨g, cap, cur, h2, hg, hh, hle, hmx, hsz, htk⟩⟩, hs⟩ := h
  · injection h2 with e1 e2 e3
    subst e1 e2 e3
    exact OwnB.nil w base e
  · injection h2 with e1 e2 e3
    subst e1 e2 e3
    exact ⟨⟨rfl, .inr ⟨g, _, cur, rfl, hg, hh, Nat.zero_le _, hmx, hsz, by simp⟩⟩, by simp⟩
theorem wpList_append_zeros {P : Program} {w : World} {base : Nat} {t e tn : TypeId} {i : TypeInfo} {v : Value} {bs : List Int} {ops : Array Oper} {rest : List Oper} {o : Oper} {A : Act} {Q : Exit → Act → World → Prop} (hgd : o.guard = none) (s x : Operand) (ho : o.op = .call { callee := .builtin .append, args := #[s, x], argTypes := #[t, tn] })
    (ht : P.underlying t = some (.slice e)) (htn : P.underlying tn = some (.int .i64)) (hi : P.info? e = some i) (hz : i.zero = some (.int .u8 0)) (hsize : i.size = 1) (hby : i.bytes = 1) (hs : A.eval s = v) (hown : OwnB w base e v bs)
    (k : Nat) (hx : A.eval x = .int .i64 k) (hb : bs.length + k ≤ 140737488355328) (hbase : base ≤ w.heap.size)
    (h : ∀ v' w', OwnB w' base e v' (bs ++ List.replicate k 0) → w.grownBy w' v.ownBlock → Below base w w' → wpList P ops Q rest (A.put o.dst v') w') : wpList P ops Q (o :: rest) A w :=
  wpList_plain hgd fun K hK => by
    obtain ⟨v', w', hr, h2, h3, h4⟩ := run_append_zeros o.type ht htn hi hz hsize hby hown k hb hbase
    unfold Oper.wp execOp
    simp only [ho, resolve, invoke, builtin, Sem.run_bind, Sem.run_pure, Result.andThen_ok, List.map_toArray, List.map_cons, List.map_nil, hs, hx, hr, Oper.upon_value]
    exact hK _ _ (h v' w' h2 h3 h4)
set_option maxHeartbeats 4000000 in
theorem grow_none_g (w : World) : Calls Tryd.prog 81 #[.slice none 0 0, .int .i64 0] w fun e w' => ∃ v, e = .returned v ∧ OwnB w' w.heap.size 5 v [] ∧ Below w.heap.size w w' := by
  go_enter Tryd.func81, Tryd.ntmps81
  go_wp2
  go_returns
  exact ⟨_, rfl, OwnB.nil w w.heap.size 5, by go_grown⟩
set_option maxHeartbeats 4000000 in
theorem grow_some_g (k : Nat) (w : World) (h0 : 0 < k) (hb : k ≤ 140737488355328) : Calls Tryd.prog 81 #[.slice none 0 0, .int .i64 k] w fun e w' => ∃ v, e = .returned v ∧ OwnB w' w.heap.size 5 v [] ∧ Below w.heap.size w w' := by
  obtain ⟨i0, hi, hz0, hz1, hz2⟩ := info_parts info_byte
  have q1 : ¬ (k : Int) < 0 := by omega
  have q2 : (0 : Int) < k := by omega
  have HN := hid (OwnB.nil w w.heap.size 5)
  have hw : wrap64 (k : Int) = k := by unfold wrap64; omega
  go_enter Tryd.func81, Tryd.ntmps81
  go_wp2_with (at_builtin; refine wpList_append_zeros rfl _ _ rfl Tryd.underlying29 Tryd.underlying3 hi hz0 hz1 hz2 rfl HN.out k rfl ?c1 ?c2 ?_)
  intro v4 w4 own4 g4 b4
  obtain ⟨va, vn, vc, rfl⟩ : ∃ a n c, v4 = .slice a n c := by
    obtain ⟨a, c, e, _⟩ := own4.text
    exact ⟨a, _, c, e⟩
  have HO := hid own4.none_
  have H4 := hid b4
  have hcut := fun W : World => run_cut_h (P := Tryd.prog) Tryd.underlying29 (by rw [hi]; simp [hz1]) va vn vc 0 W (by omega) (by omega)
  clear own4 g4 b4
  go_wp2_with fail
  go_returns
  exact ⟨_, rfl, HO.out, H4.out⟩
theorem grow_any_g (k : Nat) (w : World) (hb : k ≤ 140737488355328) : Calls Tryd.prog 81 #[.slice none 0 0, .int .i64 k] w fun e w' => ∃ v, e = .returned v ∧ OwnB w' w.heap.size 5 v [] ∧ Below w.heap.size w w' := by
  rcases Nat.eq_zero_or_pos k with rfl | h
  · exact grow_none_g w
  · exact grow_some_g k w h hb
set_option maxHeartbeats 4000000 in
theorem concat_any (a : Option Addr) (len cap : Nat) (ts : List (List Int)) (w : World) (hT : TextsAt w a len cap ts) (hbnd : sumLen ts ≤ 140737488355328) :
    Calls Tryd.prog 60 #[.slice a len cap] w fun e w' => ∃ v, e = .returned v ∧ Below w.heap.size w w' ∧ TextV ts.flatten v w' := by
  have hlen : ts.length = len := hT.length
  have hcp := hT.le
  have hmx := hT.max
  have HT := hid hT
  clear hT
  obtain ⟨i0, hi, hz0, hz1, hz2⟩ := info_parts info_byte
  go_enter Tryd.func60, Tryd.ntmps60
  go_wp2_with fail
  go_loopw [3, 11] (fun sv iv wr => ∃ k : Nat, k ≤ len ∧ iv = .int .i64 k ∧ sv = .int .i64 (sumLen (ts.take k) : Nat) ∧ w = wr) (fun _ i _ => len - (intOf i).toNat)
  case atStart => exact ⟨0, by omega, rfl, by simp [sumLen], rfl⟩
  case round =>
    obtain ⟨k, hk, rfl, rfl, rfl⟩ := hrel
    by_cases hlt : k < len
    · obtain ⟨r, off, a', l', c', rfl, hrl, hc, hTk⟩ := HT.out.at_ k hlt
      have e1 := sumLen_take ts k (by omega)
      have e2 := sumLen_le ts (k + 1)
      have e4 := hTk.length
      rw [e4] at e1
      have hc0 : (k : Int) < len := by omega
      have Hnext := hid (show ((sumLen (ts.take (k + 1)) : Nat) : Int) = (sumLen (ts.take k) : Nat) + (l' : Nat) by omega)
      have hnn : ¬ ((sumLen (ts.take k) : Nat) : Int) + (l' : Nat) < 0 := by omega
      have hwr : wrap64 (((sumLen (ts.take k) : Nat) : Int) + (l' : Nat)) = ((sumLen (ts.take k) : Nat) : Int) + (l' : Nat) := by unfold wrap64; omega
      clear e1 e2 e4 hTk
      generalize sumLen (ts.take k) = sk at *
      go_wp2_with fail
      exact ⟨⟨k + 1, by omega, by go_num, by rw [Hnext.out, hwr], by first | rfl | trivial⟩, by simp [intOf]; omega⟩
    · have hkl : k = len := by omega
      have hft : ts.take k = ts := List.take_of_length_le (by omega)
      rw [hft]
      have hc0 : ¬ (k : Int) < len := by omega
      go_wp2_with fail
      refine (grow_any_g (sumLen ts) _ hbnd).mono ?_
      rintro e w1 ⟨v1, rfl, own1, bel1⟩
      have HO1 := hid own1
      have HB1 := hid bel1
      clear own1 bel1
      go_wp2_with fail
      go_loopw [6, 27] (fun v i wr => ∃ k : Nat, k ≤ len ∧ i = .int .i64 k ∧ OwnB wr w.heap.size 5 v (ts.take k).flatten ∧ Below w.heap.size w wr) (fun _ i _ => len - (intOf i).toNat)
      case atStart => exact ⟨0, by omega, rfl, by simpa using HO1.out, HB1.out⟩
      case round =>
        obtain ⟨k, hk, rfl, hown, bel⟩ := hrel
        have Hown := hid hown
        have Hbel := hid bel
        have hsz := bel.size
        clear hown bel
        by_cases hlt : k < len
        · obtain ⟨r, off, a', l', c', rfl, hrl, hc, hTk⟩ := HT.out.at_ k hlt
          have hcw : wr.cell? ⟨r, off + k, none⟩ = some (.slice a' l' c') := (Hbel.out.cell (p := ⟨r, off + k, none⟩) hrl).trans hc
          have hTw := hid (hTk.below Hbel.out)
          have HF := hid (flatten_take ts k (by omega))
          have hsl : (ts.take k).flatten.length + l' ≤ 140737488355328 := by
            have e1 := sumLen_take ts k (by omega)
            have e2 := sumLen_le ts (k + 1)
            have e3 := flatten_length (ts.take k)
            have e4 := hTk.length
            omega
          have Hsl := hid hsl
          have hc0 : (k : Int) < len := by omega
          clear hTk hc hsl
          generalize ts.getD k [] = tk at *
          go_wp2_with (at_builtin; refine wpList_append_text rfl _ _ rfl Tryd.underlying29 hi hz0 hz1 hz2 rfl Hown.out rfl hTw.out ?c1 ?c2 ?_)
          case c1 => exact Hsl.out
          case c2 => exact hsz
          intro v4 w4 own4 g4 b4
          rw [← HF.out] at own4
          have H4 := hid (And.intro own4 (Hbel.out.trans b4))
          clear own4 g4 b4 hTw Hown
          go_wp2_with fail
          exact ⟨⟨k + 1, by omega, by go_num, H4.out.1, H4.out.2⟩, by simp [intOf]; omega⟩
        · have hkl : k = len := by omega
          have hft : (ts.take k).flatten = ts.flatten := by rw [List.take_of_length_le (by omega)]
          rw [hft] at Hown
          have hc0 : ¬ (k : Int) < len := by omega
          go_wp2_with fail
          go_returns
          exact ⟨_, rfl, Hbel.out, TextV.of_own Hown.out⟩
/-- What is handed back is nil just where what came in is. -/
theorem clone_any {w : World} {a : Option Addr} {len cap : Nat} {bs : List Int} (hT : TextAt w a len cap bs) (hl : len ≤ 140737488355328) :
    Calls Tryd.prog 50 #[.slice a len cap] w fun e w' => ∃ a' c', e = .returned (.slice a' len c') ∧ Below w.heap.size w w' ∧ TextAt w' a' len c' bs ∧ ∀ p : Addr, a' = some p → w.heap.size ≤ p.block ∧ ∃ cs, w'.heap[p.block]? = some (.cells cs 5 (0, 0)) := by
  obtain ⟨i0, hi, hz0, hz1, hz2⟩ := info_parts info_byte
  have hlen := hT.length
  have kE : OwnB (w.alloc (Obj.cells #[] 5)) w.heap.size 5 (.slice (some ⟨w.heap.size, 0, none⟩) 0 0) [] := OwnB.of_blk (Blk.new rfl _ _) (Nat.le_refl _) rfl (by omega) (by simp)
  have belE : Below w.heap.size w (w.alloc (Obj.cells #[] 5)) := (Below.refl _ _).alloc (Nat.le_refl _) _
  have hq := fun (w : World) (a : Option Addr) (n c : Nat) => Lib.run_eql_slice_nil (P := Tryd.prog) w 29 5 a n c 0 0 Tryd.underlying29
  cases a with
  | none =>
    rcases hT.mem with ⟨_, rfl, rfl⟩ | ⟨x, o, s, h, _⟩
    · go_enter Tryd.func50, Tryd.ntmps50
      go_wp2
      go_ret
      exact ⟨none, 0, rfl, Below.refl _ _, hT, fun p hp => by cases hp⟩
    · cases h
  | some p =>
    have hT' := hT.below belE
    clear hT
    go_enter Tryd.func50, Tryd.ntmps50
    go_wp2_with (at_builtin; refine wpList_append_text rfl _ _ rfl Tryd.underlying29 hi hz0 hz1 hz2 rfl kE rfl hT' ?c1 ?c2 ?_)
    case c1 => simp; omega
    case c2 => exact belE.size
    intro v' w3 hown _ hb
    have bel := belE.trans hb
    clear hb belE kE hT'
    obtain ⟨a', c', rfl, q1, q2⟩ := hown.text2
    rw [hlen] at q1
    rw [hlen]
    clear hown
    go_wp2_with fail
    go_ret
    exact ⟨a', c', rfl, bel, q1, q2⟩
set_option maxHeartbeats 4000000 in
theorem equal_any (a1 a2 : Option Addr) (n1 n2 c1 c2 : Nat) (xs ys : List Int) (w : World) (h1 : TextAt w a1 n1 c1 xs) (h2 : TextAt w a2 n2 c2 ys) :
    Calls Tryd.prog 49 #[.slice a1 n1 c1, .slice a2 n2 c2] w fun e w' => e = .returned (.bool (decide (xs = ys))) ∧ Below w.heap.size w w' := by
  have Hb := hid (Below.refl w.heap.size w)
  have cv1 := h1.string Tryd.underlying29 Tryd.underlying5 Tryd.underlying9
  have cv2 := h2.string Tryd.underlying29 Tryd.underlying5 Tryd.underlying9
  have hq := eqStrB h1.small h2.small
  clear h1 h2
  go_enter Tryd.func49, Tryd.ntmps49
  go_wp2_with fail
  go_returns
  exact ⟨by first | rfl | rw [hq], Hb.out⟩
set_option maxHeartbeats 4000000 in
theorem joined_any (x : Int) (a : Option Addr) (len cap : Nat) (ts : List (List Int)) (w : World) (hx : 0 ≤ x ∧ x < 256) (hT : TextsAt w a len cap ts) (hbnd : sumLen ts ≤ 1000000) :
    Calls Tryd.prog 34 #[.int .u8 x, .slice a len cap] w fun e w' => ∃ v, e = .returned v ∧ Below w.heap.size w w' ∧ OwnB w' w.heap.size 5 v ([x] ++ ts.flatten) := by
  have Hb := hid (Below.refl w.heap.size w)
  have HT := hid hT
  clear hT
  obtain ⟨i0, hi, hz0, hz1, hz2⟩ := info_parts info_byte
  have HB1 := hid (OwnB.of_blk (base := w.heap.size) (e := 5) (bs := [x]) (n := 1) (Blk.new (w := w) rfl #[.int .u8 x] 5) (Nat.le_refl _) rfl (by omega) (by simpa using hx))
  have Ha := hid ((Below.refl w.heap.size w).alloc (Nat.le_refl _) (.cells #[.int .u8 x] 5))
  go_enter Tryd.func34, Tryd.ntmps34
  go_wp2_with fail
  refine (concat_any a len cap ts _ (HT.out.below Ha.out) (by omega)).mono ?_
  rintro e w1 ⟨v1, rfl, b1, t1⟩
  obtain ⟨a1, n1, c1, rfl, ht1⟩ := t1
  have HT1 := hid ht1
  have HO1 := hid (HB1.out.below b1)
  have HB2 := hid (Below.on Ha.out b1)
  have hs2 := HB2.out.size
  have hn1 := ht1.length
  have hsl := flatten_length ts
  clear b1 ht1
  go_wp2_with (at_builtin; refine wpList_append_text rfl _ _ rfl Tryd.underlying29 hi hz0 hz1 hz2 rfl HO1.out rfl HT1.out ?c1 ?c2 ?_)
  case c1 => simp; omega
  case c2 => exact hs2
  intro v4 w4 own4 g4 b4
  have HO4 := hid own4
  have HB4 := hid (HB2.out.trans b4)
  clear own4 g4 b4
  go_wp2_with fail
  go_returns
  exact ⟨_, rfl, HB4.out, HO4.out⟩
end Go.Proofs.YtkakoiaahgchmaaDoor
namespace Go.Proofs.YtkakoiaahgchmaaDoor
set_option maxRecDepth 100000
open Go.ChangeShapes Go.WideShapes Go.ChangeAt Go.RowKit
/-- The first place at which both have something, and these differ. -/
def firstU (ts us : List (List Int)) : Option Nat := (List.range (min ts.length us.length)).find? fun j => decide (ts.getD j [] ≠ us.getD j [])
theorem firstU_some {ts us : List (List Int)} {k : Nat} (h1 : k < ts.length) (h2 : k < us.length) (hs : ∀ j, j < k → ts.getD j [] = us.getD j []) (hn : ts.getD k [] ≠ us.getD k []) : firstU ts us = some k := by
  unfold firstU
  rw [List.find?_range_eq_some]
  refine ⟨by simpa using hn, by simp; omega, fun j hj => by simpa using hs j hj⟩
theorem firstU_none {ts us : List (List Int)} (hs : ∀ j, j < min ts.length us.length → ts.getD j [] = us.getD j []) : firstU ts us = none := by
  unfold firstU
  rw [List.find?_eq_none]
  intro j hj
  simpa using hs j (List.mem_range.1 hj)
theorem firstU_at {ts us : List (List Int)} {k : Nat} (h : firstU ts us = some k) : k < ts.length ∧ k < us.length ∧ (∀ j, j < k → ts.getD j [] = us.getD j []) ∧ ts.getD k [] ≠ us.getD k [] := by
  unfold firstU at h
  rw [List.find?_range_eq_some] at h
  obtain ⟨h1, h2, h3⟩ := h
  have h2 := List.mem_range.1 h2
  exact ⟨by omega, by omega, fun j hj => by simpa using h3 j hj, by simpa using h1⟩
set_option maxHeartbeats 4000000 in
theorem unlike_any (a1 a2 : Option Addr) (n1 n2 c1 c2 : Nat) (ts us : List (List Int)) (w : World) (hT : TextsAt w a1 n1 c1 ts) (hU : TextsAt w a2 n2 c2 us) :
    Calls Tryd.prog 48 #[.slice a1 n1 c1, .slice a2 n2 c2, .func (.func 49) #[] #[]] w fun e w' => e = .returned (.tuple #[.int .i64 ((firstU ts us).getD 0 : Nat), .bool (firstU ts us).isSome]) ∧ Below w.heap.size w w' := by
  have Hb := hid (Below.refl w.heap.size w)
  have HT := hid hT
  have HU := hid hU
  have hl1 := hT.length
  have hl2 := hU.length
  have hm1 := hT.max
  have hm2 := hU.max
  have hc1 := hT.le
  have hc2 := hU.le
  clear hT hU
  by_cases hlt12 : n2 < n1
  · skip
    have hMi : (n2 : Int) < (n1 : Int) := by omega
    go_enter Tryd.func48, Tryd.ntmps48
    go_wp2_with fail
    go_loopw [14] (fun iv wr => ∃ k : Nat, k ≤ n2 ∧ iv = .int .i64 k ∧ (∀ j, j < k → ts.getD j [] = us.getD j []) ∧ Below w.heap.size w wr) (fun iv _ => n2 - (intOf iv).toNat)
    case atStart => exact ⟨0, Nat.zero_le _, rfl, fun j hj => absurd hj (Nat.not_lt_zero _), Hb.out⟩
    case round =>
      obtain ⟨k, hk, rfl, hsm, bel⟩ := hrel
      have HBwr := hid bel
      have HSM := hid hsm
      clear bel hsm
      by_cases hcj : k < n2
      · skip
        have hcI : (k : Int) < (n2 : Int) := by omega
        obtain ⟨x, xo, xa, xl, xc, rfl, hx, hxc, hxt⟩ := HT.out.at_ k (by omega)
        obtain ⟨y, yo, ya, yl, yc, rfl, hy, hyc, hyt⟩ := HU.out.at_ k (by omega)
        have HXT := hid hxt
        have HYT := hid hyt
        have HFS := hid (fun (h : ts.getD k [] ≠ us.getD k []) => firstU_some (ts := ts) (us := us) (k := k) (by omega) (by omega) HSM.out h)
        have HNX := hid (fun (h : ts.getD k [] = us.getD k []) (j : Nat) (hj : j < k + 1) => show ts.getD j [] = us.getD j [] from by
          rcases Nat.lt_succ_iff_lt_or_eq.1 hj with h1 | rfl
          · exact HSM.out j h1
          · exact h)
        generalize ts.getD k [] = tk at *
        generalize us.getD k [] = uk at *
        clear hxt hyt
        go_wp2_with fail
        by_cases hde : tk = uk
        · skip
          have HDE := hid hde
          have CE := hid (fun (W : World) (h1 : TextAt W xa xl xc tk) (h2 : TextAt W ya yl yc uk) => equal_any xa ya xl yl xc yc tk uk W h1 h2)
          rw [decide_eq_true hde] at CE
          clear hde
          refine wp_region_flow 11 (List.range 11) [] [] (by kernel_rfl) (by kernel_rfl) ?_
          apply Exists.intro
          refine ⟨fun w0 hb0 hF0 => ?_, ?_⟩
          · skip
            have c0 := fun e : Ext w0 => CE.out e.at_ (HXT.out.below (Below.on HBwr.out (Below.on hb0 e.same))) (HYT.out.below (Below.on HBwr.out (Below.on hb0 e.same)))
            have y0 : ∀ w', (∃ x : Ext w0, w' = x.at_) → w'.cell? ⟨x, xo + k, none⟩ = some (.slice xa xl xc) := fun w' ⟨e, he⟩ => he ▸ ((Below.on HBwr.out (Below.on hb0 e.same)).cell (p := ⟨x, xo + k, none⟩) hx).trans hxc
            have y1 : ∀ w', (∃ x : Ext w0, w' = x.at_) → w'.cell? ⟨y, yo + k, none⟩ = some (.slice ya yl yc) := fun w' ⟨e, he⟩ => he ▸ ((Below.on HBwr.out (Below.on hb0 e.same)).cell (p := ⟨y, yo + k, none⟩) hy).trans hyc
            simp only [pick, List.range, List.range.loop, List.getElem?_toArray, List.getElem?_cons_succ, List.getElem?_cons_zero, Option.toList_some, List.cons_append, List.nil_append]
            repeat (first | (go_big_quiet_want; refine quiet_index_s 1 31 _ _ rfl Tryd.underlying31 size_text x xo n1 c1 rfl _ _ rfl k rfl (by omega) ?_; go_big_quiet_on; simp only [Act.put, List.setIfInBounds_toArray, List.set_cons_zero, List.set_cons_succ]) | (go_big_quiet_want; refine quiet_load_one 29 _ rfl ⟨x, xo + k, none⟩ rfl _ y0 _ Tryd.underlying29 rfl ?_; go_big_quiet_on; simp only [Act.put, List.setIfInBounds_toArray, List.set_cons_zero, List.set_cons_succ]) | (go_big_quiet_want; refine quiet_index_s 1 31 _ _ rfl Tryd.underlying31 size_text y yo n2 c2 rfl _ _ rfl k rfl (by omega) ?_; go_big_quiet_on; simp only [Act.put, List.setIfInBounds_toArray, List.set_cons_zero, List.set_cons_succ]) | (go_big_quiet_want; refine quiet_load_one 29 _ rfl ⟨y, yo + k, none⟩ rfl _ y1 _ Tryd.underlying29 rfl ?_; go_big_quiet_on; simp only [Act.put, List.setIfInBounds_toArray, List.set_cons_zero, List.set_cons_succ]) | go_big_quiet_step (first | (go_at_call 49; with_reducible exact Calls.ext (c0 _))))
            exact wpQuiet_nil rfl
          refine AlChk.nil ?_
          refine Walk.fin fun w31 hw31 _ _ => ?_
          simp only [List.drop_succ_cons, List.drop_zero]
          have HBw31 := hid (Below.on HBwr.out hw31)
          have hsw31 := HBw31.out.size
          clear hw31
          go_wp2_with fail
          exact ⟨⟨k + 1, by omega, by first | rfl | simp, HNX.out HDE.out, HBw31.out⟩, by simp [intOf]; omega⟩
        · skip
          have HDE := hid hde
          have CE := hid (fun (W : World) (h1 : TextAt W xa xl xc tk) (h2 : TextAt W ya yl yc uk) => equal_any xa ya xl yl xc yc tk uk W h1 h2)
          rw [decide_eq_false hde] at CE
          clear hde
          refine wp_region_flow 11 (List.range 11) [] [] (by kernel_rfl) (by kernel_rfl) ?_
          apply Exists.intro
          refine ⟨fun w0 hb0 hF0 => ?_, ?_⟩
          · skip
            have c0 := fun e : Ext w0 => CE.out e.at_ (HXT.out.below (Below.on HBwr.out (Below.on hb0 e.same))) (HYT.out.below (Below.on HBwr.out (Below.on hb0 e.same)))
            have y0 : ∀ w', (∃ x : Ext w0, w' = x.at_) → w'.cell? ⟨x, xo + k, none⟩ = some (.slice xa xl xc) := fun w' ⟨e, he⟩ => he ▸ ((Below.on HBwr.out (Below.on hb0 e.same)).cell (p := ⟨x, xo + k, none⟩) hx).trans hxc
            have y1 : ∀ w', (∃ x : Ext w0, w' = x.at_) → w'.cell? ⟨y, yo + k, none⟩ = some (.slice ya yl yc) := fun w' ⟨e, he⟩ => he ▸ ((Below.on HBwr.out (Below.on hb0 e.same)).cell (p := ⟨y, yo + k, none⟩) hy).trans hyc
            simp only [pick, List.range, List.range.loop, List.getElem?_toArray, List.getElem?_cons_succ, List.getElem?_cons_zero, Option.toList_some, List.cons_append, List.nil_append]
            repeat (first | (go_big_quiet_want; refine quiet_index_s 1 31 _ _ rfl Tryd.underlying31 size_text x xo n1 c1 rfl _ _ rfl k rfl (by omega) ?_; go_big_quiet_on; simp only [Act.put, List.setIfInBounds_toArray, List.set_cons_zero, List.set_cons_succ]) | (go_big_quiet_want; refine quiet_load_one 29 _ rfl ⟨x, xo + k, none⟩ rfl _ y0 _ Tryd.underlying29 rfl ?_; go_big_quiet_on; simp only [Act.put, List.setIfInBounds_toArray, List.set_cons_zero, List.set_cons_succ]) | (go_big_quiet_want; refine quiet_index_s 1 31 _ _ rfl Tryd.underlying31 size_text y yo n2 c2 rfl _ _ rfl k rfl (by omega) ?_; go_big_quiet_on; simp only [Act.put, List.setIfInBounds_toArray, List.set_cons_zero, List.set_cons_succ]) | (go_big_quiet_want; refine quiet_load_one 29 _ rfl ⟨y, yo + k, none⟩ rfl _ y1 _ Tryd.underlying29 rfl ?_; go_big_quiet_on; simp only [Act.put, List.setIfInBounds_toArray, List.set_cons_zero, List.set_cons_succ]) | go_big_quiet_step (first | (go_at_call 49; with_reducible exact Calls.ext (c0 _))))
            exact wpQuiet_nil rfl
          refine AlChk.nil ?_
          refine Walk.fin fun w31 hw31 _ _ => ?_
          simp only [List.drop_succ_cons, List.drop_zero]
          have HBw31 := hid (Below.on HBwr.out hw31)
          have hsw31 := HBw31.out.size
          clear hw31
          go_wp2_with fail
          go_returns
          exact ⟨by rw [HFS.out HDE.out]; rfl, HBw31.out⟩
      · skip
        have hke : k = n2 := by omega
        subst hke
        have hcI : ¬ (k : Int) < (k : Int) := by omega
        have HNO := hid (firstU_none (ts := ts) (us := us) (fun j hj => HSM.out j (by omega)))
        go_wp2_with fail
        go_returns
        exact ⟨by rw [HNO.out]; rfl, HBwr.out⟩
  · skip
    have hMi : ¬ (n2 : Int) < (n1 : Int) := by omega
    go_enter Tryd.func48, Tryd.ntmps48
    go_wp2_with fail
    go_loopw [14] (fun iv wr => ∃ k : Nat, k ≤ n1 ∧ iv = .int .i64 k ∧ (∀ j, j < k → ts.getD j [] = us.getD j []) ∧ Below w.heap.size w wr) (fun iv _ => n1 - (intOf iv).toNat)
    case atStart => exact ⟨0, Nat.zero_le _, rfl, fun j hj => absurd hj (Nat.not_lt_zero _), Hb.out⟩
    case round =>
      obtain ⟨k, hk, rfl, hsm, bel⟩ := hrel
      have HBwr := hid bel
      have HSM := hid hsm
      clear bel hsm
      by_cases hcj : k < n1
      · skip
        have hcI : (k : Int) < (n1 : Int) := by omega
        obtain ⟨x, xo, xa, xl, xc, rfl, hx, hxc, hxt⟩ := HT.out.at_ k (by omega)
        obtain ⟨y, yo, ya, yl, yc, rfl, hy, hyc, hyt⟩ := HU.out.at_ k (by omega)
        have HXT := hid hxt
        have HYT := hid hyt
        have HFS := hid (fun (h : ts.getD k [] ≠ us.getD k []) => firstU_some (ts := ts) (us := us) (k := k) (by omega) (by omega) HSM.out h)
        have HNX := hid (fun (h : ts.getD k [] = us.getD k []) (j : Nat) (hj : j < k + 1) => show ts.getD j [] = us.getD j [] from by
          rcases Nat.lt_succ_iff_lt_or_eq.1 hj with h1 | rfl
          · exact HSM.out j h1
          · exact h)
        generalize ts.getD k [] = tk at *
        generalize us.getD k [] = uk at *
        clear hxt hyt
        go_wp2_with fail
        by_cases hde : tk = uk
        · skip
          have HDE := hid hde
          have CE := hid (fun (W : World) (h1 : TextAt W xa xl xc tk) (h2 : TextAt W ya yl yc uk) => equal_any xa ya xl yl xc yc tk uk W h1 h2)
          rw [decide_eq_true hde] at CE
          clear hde
          refine wp_region_flow 11 (List.range 11) [] [] (by kernel_rfl) (by kernel_rfl) ?_
          apply Exists.intro
          refine ⟨fun w0 hb0 hF0 => ?_, ?_⟩
          · skip
            have c0 := fun e : Ext w0 => CE.out e.at_ (HXT.out.below (Below.on HBwr.out (Below.on hb0 e.same))) (HYT.out.below (Below.on HBwr.out (Below.on hb0 e.same)))
            have y0 : ∀ w', (∃ x : Ext w0, w' = x.at_) → w'.cell? ⟨x, xo + k, none⟩ = some (.slice xa xl xc) := fun w' ⟨e, he⟩ => he ▸ ((Below.on HBwr.out (Below.on hb0 e.same)).cell (p := ⟨x, xo + k, none⟩) hx).trans hxc
            have y1 : ∀ w', (∃ x : Ext w0, w' = x.at_) → w'.cell? ⟨y, yo + k, none⟩ = some (.slice ya yl yc) := fun w' ⟨e, he⟩ => he ▸ ((Below.on HBwr.out (Below.on hb0 e.same)).cell (p := ⟨y, yo + k, none⟩) hy).trans hyc
            simp only [pick, List.range, List.range.loop, List.getElem?_toArray, List.getElem?_cons_succ, List.getElem?_cons_zero, Option.toList_some, List.cons_append, List.nil_append]
            repeat (first | (go_big_quiet_want; refine quiet_index_s 1 31 _ _ rfl Tryd.underlying31 size_text x xo n1 c1 rfl _ _ rfl k rfl (by omega) ?_; go_big_quiet_on; simp only [Act.put, List.setIfInBounds_toArray, List.set_cons_zero, List.set_cons_succ]) | (go_big_quiet_want; refine quiet_load_one 29 _ rfl ⟨x, xo + k, none⟩ rfl _ y0 _ Tryd.underlying29 rfl ?_; go_big_quiet_on; simp only [Act.put, List.setIfInBounds_toArray, List.set_cons_zero, List.set_cons_succ]) | (go_big_quiet_want; refine quiet_index_s 1 31 _ _ rfl Tryd.underlying31 size_text y yo n2 c2 rfl _ _ rfl k rfl (by omega) ?_; go_big_quiet_on; simp only [Act.put, List.setIfInBounds_toArray, List.set_cons_zero, List.set_cons_succ]) | (go_big_quiet_want; refine quiet_load_one 29 _ rfl ⟨y, yo + k, none⟩ rfl _ y1 _ Tryd.underlying29 rfl ?_; go_big_quiet_on; simp only [Act.put, List.setIfInBounds_toArray, List.set_cons_zero, List.set_cons_succ]) | go_big_quiet_step (first | (go_at_call 49; with_reducible exact Calls.ext (c0 _))))
            exact wpQuiet_nil rfl
          refine AlChk.nil ?_
          refine Walk.fin fun w31 hw31 _ _ => ?_
          simp only [List.drop_succ_cons, List.drop_zero]
          have HBw31 := hid (Below.on HBwr.out hw31)
          have hsw31 := HBw31.out.size
          clear hw31
          go_wp2_with fail
          exact ⟨⟨k + 1, by omega, by first | rfl | simp, HNX.out HDE.out, HBw31.out⟩, by simp [intOf]; omega⟩
        · skip
          have HDE := hid hde
          have CE := hid (fun (W : World) (h1 : TextAt W xa xl xc tk) (h2 : TextAt W ya yl yc uk) => equal_any xa ya xl yl xc yc tk uk W h1 h2)
          rw [decide_eq_false hde] at CE
          clear hde
          refine wp_region_flow 11 (List.range 11) [] [] (by kernel_rfl) (by kernel_rfl) ?_
          apply Exists.intro
          refine ⟨fun w0 hb0 hF0 => ?_, ?_⟩
          · skip
            have c0 := fun e : Ext w0 => CE.out e.at_ (HXT.out.below (Below.on HBwr.out (Below.on hb0 e.same))) (HYT.out.below (Below.on HBwr.out (Below.on hb0 e.same)))
            have y0 : ∀ w', (∃ x : Ext w0, w' = x.at_) → w'.cell? ⟨x, xo + k, none⟩ = some (.slice xa xl xc) := fun w' ⟨e, he⟩ => he ▸ ((Below.on HBwr.out (Below.on hb0 e.same)).cell (p := ⟨x, xo + k, none⟩) hx).trans hxc
            have y1 : ∀ w', (∃ x : Ext w0, w' = x.at_) → w'.cell? ⟨y, yo + k, none⟩ = some (.slice ya yl yc) := fun w' ⟨e, he⟩ => he ▸ ((Below.on HBwr.out (Below.on hb0 e.same)).cell (p := ⟨y, yo + k, none⟩) hy).trans hyc
            simp only [pick, List.range, List.range.loop, List.getElem?_toArray, List.getElem?_cons_succ, List.getElem?_cons_zero, Option.toList_some, List.cons_append, List.nil_append]
            repeat (first | (go_big_quiet_want; refine quiet_index_s 1 31 _ _ rfl Tryd.underlying31 size_text x xo n1 c1 rfl _ _ rfl k rfl (by omega) ?_; go_big_quiet_on; simp only [Act.put, List.setIfInBounds_toArray, List.set_cons_zero, List.set_cons_succ]) | (go_big_quiet_want; refine quiet_load_one 29 _ rfl ⟨x, xo + k, none⟩ rfl _ y0 _ Tryd.underlying29 rfl ?_; go_big_quiet_on; simp only [Act.put, List.setIfInBounds_toArray, List.set_cons_zero, List.set_cons_succ]) | (go_big_quiet_want; refine quiet_index_s 1 31 _ _ rfl Tryd.underlying31 size_text y yo n2 c2 rfl _ _ rfl k rfl (by omega) ?_; go_big_quiet_on; simp only [Act.put, List.setIfInBounds_toArray, List.set_cons_zero, List.set_cons_succ]) | (go_big_quiet_want; refine quiet_load_one 29 _ rfl ⟨y, yo + k, none⟩ rfl _ y1 _ Tryd.underlying29 rfl ?_; go_big_quiet_on; simp only [Act.put, List.setIfInBounds_toArray, List.set_cons_zero, List.set_cons_succ]) | go_big_quiet_step (first | (go_at_call 49; with_reducible exact Calls.ext (c0 _))))
            exact wpQuiet_nil rfl
          refine AlChk.nil ?_
          refine Walk.fin fun w31 hw31 _ _ => ?_
          simp only [List.drop_succ_cons, List.drop_zero]
          have HBw31 := hid (Below.on HBwr.out hw31)
          have hsw31 := HBw31.out.size
          clear hw31
          go_wp2_with fail
          go_returns
          exact ⟨by rw [HFS.out HDE.out]; rfl, HBw31.out⟩
      · skip
        have hke : k = n1 := by omega
        subst hke
        have hcI : ¬ (k : Int) < (k : Int) := by omega
        have HNO := hid (firstU_none (ts := ts) (us := us) (fun j hj => HSM.out j (by omega)))
        go_wp2_with fail
        go_returns
        exact ⟨by rw [HNO.out]; rfl, HBwr.out⟩
end Go.Proofs.YtkakoiaahgchmaaDoor
namespace Go.Proofs.YtkakoiaahgchmaaDoor
set_option maxRecDepth 100000
open Go.ChangeShapes Go.WideShapes Go.ChangeAt Go.RowKit
set_option maxHeartbeats 4000000 in
theorem part_none (a1 a2 : Option Addr) (n1 n2 c1 c2 : Nat) (ts us : List (List Int)) (w : World) (hT : TextsAt w a1 n1 c1 ts) (hU : TextsAt w a2 n2 c2 us) (hf : firstU ts us = none) :
    Calls Tryd.prog 19 #[.slice a1 n1 c1, .slice a2 n2 c2] w fun e w' => e = .returned (.tuple #[.slice none 0 0, .slice none 0 0, .bool false]) ∧ Below w.heap.size w w' := by
  have Hb := hid (Below.refl w.heap.size w)
  have CU := hid (unlike_any a1 a2 n1 n2 c1 c2 ts us w hT hU)
  rw [hf] at CU
  go_enter Tryd.func19, Tryd.ntmps19
  go_wp2_with fail
  refine CU.out.mono ?_
  rintro e w1 ⟨rfl, b1⟩
  have HBw1 := hid (Below.on Hb.out b1)
  have hsw1 := HBw1.out.size
  clear b1
  go_wp2_with fail
  go_returns
  exact ⟨rfl, HBw1.out⟩
set_option maxHeartbeats 4000000 in
theorem part_some (a1 a2 : Option Addr) (n1 n2 c1 c2 : Nat) (ts us : List (List Int)) (w : World) (hT : TextsAt w a1 n1 c1 ts) (hU : TextsAt w a2 n2 c2 us) (hr1 : ∀ t ∈ ts, t.length ≤ 140737488351232) (hr2 : ∀ t ∈ us, t.length ≤ 140737488351232) {k : Nat} (hf : firstU ts us = some k) :
    Calls Tryd.prog 19 #[.slice a1 n1 c1, .slice a2 n2 c2] w fun e w' => ∃ u v, e = .returned (.tuple #[u, v, .bool true]) ∧ TextV (ts.getD k []) u w' ∧ TextV (us.getD k []) v w' ∧ Below w.heap.size w w' := by
  have Hb := hid (Below.refl w.heap.size w)
  have CU := hid (unlike_any a1 a2 n1 n2 c1 c2 ts us w hT hU)
  rw [hf] at CU
  have hk := firstU_at hf
  have hl1 := hT.length
  have hl2 := hU.length
  obtain ⟨x, xo, xa, xl, xc, rfl, hx, hxc, hxt⟩ := hT.at_ k (by omega)
  obtain ⟨y, yo, ya, yl, yc, rfl, hy, hyc, hyt⟩ := hU.at_ k (by omega)
  have HXT := hid hxt
  have HYT := hid hyt
  have hlx := hxt.length
  have hly := hyt.length
  have hrx := hr1 (ts.getD k []) (by rw [List.getD_eq_getElem?_getD, List.getElem?_eq_getElem (by omega)]; exact List.getElem_mem _)
  have hry := hr2 (us.getD k []) (by rw [List.getD_eq_getElem?_getD, List.getElem?_eq_getElem (by omega)]; exact List.getElem_mem _)
  have hkn1 : k < n1 := by omega
  have hkn2 : k < n2 := by omega
  generalize ts.getD k [] = tk at *
  generalize us.getD k [] = uk at *
  clear hxt hyt hT hU hk
  go_enter Tryd.func19, Tryd.ntmps19
  go_wp2_with fail
  refine CU.out.mono ?_
  rintro e w1 ⟨rfl, b1⟩
  have HBw1 := hid (Below.on Hb.out b1)
  have hsw1 := HBw1.out.size
  clear b1
  go_wp2_with fail
  refine wp_region_flow 10 [0, 1, 2, 3, 5, 6, 7, 8] [] [(.c 4, [], []), (.c 9, [], [])] (by kernel_rfl) (by kernel_rfl) ?_
  apply Exists.intro
  refine ⟨fun w0 hb0 hF0 => ?_, ?_⟩
  · skip
    have y0 : ∀ w', (∃ x : Ext w0, w' = x.at_) → w'.cell? ⟨x, xo + k, none⟩ = some (.slice xa xl xc) := fun w' ⟨e, he⟩ => he ▸ ((Below.on HBw1.out (Below.on hb0 e.same)).cell (p := ⟨x, xo + k, none⟩) hx).trans hxc
    have y1 : ∀ w', (∃ x : Ext w0, w' = x.at_) → w'.cell? ⟨y, yo + k, none⟩ = some (.slice ya yl yc) := fun w' ⟨e, he⟩ => he ▸ ((Below.on HBw1.out (Below.on hb0 e.same)).cell (p := ⟨y, yo + k, none⟩) hy).trans hyc
    simp only [pick, List.getElem?_toArray, List.getElem?_cons_succ, List.getElem?_cons_zero, Option.toList_some, List.cons_append, List.nil_append]
    repeat (first | (go_big_quiet_want; refine quiet_index_s 1 31 _ _ rfl Tryd.underlying31 size_text x xo n1 c1 rfl _ _ rfl k rfl hkn1 ?_; go_big_quiet_on; simp only [Act.put, List.setIfInBounds_toArray, List.set_cons_zero, List.set_cons_succ]) | (go_big_quiet_want; refine quiet_load_one 29 _ rfl ⟨x, xo + k, none⟩ rfl _ y0 _ Tryd.underlying29 rfl ?_; go_big_quiet_on; simp only [Act.put, List.setIfInBounds_toArray, List.set_cons_zero, List.set_cons_succ]) | (go_big_quiet_want; refine quiet_index_s 1 31 _ _ rfl Tryd.underlying31 size_text y yo n2 c2 rfl _ _ rfl k rfl hkn2 ?_; go_big_quiet_on; simp only [Act.put, List.setIfInBounds_toArray, List.set_cons_zero, List.set_cons_succ]) | (go_big_quiet_want; refine quiet_load_one 29 _ rfl ⟨y, yo + k, none⟩ rfl _ y1 _ Tryd.underlying29 rfl ?_; go_big_quiet_on; simp only [Act.put, List.setIfInBounds_toArray, List.set_cons_zero, List.set_cons_succ]) | go_big_quiet_step (fail))
    exact wpQuiet_nil rfl
  refine AlChk.nil ?_
  refine Walk.call rfl 50 #[.slice xa xl xc] (TextV tk) (fun v w' w'' h k => h.below k) rfl (fun w1 hb1 hF1 => ⟨by go_simp, ?_⟩) ?_
  · skip
    refine (clone_any (HXT.out.below (Below.on HBw1.out hb1)) (by omega)).mono ?_
    rintro e w2 ⟨a, c, rfl, b2, t2, -⟩
    exact ⟨_, rfl, b2, _, _, _, rfl, t2⟩
  rintro v0 w1 hb1 hF1 ⟨pa, pn, pc, rfl, _⟩
  apply Exists.intro
  refine ⟨fun w0 hb0 hF0 => ?_, ?_⟩
  · skip
    exact wpQuiet_nil rfl
  refine AlChk.nil ?_
  refine Walk.call rfl 50 #[.slice ya yl yc] (TextV uk) (fun v w' w'' h k => h.below k) rfl (fun w1 hb1 hF1 => ⟨by go_simp, ?_⟩) ?_
  · skip
    refine (clone_any (HYT.out.below (Below.on HBw1.out hb1)) (by omega)).mono ?_
    rintro e w2 ⟨a, c, rfl, b2, t2, -⟩
    exact ⟨_, rfl, b2, _, _, _, rfl, t2⟩
  rintro v1 w1 hb1 hF1 ⟨qa, qn, qc, rfl, _⟩
  apply Exists.intro
  refine ⟨fun w0 hb0 hF0 => ?_, ?_⟩
  · skip
    exact wpQuiet_nil rfl
  refine AlChk.nil ?_
  refine Walk.fin fun w2 hw2 hFw2 _ => ?_
  simp only [List.drop_succ_cons, List.drop_zero]
  have HFw2 := hid hFw2
  have HBw2 := hid (Below.on HBw1.out hw2)
  have hsw2 := HBw2.out.size
  clear hw2 hFw2
  go_wp2_with fail
  go_returns
  exact ⟨_, _, rfl, HFw2.out.1.2, HFw2.out.2, HBw2.out⟩
end Go.Proofs.YtkakoiaahgchmaaDoor
namespace Go.Proofs.YtkakoiaahgchmaaDoor
set_option maxRecDepth 100000
open Go.ChangeShapes Go.WideShapes Go.ChangeAt Go.RowKit
open Go.Shelf (Ren)
open Go.Sort (Holds)
def revTRen : Ren := ⟨fun | 35 => 65 | n => n, fun | 22 => 31 | 23 => 29 | 3 => 3 | 4 => 4 | 0 => 0 | n => n, fun | n => n⟩
theorem revTLays : SlLaysE.n35 Tryd.prog revTRen where
  mixed := by kernel_rfl
  f35 := ⟨ "slices.Reverse[[][]byte,[]byte]", by decide, Tryd.func65.trans (congrArg some (by kernel_rfl))⟩
  t0 := Tryd.underlying0
  a0 := Tryd.isAgg0
  z0 := Tryd.sizeOf0
  v0 := Tryd.zeroValue0
  t3 := Tryd.underlying3
  a3 := Tryd.isAgg3
  z3 := Tryd.sizeOf3
  v3 := Tryd.zeroValue3
  t4 := Tryd.underlying4
  a4 := Tryd.isAgg4
  z4 := Tryd.sizeOf4
  v4 := Tryd.zeroValue4
  t22 := Tryd.underlying31
  a22 := Tryd.isAgg31
  z22 := Tryd.sizeOf31
  v22 := Tryd.zeroValue31
  a23 := Tryd.isAgg29
  z23 := Tryd.sizeOf29
def revBRen : Ren := ⟨fun | 35 => 73 | n => n, fun | 22 => 76 | 23 => 4 | 3 => 3 | 4 => 4 | 0 => 0 | n => n, fun | n => n⟩
theorem revBLays : SlLaysE.n35 Tryd.prog revBRen where
  mixed := by kernel_rfl
  f35 := ⟨ "slices.Reverse[[]bool,bool]", by decide, Tryd.func73.trans (congrArg some (by kernel_rfl))⟩
  t0 := Tryd.underlying0
  a0 := Tryd.isAgg0
  z0 := Tryd.sizeOf0
  v0 := Tryd.zeroValue0
  t3 := Tryd.underlying3
  a3 := Tryd.isAgg3
  z3 := Tryd.sizeOf3
  v3 := Tryd.zeroValue3
  t4 := Tryd.underlying4
  a4 := Tryd.isAgg4
  z4 := Tryd.sizeOf4
  v4 := Tryd.zeroValue4
  t22 := Tryd.underlying76
  a22 := Tryd.isAgg76
  z22 := Tryd.sizeOf76
  v22 := Tryd.zeroValue76
  a23 := Tryd.isAgg4
  z23 := Tryd.sizeOf4
/-- A row of cells of the call's own. -/
def OwnV (w : World) (base : Nat) (e : TypeId) (v : Value) (xs : List Value) : Prop := w.ownsRow base e 1 v xs.length xs ∧ ∀ x ∈ xs, x.oneCell' = true
theorem OwnV.nil (w : World) (base : Nat) (e : TypeId) : OwnV w base e (.slice none 0 0) [] := ⟨World.ownsRow_nil w base e 1, by simp⟩
theorem OwnV.below {w w' : World} {base : Nat} {e : TypeId} {v : Value} {xs : List Value} (h : OwnV w base e v xs) (hb : Below w.heap.size w w') : OwnV w' base e v xs := ⟨owns_below h.1 hb, h.2⟩
theorem OwnV.lt {w : World} {base : Nat} {e : TypeId} {v : Value} {xs : List Value} (h : OwnV w base e v xs) : ∀ k, v.ownBlock = some k → base ≤ k ∧ k < w.heap.size := h.1.lt
/-- Other blocks are turned. -/
theorem OwnV.kept {w w' : World} {base : Nat} {e : TypeId} {v : Value} {xs : List Value} (h : OwnV w base e v xs) (hb : ∀ k, v.ownBlock = some k → w'.heap[k]? = w.heap[k]?) : OwnV w' base e v xs := by
  obtain ⟨⟨h1, h2⟩, h3⟩ := h
  refine ⟨⟨h1, h2.imp id ?_⟩, h3⟩
  rintro ⟨g, cap, cur, rfl, hg, hh, hle⟩
  exact ⟨g, cap, cur, rfl, hg, (hb g rfl).trans hh, hle⟩
theorem OwnV.slice {w : World} {base : Nat} {e : TypeId} {v : Value} {xs : List Value} (h : OwnV w base e v xs) : ∃ a c, v = .slice a xs.length c ∧ (∀ p, a = some p → ∃ g, p = ⟨g, 0, none⟩ ∧ base ≤ g) ∧ (a = none → xs = []) ∧ xs.length ≤ c ∧ c ≤ 9223372036854775807 ∧ ∀ g, a = some ⟨g, 0, none⟩ → g < w.heap.size ∧ ∀ j, j < xs.length → w.cell? ⟨g, j, none⟩ = xs[j]? := by
  obtain ⟨⟨h1, ⟨rfl, h2⟩ | ⟨g, cap, cur, rfl, hg, hh, hle, hmx, hsz, htk⟩⟩, h3⟩ := h
  · obtain rfl := List.eq_nil_of_length_eq_zero h2
    exact ⟨none, 0, rfl, by simp, fun _ => rfl, Nat.le_refl _, by omega, by simp⟩
  · refine ⟨_, cap, rfl, fun p hp => ⟨g, by cases hp; rfl, hg⟩, by simp, hle, by unfold maxLen at hmx; omega, fun g' hg' => ?_⟩
    cases hg'
    refine ⟨(Array.getElem?_eq_some_iff.1 hh).1, fun j hj => ?_⟩
    rw [(show Blk w g cur e from hh).cell, ← Array.getElem?_toList]
    have h4 := congrArg (fun l : List Value => l[j]?) htk
    rw [List.getElem?_take, if_pos (by omega)] at h4
    exact h4
/-- One cell more. -/
theorem run_append_v {w : World} {base : Nat} {t e : TypeId} {i : TypeInfo} {z : Value} {v : Value} {xs : List Value} (ty : TypeId) (ht : Tryd.prog.underlying t = some (.slice e)) (hi : Tryd.prog.info? e = some i) (hz : i.zero = some z) (hzs : z.cells.size = 1) (hsize : i.size = 1) (hby : i.bytes ≤ 24) (hown : OwnV w base e v xs) {b : Nat} {x : Value} {T : TypeId} (hk : Blk w b #[x] T) (hx : x.oneCell' = true) (hb : xs.length ≤ 1000000000) (hbase : base ≤ w.heap.size) :
    ∃ v' w', (Builtin.append_ #[t, t] ty #[v, .slice (some ⟨b, 0, none⟩) 1 1]).run Tryd.prog w = .ok v' w' ∧ OwnV w' base e v' (xs ++ [x]) ∧ w.grownBy w' v.ownBlock ∧ Below base w w' ∧ (v'.ownBlock = v.ownBlock ∨ v'.ownBlock = some w.heap.size) := by
  have hbel : ∀ {w' : World}, w.grownBy w' v.ownBlock → Below base w w' := fun hg => ⟨hg.os, hg.tape, hg.output, hg.size, fun k hk => hg.block k (by omega) (fun e => by have := (hown.lt k e.symm).1; omega)⟩
  obtain ⟨v', w', h1, h2, h3, _, h5⟩ := run_append_own_at (P := Tryd.prog) w base t ty e i z 1 i.bytes ht hi hz hsize rfl hzs (by omega) v xs.length xs hown.1 ⟨b, 0, none⟩ 1 1 [x] rfl (fun j u hj => by
    have hj0 : j = 0 := by have := (List.getElem?_eq_some_iff.1 hj).1; simp at this; omega
    subst hj0
    rw [Addr.add_mid, hk.cell]
    simpa using hj) (fun u hu => by simp only [List.mem_singleton] at hu; rw [hu]; exact hx) (by unfold maxLen; omega) (Nat.le_trans (Nat.mul_le_mul_left _ hby) (by omega)) hbase
  refine ⟨v', w', h1, ⟨by rw [List.length_append]; exact h2, fun u hu => ?_⟩, h3, hbel h3, h5⟩
  rcases List.mem_append.1 hu with h | h
  · exact hown.2 u h
  · simp only [List.mem_singleton] at h; rw [h]; exact hx
/-- A cell of a slice, or of a bool: what the shelf turns round. -/
abbrev OneV := {v : Value // v.oneCell' = true}
instance : Inhabited OneV := ⟨⟨.bool false, rfl⟩⟩
theorem oneV_cell : Go.Proofs.OneCell (fun x : OneV => x.1) := fun x => x.2
theorem ones_of {xs : List Value} (h : ∀ x ∈ xs, x.oneCell' = true) : ∃ l : List OneV, l.map Subtype.val = xs := ⟨xs.pmap Subtype.mk h, by simp [List.map_pmap]⟩
theorem OwnV.holds {w : World} {base : Nat} {l : List OneV} {g n c : Nat} {e : TypeId} (h : OwnV w base e (.slice (some ⟨g, 0, none⟩) n c) (l.map Subtype.val)) : n = l.length ∧ Holds (fun x : OneV => x.1) w g 0 l.toArray := by
  obtain ⟨⟨h1, ⟨h2, _⟩ | ⟨g', cap, cur, hv, hg, hh, hle, hmx, hsz, htk⟩⟩, h3⟩ := h
  · cases h2
  · cases hv
    have hb : Blk w g cur e := hh
    refine ⟨by rw [List.length_map], fun j hj => ?_⟩
    have hjl : j < l.length := by simpa using hj
    refine ⟨?_, hb.free _⟩
    rw [Nat.zero_add, hb.cell, ← Array.getElem?_toList]
    have h4 := congrArg (fun l : List Value => l[j]?) htk
    simp only [List.getElem?_take, List.length_map, Nat.mul_one] at h4
    rw [if_pos (by omega)] at h4
    rw [h4, List.getElem?_map, List.getElem?_eq_getElem hjl]
    simp [hjl]
theorem OwnV.put {w : World} {base m : Nat} {l l2 : List OneV} {g n c : Nat} {e : TypeId} (h : OwnV w base e (.slice (some ⟨g, 0, none⟩) n c) (l.map Subtype.val)) (hl : l2.length = l.length) :
    OwnV (Go.Sort.putRow (fun x : OneV => x.1) (Go.Sort.ahead w m) g 0 l2.toArray) base e (.slice (some ⟨g, 0, none⟩) n c) (l2.map Subtype.val) ∧ But g w (Go.Sort.putRow (fun x : OneV => x.1) (Go.Sort.ahead w m) g 0 l2.toArray) := by
  obtain ⟨⟨h1, ⟨h2, _⟩ | ⟨g', cap, cur, hv, hg, hh, hle, hmx, hsz, htk⟩⟩, h3⟩ := h
  · cases h2
  · cases hv
    rw [List.length_map] at hle
    have hcl : ∀ (j : Nat), (l2.map Subtype.val)[j]? = if hj : j < l2.length then some (l2[j]'hj).1 else none := fun j => by
      by_cases hj : j < l2.length
      · rw [dif_pos hj, List.getElem?_map, List.getElem?_eq_getElem hj]; rfl
      · rw [dif_neg hj, List.getElem?_eq_none (by rw [List.length_map]; omega)]
    refine ⟨⟨⟨by omega, .inr ⟨g, c, Go.Sort.putCells (fun x : OneV => x.1) 0 l2.toArray cur, by rw [List.length_map, List.length_map, hl], hg, ?_, by rw [List.length_map, hl]; exact hle, hmx, ?_, ?_⟩⟩, fun v hv => ?_⟩, ⟨rfl, rfl, rfl, ?_, fun k hk hne => ?_⟩⟩
    · show (w.heap.modify g _)[g]? = _
      rw [Array.getElem?_modify, if_pos rfl, hh]
      rfl
    · unfold Go.Sort.putCells
      rw [Array.size_mapIdx, hsz]
    · apply List.ext_getElem?
      intro j
      rw [hcl j]
      by_cases hj : j < l2.length
      · rw [dif_pos hj, List.getElem?_take_of_lt (by rw [List.length_map, Nat.mul_one]; exact hj), Array.getElem?_toList]
        unfold Go.Sort.putCells
        rw [Array.getElem?_mapIdx, Array.getElem?_eq_getElem (xs := cur) (by omega), Option.map_some, if_pos (by simp; omega)]
        simp [hj]
      · rw [dif_neg hj, List.getElem?_eq_none (by rw [List.length_take, List.length_map]; omega)]
    · obtain ⟨x, _, rfl⟩ := List.mem_map.1 hv
      exact x.2
    · show _ ≤ (w.heap.modify g _).size
      rw [Array.size_modify]
      exact Nat.le_refl _
    · show (w.heap.modify g _)[k]? = _
      rw [Array.getElem?_modify, if_neg (fun e => hne e.symm)]
theorem revT_any {e : TypeId} (a : Option Addr) (n c base : Nat) (xs : List Value) (w : World) (h : OwnV w base e (.slice a n c) xs) (hmx : xs.length ≤ 1000000000) :
    Calls Tryd.prog 65 #[.slice a n c] w fun e2 w' => e2 = .returned (.tuple #[]) ∧ OwnV w' base e (.slice a n c) xs.reverse ∧ FlowB.ButIn (Value.slice a n c).ownBlock.toList w w' := by
  obtain ⟨l, rfl⟩ := ones_of h.2
  obtain ⟨a', cap, hv, ha, hn, hcl, hcm, -⟩ := h.slice
  injection hv with ha' hnn hc
  subst ha' hc
  rw [List.length_map] at hnn
  by_cases hz : n = 0
  · subst hz
    obtain rfl := List.eq_nil_of_length_eq_zero hnn.symm
    refine (AnyE.slices_Reverse_empty revTLays a c w : Calls Tryd.prog 65 #[.slice a 0 c] w _).mono ?_
    rintro e2 w' ⟨rfl, rfl⟩
    exact ⟨rfl, h, ⟨rfl, rfl, rfl, Nat.le_refl _, fun _ _ _ => rfl⟩⟩
  · cases a with
    | none =>
      have := hn rfl
      rw [List.map_eq_nil_iff] at this
      subst this
      exact absurd hnn hz
    | some p =>
      obtain ⟨g, rfl, -⟩ := ha p rfl
      obtain ⟨hnl, hh⟩ := h.holds
      subst hnl
      have hq := AnyE.slices_Reverse revTLays (fun x : OneV => x.1) oneV_cell g 0 c l w hh (by rw [List.length_map] at hmx; omega)
      refine (hq : Calls Tryd.prog 65 #[.slice (some ⟨g, 0, none⟩) l.length c] w _).mono ?_
      rintro e2 w' ⟨rfl, m, rfl⟩
      have hp := h.put (m := m) (l2 := l.reverse) (by rw [List.length_reverse])
      rw [← List.map_reverse]
      exact ⟨rfl, hp.1, FlowB.ButIn.of_but hp.2 (by simp [Value.ownBlock])⟩
theorem revB_any {e : TypeId} (a : Option Addr) (n c base : Nat) (xs : List Value) (w : World) (h : OwnV w base e (.slice a n c) xs) (hmx : xs.length ≤ 1000000000) :
    Calls Tryd.prog 73 #[.slice a n c] w fun e2 w' => e2 = .returned (.tuple #[]) ∧ OwnV w' base e (.slice a n c) xs.reverse ∧ FlowB.ButIn (Value.slice a n c).ownBlock.toList w w' := by
  obtain ⟨l, rfl⟩ := ones_of h.2
  obtain ⟨a', cap, hv, ha, hn, hcl, hcm, -⟩ := h.slice
  injection hv with ha' hnn hc
  subst ha' hc
  rw [List.length_map] at hnn
  by_cases hz : n = 0
  · subst hz
    obtain rfl := List.eq_nil_of_length_eq_zero hnn.symm
    refine (AnyE.slices_Reverse_empty revBLays a c w : Calls Tryd.prog 73 #[.slice a 0 c] w _).mono ?_
    rintro e2 w' ⟨rfl, rfl⟩
    exact ⟨rfl, h, ⟨rfl, rfl, rfl, Nat.le_refl _, fun _ _ _ => rfl⟩⟩
  · cases a with
    | none =>
      have := hn rfl
      rw [List.map_eq_nil_iff] at this
      subst this
      exact absurd hnn hz
    | some p =>
      obtain ⟨g, rfl, -⟩ := ha p rfl
      obtain ⟨hnl, hh⟩ := h.holds
      subst hnl
      have hq := AnyE.slices_Reverse revBLays (fun x : OneV => x.1) oneV_cell g 0 c l w hh (by rw [List.length_map] at hmx; omega)
      refine (hq : Calls Tryd.prog 73 #[.slice (some ⟨g, 0, none⟩) l.length c] w _).mono ?_
      rintro e2 w' ⟨rfl, m, rfl⟩
      have hp := h.put (m := m) (l2 := l.reverse) (by rw [List.length_reverse])
      rw [← List.map_reverse]
      exact ⟨rfl, hp.1, FlowB.ButIn.of_but hp.2 (by simp [Value.ownBlock])⟩
end Go.Proofs.YtkakoiaahgchmaaDoor
namespace Go.Proofs.YtkakoiaahgchmaaDoor
set_option maxRecDepth 100000
open Go.RowKit
section
variable {P : Program} {ops : Array Oper} {Q : Exit → Act → World → Prop}
theorem wpOp_val {i : Nat} {o : Oper} {K : Act → World → Prop} {a : Act} {w w' : World} {v : Value} (hi : ops[i]? = some o) (hg : o.guard = none) (hr : (execOp a.eval o).run P w = .ok (.value v) w') (h : K (a.put o.dst v) w') : wpOp P ops Q i K a w := by
  unfold wpOp
  simp only [hi]
  rw [if_pos (by unfold Region.wanted; rw [hg])]
  left
  unfold Oper.wp
  rw [hr, Oper.upon_value]
  exact h
theorem wpOp_skips {i : Nat} {o : Oper} {K : Act → World → Prop} {a : Act} {w w' : World} (hi : ops[i]? = some o) (hg : o.guard = none) (hd : o.dst = none) (hr : (execOp a.eval o).run P w = .ok .skip w') (h : K a w') : wpOp P ops Q i K a w := by
  unfold wpOp
  simp only [hi]
  rw [if_pos (by unfold Region.wanted; rw [hg])]
  left
  unfold Oper.wp
  rw [hr]
  show K (a.put o.dst undef) w'
  rw [hd]
  exact h
/-- What a load of a whole variable comes to. -/
theorem exec_load_blk {o : Oper} {A : Act} {w : World} (ty : TypeId) (x : Operand) (ho : o.op = .load ty x) (b : Nat) (hx : A.eval x = .pointer (some ⟨b, 0, none⟩)) (cs : Array Value) (T : TypeId) (hb : Blk w b cs T) (d : TypeDesc) (hu : P.underlying ty = some d) (hd : d.isRow = true) (n : Nat) (hi : (P.info? ty).map (·.size) = some n) (hs : cs.size = n) :
    (execOp A.eval o).run P w = .ok (.value (.agg cs)) w := by
  unfold execOp
  simp only [ho, hx, Instr.loadAt, Instr.sureAddr, Sem.run_bind, Sem.run_pure, Result.andThen_ok, run_loadVar_mid w b 0 ty cs.toList d hb.rangeAt hu hd (by rw [hi]; simp [hs])]
end
def pl (l : List Nat) : Array Bool := l.foldl (fun x i => x.setIfInBounds i true) (Array.replicate 6 false)
/-- Two loads, two variables, two stores; the second load may come up behind the first store. -/
def pairB (l : List Oper) : Bool :=
  Region.noSelect l.toArray && l.length == 6 && Region.free .any l.toArray (pl []) 0 && Region.free .any l.toArray (pl [0]) 1 &&
  (Region.ready .any l.toArray (pl [])).contains 0 && (Region.ready .any l.toArray (pl [0])).contains 1 && Region.ready .any l.toArray (pl [0, 1]) == [2, 3] &&
  Region.ready .any l.toArray (pl [0, 1, 2]) == [3] && Region.ready .any l.toArray (pl [0, 1, 3]) == [2] &&
  [[0, 1, 2, 3], [0, 1, 3, 2]].all fun m => Region.ready .any l.toArray (pl m) == [4] && Region.ready .any l.toArray (pl (m ++ [4])) == [5] && Region.ready .any l.toArray (pl (m ++ [4, 5])) == []
def pairF (a : Act) (o0 o1 o2 o3 : Oper) (X Y : Array Value) (b c : Nat) : Act :=
  (((a.put o0.dst (.agg X)).put o1.dst (.agg Y)).put o2.dst (.pointer (some ⟨b, 0, none⟩))).put o3.dst (.pointer (some ⟨c, 0, none⟩))
theorem wp_pair {P : Program} {id : Nat} {Q : Exit → Act → World → Prop} {a : Act} {w : World} {l : List Oper} (hm : P.follows .mixedOrders = true) (hB : pairB l = true) (hQ : ∀ c (a : Act) d v w, Q (.panic c) (a.put d v) w → Q (.panic c) a w)
    (o0 o1 o2 o3 o4 o5 : Oper) (h0 : l[0]? = some o0) (h1 : l[1]? = some o1) (h2 : l[2]? = some o2) (h3 : l[3]? = some o3) (h4 : l[4]? = some o4) (h5 : l[5]? = some o5) (ty : TypeId) (x y p4 q4 p5 q5 : Operand)
    (e0 : o0.op = .load ty x) (e1 : o1.op = .load ty y) (e4 : o4.op = .store ty p4 q4) (e5 : o5.op = .store ty p5 q5)
    (g0 : o0.guard = none) (g1 : o1.guard = none) (g2 : o2.guard = none) (g3 : o3.guard = none) (g4 : o4.guard = none) (g5 : o5.guard = none) (n4 : o4.dst = none) (n5 : o5.dst = none) (hne : ∀ d, o2.dst = some d → o3.dst ≠ some d)
    (bx bz : Nat) (X Y : Array Value) (hx : a.eval x = .pointer (some ⟨bx, 0, none⟩)) (hy : (a.put o0.dst (.agg X)).eval y = .pointer (some ⟨bz, 0, none⟩)) (T1 T2 : TypeId) (kx : Blk w bx X T1) (ky : Blk w bz Y T2)
    (d : TypeDesc) (hu : P.underlying ty = some d) (hd : d.isRow = true) (n : Nat) (hi : (P.info? ty).map (·.size) = some n) (sX : X.size = n) (sY : Y.size = n) (cX : X.all (·.oneCell') = true) (cY : Y.all (·.oneCell') = true)
    (Z : Array Value) (sZ : Z.size = n)
    (a2 : ∀ (A : Act) W, (execOp A.eval o2).run P W = .ok (.value (.pointer (some ⟨W.heap.size, 0, none⟩))) (W.alloc (.cells Z ty (0, 0))))
    (a3 : ∀ (A : Act) W, (execOp A.eval o3).run P W = .ok (.value (.pointer (some ⟨W.heap.size, 0, none⟩))) (W.alloc (.cells Z ty (0, 0))))
    (hev : ∀ b c, (pairF a o0 o1 o2 o3 X Y b c).eval p4 = .pointer (some ⟨b, 0, none⟩) ∧ (pairF a o0 o1 o2 o3 X Y b c).eval q4 = .agg X ∧ (pairF a o0 o1 o2 o3 X Y b c).eval p5 = .pointer (some ⟨c, 0, none⟩) ∧ (pairF a o0 o1 o2 o3 X Y b c).eval q5 = .agg Y)
    (hfin : ∀ b c w', Below w.heap.size w w' → w.heap.size ≤ b → w.heap.size ≤ c → b ≠ c → Blk w' b X ty → Blk w' c Y ty → wpList P l.toArray Q [] (pairF a o0 o1 o2 o3 X Y b c) w') : (Code.region id l.toArray true).wp P Q a w := by
  unfold pairB at hB
  simp only [Bool.and_eq_true, beq_iff_eq, List.all_cons, List.all_nil, Bool.and_true] at hB
  obtain ⟨⟨⟨⟨⟨⟨⟨⟨⟨hs, hl⟩, f0⟩, f1⟩, r0⟩, r1⟩, r01⟩, r012⟩, r013⟩, ⟨⟨rA, rA4⟩, rA5⟩, ⟨rB, rB4⟩, rB5⟩ := hB
  have size6 : l.toArray.size = 6 := by simpa using hl
  refine wp_region_held (S := fun W => Below w.heap.size w W) hm ?_
  rw [size6]
  have h0' : l.toArray[0]? = some o0 := by simpa using h0
  have h1' : l.toArray[1]? = some o1 := by simpa using h1
  have h2' : l.toArray[2]? = some o2 := by simpa using h2
  have h3' : l.toArray[3]? = some o3 := by simpa using h3
  have h4' : l.toArray[4]? = some o4 := by simpa using h4
  have h5' : l.toArray[5]? = some o5 := by simpa using h5
  have hw : ∀ (o : Oper) (A : Act), o.guard = none → Region.wanted o (yielded l.toArray A.tmps) = true := fun o A hg => by unfold Region.wanted; rw [hg]
  have tail : ∀ L b c W, Region.ready .any l.toArray L = [4] → Region.ready .any l.toArray (L.setIfInBounds 4 true) = [5] → Region.ready .any l.toArray ((L.setIfInBounds 4 true).setIfInBounds 5 true) = [] → Below w.heap.size w W → w.heap.size ≤ b → w.heap.size ≤ c → b ≠ c → Blk W b Z ty → Blk W c Z ty →
      wpAnyH P .any l.toArray Q (fun W => Below w.heap.size w W) 2 L (pairF a o0 o1 o2 o3 X Y b c) W := by
    intro L b c W q4' q5' q6' hW hb hc hbc kb kc
    obtain ⟨v1, v2, v3, v4⟩ := hev b c
    refine wpAnyH_all (rs := [4]) q4' (by simp) ?_
    intro i hi'
    obtain rfl : i = 4 := by simpa using hi'
    obtain ⟨w1, s1, s2, s3⟩ := FlowB.exec_store_blk ty p4 q4 e4 b X v1 v2 Z ty kb n hi sZ sX cX
    have hW1 := s2.below hW hW.size hb
    have kc1 := s2.blk kc (Ne.symm hbc)
    refine wpOp_skips h4' g4 n4 s1 ⟨hW1, ?_⟩
    refine wpAnyH_all (rs := [5]) q5' (by simp) ?_
    intro i hi'
    obtain rfl : i = 5 := by simpa using hi'
    obtain ⟨w2, s4, s5, s6⟩ := FlowB.exec_store_blk ty p5 q5 e5 c Y v3 v4 Z ty kc1 n hi sZ sY cY
    have hW2 := s5.below hW1 hW1.size hc
    refine wpOp_skips h5' g5 n5 s4 ⟨hW2, ?_⟩
    exact wpAnyH_done q6' (hfin b c w2 hW2 hb hc hbc (s5.blk s3 hbc) s6) _
  have hS0 : Below w.heap.size w w.drew := (Below.refl _ _).drew
  refine wpAnyH_take (i := 0) (oi := o0) (v := .agg X) h0' hs f0 r0 (fun c a w h => hQ c a _ _ w h) (.inl ⟨hw _ _ g0, fun W hW => exec_load_blk ty x e0 bx hx X T1 (kx.below hW) d hu hd n hi sX⟩) hS0 ?_
  refine wpAnyH_take (i := 1) (oi := o1) (v := .agg Y) h1' hs f1 r1 (fun c a w h => hQ c a _ _ w h) (.inl ⟨hw _ _ g1, fun W hW => exec_load_blk ty y e1 bz hy Y T2 (ky.below hW) d hu hd n hi sY⟩) hS0 ?_
  refine wpAnyH_all (rs := [2, 3]) r01 (by simp) ?_
  intro i hi'
  have hdr : w.drew.heap.size = w.heap.size := rfl
  have b1 : Below w.heap.size w (w.drew.alloc (.cells Z ty (0, 0))) := hS0.alloc hS0.size _
  have b2 : Below w.heap.size w ((w.drew.alloc (.cells Z ty (0, 0))).alloc (.cells Z ty (0, 0))) := b1.alloc b1.size _
  have k1 : Blk ((w.drew.alloc (.cells Z ty (0, 0))).alloc (.cells Z ty (0, 0))) w.heap.size Z ty := (Blk.new rfl Z ty).old _
  have k2 : Blk ((w.drew.alloc (.cells Z ty (0, 0))).alloc (.cells Z ty (0, 0))) (w.drew.alloc (.cells Z ty (0, 0))).heap.size Z ty := Blk.new rfl Z ty
  have hsz : (w.drew.alloc (.cells Z ty (0, 0))).heap.size = w.heap.size + 1 := by rw [World.size_alloc, hdr]
  have hi'' : i = 2 ∨ i = 3 := by simpa using hi'
  rcases hi'' with rfl | rfl
  · refine wpOp_val h2' g2 (a2 _ _) ⟨b1, ?_⟩
    refine wpAnyH_all (rs := [3]) r012 (by simp) ?_
    intro i hi'
    obtain rfl : i = 3 := by simpa using hi'
    refine wpOp_val h3' g3 (a3 _ _) ⟨b2, ?_⟩
    exact tail _ w.heap.size (w.drew.alloc (.cells Z ty (0, 0))).heap.size _ rA rA4 rA5 b2 (Nat.le_refl _) (by omega) (by omega) k1 k2
  · refine wpOp_val h3' g3 (a3 _ _) ⟨b1, ?_⟩
    refine wpAnyH_all (rs := [2]) r013 (by simp) ?_
    intro i hi'
    obtain rfl : i = 2 := by simpa using hi'
    refine wpOp_val h2' g2 (a2 _ _) ⟨b2, ?_⟩
    have := tail _ (w.drew.alloc (.cells Z ty (0, 0))).heap.size w.heap.size _ rB rB4 rB5 b2 (by omega) (Nat.le_refl _) (by omega) k2 k1
    unfold pairF at this
    rw [Act.put_comm _ _ _ hne] at this
    exact this
end Go.Proofs.YtkakoiaahgchmaaDoor
namespace Go.Proofs.YtkakoiaahgchmaaDoor
set_option maxRecDepth 100000
open Go.ChangeShapes Go.WideShapes Go.ChangeAt Go.RowKit
/-- A row of texts of the call's own; the texts lie in other blocks, and in none of a list. -/
def OwnR (w : World) (S : List Nat) (base : Nat) (v : Value) (ts : List (List Int)) : Prop := ∃ xs, OwnV w base 29 v xs ∧ xs.length = ts.length ∧ ∀ j, j < ts.length → ∃ a l c, xs[j]? = some (.slice a l c) ∧ TextAt w a l c (ts.getD j []) ∧ (0 < l → ∀ p : Addr, a = some p → v.ownBlock ≠ some p.block ∧ p.block ∉ S)
theorem OwnR.nil (w : World) (S : List Nat) (base : Nat) : OwnR w S base (.slice none 0 0) [] := ⟨[], OwnV.nil w base 29, rfl, fun j hj => by simp at hj⟩
theorem OwnR.below {w w' : World} {S : List Nat} {base : Nat} {v : Value} {ts : List (List Int)} (h : OwnR w S base v ts) (hb : Below w.heap.size w w') : OwnR w' S base v ts := by
  obtain ⟨xs, h1, h2, h3⟩ := h
  exact ⟨xs, h1.below hb, h2, fun j hj => by obtain ⟨a, l, c, q1, q2, q3⟩ := h3 j hj; exact ⟨a, l, c, q1, q2.below hb, q3⟩⟩
theorem OwnR.lt {w : World} {S : List Nat} {base : Nat} {v : Value} {ts : List (List Int)} (h : OwnR w S base v ts) : ∀ k, v.ownBlock = some k → base ≤ k ∧ k < w.heap.size := by
  obtain ⟨xs, h1, _⟩ := h
  exact h1.lt
theorem OwnR.size {w : World} {S : List Nat} {base : Nat} {v : Value} {ts : List (List Int)} (h : OwnR w S base v ts) : ∀ g ∈ v.ownBlock.toList, g < w.heap.size := fun g hm => (h.lt g (by simpa using hm)).2
theorem OwnR.from {w : World} {S : List Nat} {base : Nat} {v : Value} {ts : List (List Int)} (h : OwnR w S base v ts) : ∀ g ∈ v.ownBlock.toList, base ≤ g := fun g hm => (h.lt g (by simpa using hm)).1
theorem OwnR.low {w : World} {S : List Nat} {base b : Nat} {v : Value} {ts : List (List Int)} (h : OwnR w S base v ts) (hb : b < base) : b ∉ v.ownBlock.toList := fun hm => by
  have := h.from b hm
  omega
/-- A block of the list is changed. -/
theorem OwnR.keptBut {w w' : World} {S : List Nat} {base b : Nat} {v : Value} {ts : List (List Int)} (h : OwnR w S base v ts) (hb : But b w w') (hS : b ∈ S) (hlt : b < base) : OwnR w' S base v ts := by
  have hl := h.lt
  obtain ⟨xs, h1, h2, h3⟩ := h
  refine ⟨xs, h1.kept fun k hk => hb.block k (hl k hk).2 (by have := (hl k hk).1; omega), h2, fun j hj => ?_⟩
  obtain ⟨a, l, c, q1, q2, q3⟩ := h3 j hj
  exact ⟨a, l, c, q1, q2.but hb fun h0 p hp e => (q3 h0 p hp).2 (e ▸ hS), q3⟩
theorem OwnR.texts {w : World} {S : List Nat} {base : Nat} {v : Value} {ts : List (List Int)} (h : OwnR w S base v ts) : ∃ a cap, v = .slice a ts.length cap ∧ TextsAt w a ts.length cap ts := by
  obtain ⟨xs, ⟨⟨h1, ⟨rfl, h2⟩ | ⟨g, cap, cur, rfl, hg, hh, hle, hmx, hsz, htk⟩⟩, _⟩, hl, h3⟩ := h
  · exact ⟨none, 0, by rw [← hl, h2], rfl, by omega, by omega, .inl (by omega)⟩
  · rw [hl] at hle
    refine ⟨_, cap, by rw [hl], rfl, hle, by unfold maxLen at hmx; omega, .inr ⟨g, 0, rfl, (Array.getElem?_eq_some_iff.1 hh).1, fun j hj => ?_⟩⟩
    obtain ⟨a, l, c, q1, q2, _⟩ := h3 j hj
    refine ⟨a, l, c, ?_, q2⟩
    rw [Nat.zero_add, (show Blk w g cur 29 from hh).cell]
    rw [← htk, List.getElem?_take, if_pos (by omega)] at q1
    simpa using q1
theorem TextAt.none_len {w w' : World} {a : Option Addr} {l c : Nat} {t : List Int} (h : TextAt w a l c t) (h0 : l = 0) : TextAt w' a l c t := by
  subst h0
  obtain ⟨h1, h2, h3, h4, h5 | ⟨x, o, s, h5, _⟩⟩ := h
  · exact ⟨h1, h2, h3, h4, .inl h5⟩
  · exact ⟨h1, h2, h3, h4, .inr ⟨x, o, s, h5, fun j hj => absurd hj (Nat.not_lt_zero _)⟩⟩
/-- One text more. -/
theorem run_append_t {w : World} {S : List Nat} {base : Nat} {v : Value} {ts : List (List Int)} (hown : OwnR w S base v ts) {b : Nat} {ta : Option Addr} {tl tc : Nat} {t : List Int} {T : TypeId} (hk : Blk w b #[.slice ta tl tc] T) (hT : TextAt w ta tl tc t) (hsep : 0 < tl → ∀ p : Addr, ta = some p → v.ownBlock ≠ some p.block ∧ p.block ∉ S) (hb : ts.length ≤ 1000000) (hbase : base ≤ w.heap.size) :
    ∃ v' w', (Builtin.append_ #[31, 31] 31 #[v, .slice (some ⟨b, 0, none⟩) 1 1]).run Tryd.prog w = .ok v' w' ∧ OwnR w' S base v' (ts ++ [t]) ∧ w.grownBy w' v.ownBlock ∧ Below base w w' := by
  obtain ⟨xs, h1, h2, h3⟩ := hown
  obtain ⟨i0, hi, hz0, hz1, hz2⟩ := info_parts info_text
  obtain ⟨v', w', r1, r2, r3, r4, r5⟩ := run_append_v 31 Tryd.underlying31 hi hz0 rfl hz1 (by omega) h1 hk rfl (by omega) hbase
  have hkeep : ∀ {a : Option Addr} {l c : Nat} {y : List Int}, TextAt w a l c y → (0 < l → ∀ p : Addr, a = some p → v.ownBlock ≠ some p.block) → TextAt w' a l c y := by
    intro a l c y hy hp
    rcases Nat.eq_zero_or_pos l with h0 | h0
    · exact hy.none_len h0
    · exact hy.grown r3 fun k hk => .inr fun p hpp e => hp h0 p hpp (by rw [hk, e])
  have hnew : ∀ {a : Option Addr} {l c : Nat} {y : List Int}, TextAt w a l c y → (0 < l → ∀ p : Addr, a = some p → v.ownBlock ≠ some p.block ∧ p.block ∉ S) → (0 < l → ∀ p : Addr, a = some p → v'.ownBlock ≠ some p.block ∧ p.block ∉ S) := by
    intro a l c y hy hp h0 p hpp
    refine ⟨?_, (hp h0 p hpp).2⟩
    rcases r5 with r5 | r5
    · rw [r5]; exact (hp h0 p hpp).1
    · obtain ⟨x, o, he, hx, _⟩ := hy.at_ h0
      rw [hpp] at he
      cases he
      rw [r5]
      intro e
      have := Option.some.inj e
      simp only at this
      omega
  refine ⟨v', w', r1, ⟨xs ++ [.slice ta tl tc], r2, by rw [List.length_append, List.length_append, h2]; rfl, fun j hj => ?_⟩, r3, r4⟩
  rw [List.length_append] at hj
  rcases Nat.lt_or_ge j ts.length with hlt | hge
  · obtain ⟨a, l, c, q1, q2, q3⟩ := h3 j hlt
    refine ⟨a, l, c, by rw [List.getElem?_append_left (by omega)]; exact q1, ?_, hnew q2 q3⟩
    rw [show (ts ++ [t]).getD j [] = ts.getD j [] by simp [List.getD_eq_getElem?_getD, List.getElem?_append_left hlt]]
    exact hkeep q2 fun h0 p hp => (q3 h0 p hp).1
  · have hj0 : j = ts.length := by simp at hj; omega
    subst hj0
    refine ⟨ta, tl, tc, by rw [List.getElem?_append_right (by omega), h2, Nat.sub_self]; rfl, ?_, hnew hT hsep⟩
    rw [show (ts ++ [t]).getD ts.length [] = t by simp [List.getD_eq_getElem?_getD]]
    exact hkeep hT fun h0 p hp => (hsep h0 p hp).1
/-- The trail turned round. -/
theorem trail_rev (S : List Nat) (base : Nat) (a : Option Addr) (n c : Nat) (ts : List (List Int)) (w : World) (h : OwnR w S base (.slice a n c) ts) (hmx : ts.length ≤ 1000000) :
    Calls Tryd.prog 65 #[.slice a n c] w fun e w' => e = .returned (.tuple #[]) ∧ OwnR w' S base (.slice a n c) ts.reverse ∧ FlowB.ButIn (Value.slice a n c).ownBlock.toList w w' := by
  obtain ⟨xs, h1, h2, h3⟩ := h
  refine (revT_any a n c base xs w h1 (by omega)).mono ?_
  rintro e w' ⟨rfl, r1, r2⟩
  refine ⟨rfl, ⟨xs.reverse, r1, by rw [List.length_reverse, List.length_reverse, h2], fun j hj => ?_⟩, r2⟩
  rw [List.length_reverse] at hj
  obtain ⟨a', l, c', q1, q2, q3⟩ := h3 (ts.length - 1 - j) (by omega)
  refine ⟨a', l, c', by rw [List.getElem?_reverse (by omega), h2]; exact q1, ?_, q3⟩
  rw [show ts.reverse.getD j [] = ts.getD (ts.length - 1 - j) [] by rw [List.getD_eq_getElem?_getD, List.getElem?_reverse hj, ← List.getD_eq_getElem?_getD]]
  rcases Nat.eq_zero_or_pos l with h0 | h0
  · exact q2.none_len h0
  · obtain ⟨g1, g2, g3, g4, g5 | ⟨x, o, s, rfl, hc⟩⟩ := q2
    · exact ⟨g1, g2, g3, g4, .inl g5⟩
    · refine ⟨g1, g2, g3, g4, .inr ⟨x, o, s, rfl, fun i hi => ?_⟩⟩
      obtain ⟨k0, k1, k2⟩ := hc i hi
      refine ⟨k0, Nat.lt_of_lt_of_le k1 r2.size, ?_⟩
      rw [← k2]
      unfold World.cell?
      have hne := (q3 h0 ⟨x, o, s⟩ rfl).1
      rw [show w'.heap[x]? = w.heap[x]? from r2.block x k1 (fun e => hne (by simpa using e))]
/-- A node's text. -/
def nodeX (a b : List Int) : List Int := 1 :: (a ++ b)
end Go.Proofs.YtkakoiaahgchmaaDoor
namespace Go.Proofs.YtkakoiaahgchmaaDoor
set_option maxRecDepth 100000
open Go.ChangeShapes Go.WideShapes Go.ChangeAt Go.RowKit
theorem size_rowt : (Tryd.prog.info? 31).map (·.size) = some 1 := by kernel_rfl
theorem FlowB.ButIn.wide {S S' : List Nat} {a b : World} (h : FlowB.ButIn S a b) (hs : ∀ x ∈ S, x ∈ S') : FlowB.ButIn S' a b := ⟨h.os, h.tape, h.output, h.size, fun k hk hn => h.block k hk fun hm => hn (hs k hm)⟩
theorem FlowB.ButIn.trans_ {S : List Nat} {a b c : World} (h : FlowB.ButIn S a b) (k : FlowB.ButIn S b c) : FlowB.ButIn S a c := (FlowB.rel_butIn S).trans h k
theorem TextAt.butIn {w w' : World} {S : List Nat} {a : Option Addr} {len cap : Nat} {t : List Int} (h : TextAt w a len cap t) (ho : ∀ p : Addr, a = some p → p.block ∉ S) (hb : FlowB.ButIn S w w') : TextAt w' a len cap t := by
  obtain ⟨h1, h2, h3, h4, h | ⟨x, o, s, rfl, hc⟩⟩ := h
  · exact ⟨h1, h2, h3, h4, .inl h⟩
  · refine ⟨h1, h2, h3, h4, .inr ⟨x, o, s, rfl, fun j hj => ?_⟩⟩
    obtain ⟨k0, k1, k2⟩ := hc j hj
    refine ⟨k0, Nat.lt_of_lt_of_le k1 hb.size, ?_⟩
    rw [← k2]
    unfold World.cell?
    rw [show w'.heap[x]? = w.heap[x]? from hb.block x k1 (ho ⟨x, o, s⟩ rfl)]
/-- The tables lie below. -/
def tabLow (n : Nat) : Prop := 1 < n ∧ 0 < n
theorem tab_butIn {S : List Nat} {w w' : World} (h : ShaTab w) (hb : FlowB.ButIn S w w') (hS : ∀ x ∈ S, tabLow x) : ShaTab w' := by
  refine h.same hb.size (fun j => ?_) (fun j => ?_)
  · unfold World.cell?
    rw [show w'.heap[_]? = w.heap[_]? from hb.block _ h.lt (fun hm => by have := (hS _ hm).1; omega)]
  · unfold World.cell?
    rw [show w'.heap[_]? = w.heap[_]? from hb.block _ h.lt0 (fun hm => by have := (hS _ hm).2; omega)]
theorem tab_all {bx bt base : Nat} {l : List Nat} (h1 : tabLow bx) (h2 : tabLow bt) (h3 : tabLow base) (hl : ∀ g ∈ l, base ≤ g) : ∀ x ∈ bx :: bt :: l, tabLow x := fun x hx => by
  rcases List.mem_cons.1 hx with rfl | hx
  · exact h1
  · rcases List.mem_cons.1 hx with rfl | hx
    · exact h2
    · have := hl x hx
      exact ⟨Nat.lt_of_lt_of_le h3.1 this, Nat.lt_of_lt_of_le h3.2 this⟩
def leftS (b : Bool) (x s : List Int) : List Int := if b then s else x
def rightS2 (b : Bool) (x s : List Int) : List Int := if b then x else s
set_option maxHeartbeats 4000000 in
theorem up_l (x s : List Int) (bx bt base : Nat) (v : Value) (ts : List (List Int)) (w : World) (hX : Dg x) (hs : Dg s) (kx : Blk w bx (x.map (Value.int .u8)).toArray 23) (kt : Blk w bt #[v] 31) (ho : OwnR w [bx, bt] base v ts) (hbx : bx < base) (hbt : bt < base) (hne : bx ≠ bt) (hbase : base ≤ w.heap.size) (hl : ts.length ≤ 1000) (hgx : tabLow bx) (hgt : tabLow bt) (hgb_ : tabLow base) (tab : ShaTab w) :
    Calls Tryd.prog 63 #[.agg (s.map (Value.int .u8)).toArray, .bool false, .pointer (some ⟨bx, 0, none⟩), .pointer (some ⟨bt, 0, none⟩)] w fun e w' => e = .returned (.tuple #[]) ∧ ∃ v', Blk w' bx ((nodeL x s).map (Value.int .u8)).toArray 23 ∧ Blk w' bt #[v'] 31 ∧ OwnR w' [bx, bt] base v' (ts ++ [nodeX x s]) ∧ FlowB.ButIn (bx :: bt :: v.ownBlock.toList) w w' := by
  have b1 := (Below.refl w.heap.size w).alloc (Nat.le_refl _) (.cells (s.map (Value.int .u8)).toArray 23 (0, 0))
  have Ks := hid (Blk.new (w := w) (n := w.heap.size) rfl (s.map (Value.int .u8)).toArray 23)
  have Hb := hid b1
  have hbz := b1.size
  have Hbs := hid (show w.heap.size + 1 = (w.alloc (.cells (s.map (Value.int .u8)).toArray 23 (0, 0))).heap.size by simp only [World.size_alloc])
  have Htab := hid tab
  clear b1 tab 
  have Kx := hid (kx.below Hb.out)
  have Kt := hid (kt.below Hb.out)
  have HO := hid (ho.below Hb.out)
  have hlx := kx.lt
  have hlt := kt.lt
  have HS := hid hs
  have HX := hid hX
  have ho0 := ho.from
  clear kx kt ho
  go_enter Tryd.func63, Tryd.ntmps63
  go_wp2_with fail
  have hsx : Hid ((byteCells 32 []).size = 32) := hid zsize
  refine wp_pair (by kernel_rfl) (by kernel_rfl) (fun _ _ d _ _ h => by cases d <;> exact h) _ _ _ _ _ _ rfl rfl rfl rfl rfl rfl 23 _ _ _ _ _ _ rfl rfl rfl rfl rfl rfl rfl rfl rfl rfl rfl rfl (by simp) bx (w.heap.size) (x.map (Value.int .u8)).toArray (s.map (Value.int .u8)).toArray rfl rfl _ _ Kx.out Ks.out _ Tryd.underlying23 rfl 32 size_digest HX.out.size HS.out.size (ints_one _ _) (ints_one _ _) (byteCells 32 []) hsx.out (fun A W => by go_simp; rfl) (fun A W => by go_simp; rfl) (fun b c => ⟨rfl, rfl, rfl, rfl⟩) ?_
  intro gb gc w2 hb2 hgb hgc hbc kb kc
  simp only [pairF, Act.put, List.setIfInBounds_toArray, List.set_cons_zero, List.set_cons_succ]
  have hgb1 : w.heap.size + 1 ≤ gb := by rw [Hbs.out]; exact hgb
  have hgc1 : w.heap.size + 1 ≤ gc := by rw [Hbs.out]; exact hgc
  have HG1 := hid hgb
  have HG2 := hid hgc
  have HP2 := hid hb2
  have HBw2 := hid (Below.on Hb.out hb2)
  have hsw2 := HBw2.out.size
  have Ksw2 := hid (Ks.out.below hb2)
  have Kxw2 := hid (Kx.out.below hb2)
  have Klw2 := hid kb
  have Krw2 := hid kc
  have Ktw2 := hid (Kt.out.below hb2)
  have HOw2 := hid (HO.out.below hb2)
  clear hb2 kb kc hgb hgc
  go_wp2_with fail
  have hos := HOw2.out.size
  have hno : ∀ n, w2.heap.size ≤ n → n ∉ v.ownBlock.toList := fun n hn hm => by have := hos n hm; omega
  have hos1 := HO.out.size
  have hngb : gb ∉ v.ownBlock.toList := fun hm => by have := hos1 gb hm; have := HG1.out; omega
  have hngc : gc ∉ v.ownBlock.toList := fun hm => by have := hos1 gc hm; have := HG2.out; omega
  have hnbx := HOw2.out.low hbx
  have hnbt := HOw2.out.low hbt
  have HNO := hid hno
  have hbs : base ≤ w2.heap.size := Nat.le_trans hbase HBw2.out.size
  clear hos hos1 hno
  refine FlowB.wp_region_butIn v.ownBlock.toList (fun wz => OwnR wz [bx, bt] base v ts) 7 [0, 1, 2] [3] [(.b 3, [], []), (.c 4, [], [5]), (.b 5, [], []), (.c 6, [], [])] (by kernel_rfl) (by kernel_rfl) HOw2.out (fun _ _ h hb => h.below hb) ?_
  apply Exists.intro
  refine ⟨fun w0 hb0 hF0 => ?_, ?_⟩
  · skip
    have y0 : ∀ w', (∃ x : Ext w0, w' = x.at_) → w'.cell? ⟨bt, 0, none⟩ = some v := fun w' ⟨e, he⟩ => by rw [he, ((hb0.blk Ktw2.out hnbt).below e.same).cell]; rfl
    simp only [pick, List.getElem?_toArray, List.getElem?_cons_succ, List.getElem?_cons_zero, Option.toList_some, List.cons_append, List.nil_append]
    repeat (first | (go_big_quiet_want; refine quiet_load_one 31 _ rfl ⟨bt, 0, none⟩ rfl _ y0 _ Tryd.underlying31 rfl ?_; go_big_quiet_on; simp only [Act.put, List.setIfInBounds_toArray, List.set_cons_zero, List.set_cons_succ]) | go_big_quiet_step (fail))
    exact wpQuiet_nil rfl
  refine FlowB.AlChk.one rfl (fun b => .slice (some ⟨b, 0, none⟩) 2 2) (.cells #[.slice (some ⟨gb, 0, none⟩) 32 32, .slice (some ⟨gc, 0, none⟩) 32 32] 29 (0, 0)) rfl (FlowB.st_butIn _ HOw2.out.size) (fun w2 hb2 hF2 => by go_simp) ?_
  refine FlowB.AlChk.nil ?_
  refine FlowB.Walk.blk rfl (fun b => .slice (some ⟨b, 0, none⟩) 2 2) (.cells #[.slice (some ⟨gb, 0, none⟩) 32 32, .slice (some ⟨gc, 0, none⟩) 32 32] 29 (0, 0)) (by simp) ?_
  intro b9 w9 hb9 hF9 hge9 _
  apply Exists.intro
  refine ⟨fun w3 hb3 hF3 => wpQuiet_nil rfl, ?_⟩
  refine FlowB.AlChk.nil ?_
  refine FlowB.Walk.call rfl 34 #[.int .u8 1, .slice (some ⟨b9, 0, none⟩) 2 2] (fun v' wz => ∃ ta tl tc, v' = .slice ta tl tc ∧ TextAt wz ta tl tc (nodeX x s) ∧ ∀ p : Addr, ta = some p → w2.heap.size ≤ p.block) (fun _ wz => OwnR wz [bx, bt] base v ts) (fun v' w' w'' _ h hR => by
    obtain ⟨ta, tl, tc, rfl, h1, h2⟩ := h
    exact ⟨ta, tl, tc, rfl, h1.butIn (fun p hp => HNO.out p.block (h2 p hp)) hR, h2⟩) (fun _ _ _ h k => h.below k) rfl (fun w1 hb1 hF1 hG1 => ⟨by go_simp, ?_⟩) ?_
  · have k9 : Blk w1 b9 #[.slice (some ⟨gb, 0, none⟩) 32 32, .slice (some ⟨gc, 0, none⟩) 32 32] 29 := hF1.2
    have kl := hb1.blk Klw2.out hngb
    have kr := hb1.blk Krw2.out hngc
    have hs := joined_any 1 (some ⟨b9, 0, none⟩) 2 2 [x, s] w1 (by omega) (TextsAt.of_blk k9 rfl (Nat.le_refl _) (by omega) fun j hj => by
      match j, hj with
      | 0, _ => exact ⟨_, _, _, rfl, HX.out.text kl⟩
      | 1, _ => exact ⟨_, _, _, rfl, HS.out.text kr⟩) (by simp only [sumLen, List.map_cons, List.map_nil, List.sum_cons, List.sum_nil, HX.out.len, HS.out.len]; omega)
    refine hs.mono ?_
    rintro e w' ⟨v', rfl, b, ho'⟩
    rw [show ([1] : List Int) ++ ([x, s] : List (List Int)).flatten = nodeX x s by simp [nodeX]] at ho'
    obtain ⟨ta, tc, rfl, q1, q2⟩ := ho'.text2
    exact ⟨_, rfl, (FlowB.rel_butIn _).of b, ⟨ta, _, tc, rfl, q1, fun p hp => Nat.le_trans hb1.size (q2 p hp).1⟩, hG1.below b⟩
  rintro vt w1 hb1 hF1 ⟨ta, tl, tc, rfl, _⟩
  apply Exists.intro
  refine ⟨fun w3 hb3 hF3 => wpQuiet_nil rfl, ?_⟩
  refine FlowB.AlChk.one rfl (fun b => .slice (some ⟨b, 0, none⟩) 1 1) (.cells #[.slice ta tl tc] 29 (0, 0)) rfl (FlowB.st_butIn _ HOw2.out.size) (fun w2 hb2 hF2 => by go_simp) ?_
  refine FlowB.AlChk.nil ?_
  refine FlowB.Walk.blk rfl (fun b => .slice (some ⟨b, 0, none⟩) 1 1) (.cells #[.slice ta tl tc] 29 (0, 0)) (by simp) ?_
  intro b5 w5 hb5 hF5 hge5 _
  apply Exists.intro
  refine ⟨fun w3 hb3 hF3 => wpQuiet_nil rfl, ?_⟩
  refine FlowB.AlChk.nil ?_
  refine FlowB.Walk.does rfl (fun _ _ => True) (fun v' wz => OwnR wz [bx, bt] base v' (ts ++ [nodeX x s])) (fun _ _ _ _ h _ => h) (fun v w' w'' h k => h.below k) rfl (fun w1 hb1 hF1 hG1 => ?_) ?_
  · have k5 : Blk w1 b5 #[.slice ta tl tc] 29 := hF1.2
    obtain ⟨ta', tl', tc', he, h1, h2⟩ := hF1.1.2
    cases he
    obtain ⟨v', w', r1, r2, r3, r4⟩ := run_append_t hG1 k5 h1 (fun _ p hp => ⟨fun e => HNO.out p.block (h2 p hp) (by simpa using e), by have := h2 p hp; simp only [List.mem_cons, List.not_mem_nil, or_false]; omega⟩) (by omega) (Nat.le_trans hbs hb1.size)
    exact ⟨v', w', FlowB.exec_append rfl rfl rfl r1, FlowB.ButIn.of_grown r3, trivial, r2⟩
  rintro v3 w33 hb33 hF33 _
  apply Exists.intro
  refine ⟨fun w3 hb3 hF3 => wpQuiet_nil rfl, ?_⟩
  refine FlowB.AlChk.nil ?_
  refine FlowB.Walk.fin fun w6 h6 _ hG6 => ?_
  simp only [List.drop_succ_cons, List.drop_zero]
  have HR6 := hid (((FlowB.rel_butIn (bx :: bt :: v.ownBlock.toList)).of HBw2.out : FlowB.ButIn (bx :: bt :: v.ownBlock.toList) w w2).trans_ (h6.wide (fun x hx => List.mem_cons_of_mem _ (List.mem_cons_of_mem _ hx))))
  have Kx6 := hid (h6.blk Kxw2.out hnbx)
  have Kt6 := hid (h6.blk Ktw2.out hnbt)
  have Kl6 := hid (h6.blk Klw2.out hngb)
  have Kr6 := hid (h6.blk Krw2.out hngc)
  have hG6' : OwnR w6 [bx, bt] base v3 (ts ++ [nodeX x s]) := hG6
  obtain ⟨a3, c3, rfl, -⟩ := hG6'.texts
  obtain ⟨N3, hN3⟩ : ∃ N, N = (ts ++ [nodeX x s]).length := ⟨_, rfl⟩
  rw [← hN3] at hG6' ⊢
  have HO6 := hid hG6'
  have hlx6 := Kx6.out.lt
  have hlt6 := Kt6.out.lt
  have hll6 := Kl6.out.lt
  have hlr6 := Kr6.out.lt
  have hgbx : gb ≠ bx := by omega
  have hgcx : gc ≠ bx := by omega
  have hgbt : gb ≠ bt := by omega
  have hgct : gc ≠ bt := by omega
  clear h6 hG6 hG6' hN3
  go_wp2_with (first
     | (
      refine wpList_store_cell rfl 31 _ _ rfl bt 0 (.slice a3 N3 c3) rfl rfl rfl rfl #[v] 31 Kt6.out (by simp) size_rowt ?_
      intro w7 hb7 hk7
      have HR7 := hid (HR6.out.trans_ (FlowB.ButIn.of_but hb7 (by simp)))
      have Kx7 := hid (hb7.blk Kx6.out (by omega))
      have Kl7 := hid (hb7.blk Kl6.out (by omega))
      have Kr7 := hid (hb7.blk Kr6.out (by omega))
      have Kt7 := hid (show Blk w7 bt #[.slice a3 N3 c3] 31 from hk7)
      have HO7 := hid (HO6.out.keptBut hb7 (by simp) hbt)
      clear hb7 hk7)
     | (refine wpList_load_blk rfl 23 _ rfl gb rfl _ 23 Kl7.out _ Tryd.underlying23 rfl 32 size_digest HX.out.size ?_)
     | (refine wpList_load_blk rfl 23 _ rfl gc rfl _ 23 Kr7.out _ Tryd.underlying23 rfl 32 size_digest HS.out.size ?_))
  refine (lonode_any x s w7 HX.out HS.out (tab_butIn Htab.out HR7.out (tab_all hgx hgt hgb_ ho0))).mono ?_
  rintro e w8 ⟨rfl, b8⟩
  have HX8 := hid (Dg.nodeL x s)
  have HR8 := hid (HR7.out.trans_ ((FlowB.rel_butIn _).of b8))
  have Kx8 := hid (Kx7.out.below b8)
  have Kt8 := hid (Kt7.out.below b8)
  have HO8 := hid (HO7.out.below b8)
  clear b8
  generalize hnd : nodeL x s = nd at *
  have HND := hid hnd
  clear hnd
  go_wp2_with (
      refine wpList_store_blk rfl 23 _ _ rfl bx (nd.map (Value.int .u8)).toArray rfl rfl _ 23 Kx8.out 32 size_digest HX.out.size HX8.out.size (ints_one _ _) ?_
      intro w9 hb9 hk9
      have HR9 := hid (HR8.out.trans_ (FlowB.ButIn.of_but hb9 (by simp)))
      have Kt9 := hid (hb9.blk Kt8.out (by omega))
      have Kx9 := hid hk9
      have HO9 := hid (HO8.out.keptBut hb9 (by simp) hbx)
      clear hb9 hk9)
  go_returns
  exact ⟨rfl, by rw [HND.out]; exact Kx9.out, _, Kt9.out, HO9.out, HR9.out⟩
set_option maxHeartbeats 4000000 in
theorem up_r (x s : List Int) (bx bt base : Nat) (v : Value) (ts : List (List Int)) (w : World) (hX : Dg x) (hs : Dg s) (kx : Blk w bx (x.map (Value.int .u8)).toArray 23) (kt : Blk w bt #[v] 31) (ho : OwnR w [bx, bt] base v ts) (hbx : bx < base) (hbt : bt < base) (hne : bx ≠ bt) (hbase : base ≤ w.heap.size) (hl : ts.length ≤ 1000) (hgx : tabLow bx) (hgt : tabLow bt) (hgb_ : tabLow base) (tab : ShaTab w) :
    Calls Tryd.prog 63 #[.agg (s.map (Value.int .u8)).toArray, .bool true, .pointer (some ⟨bx, 0, none⟩), .pointer (some ⟨bt, 0, none⟩)] w fun e w' => e = .returned (.tuple #[]) ∧ ∃ v', Blk w' bx ((nodeL s x).map (Value.int .u8)).toArray 23 ∧ Blk w' bt #[v'] 31 ∧ OwnR w' [bx, bt] base v' (ts ++ [nodeX s x]) ∧ FlowB.ButIn (bx :: bt :: v.ownBlock.toList) w w' := by
  have b1 := (Below.refl w.heap.size w).alloc (Nat.le_refl _) (.cells (s.map (Value.int .u8)).toArray 23 (0, 0))
  have Ks := hid (Blk.new (w := w) (n := w.heap.size) rfl (s.map (Value.int .u8)).toArray 23)
  have Hb := hid b1
  have hbz := b1.size
  have Hbs := hid (show w.heap.size + 1 = (w.alloc (.cells (s.map (Value.int .u8)).toArray 23 (0, 0))).heap.size by simp only [World.size_alloc])
  have Htab := hid tab
  clear b1 tab 
  have Kx := hid (kx.below Hb.out)
  have Kt := hid (kt.below Hb.out)
  have HO := hid (ho.below Hb.out)
  have hlx := kx.lt
  have hlt := kt.lt
  have HS := hid hs
  have HX := hid hX
  have ho0 := ho.from
  clear kx kt ho
  go_enter Tryd.func63, Tryd.ntmps63
  go_wp2_with fail
  have hsx : Hid ((byteCells 32 []).size = 32) := hid zsize
  refine wp_pair (by kernel_rfl) (by kernel_rfl) (fun _ _ d _ _ h => by cases d <;> exact h) _ _ _ _ _ _ rfl rfl rfl rfl rfl rfl 23 _ _ _ _ _ _ rfl rfl rfl rfl rfl rfl rfl rfl rfl rfl rfl rfl (by simp) bx (w.heap.size) (x.map (Value.int .u8)).toArray (s.map (Value.int .u8)).toArray rfl rfl _ _ Kx.out Ks.out _ Tryd.underlying23 rfl 32 size_digest HX.out.size HS.out.size (ints_one _ _) (ints_one _ _) (byteCells 32 []) hsx.out (fun A W => by go_simp; rfl) (fun A W => by go_simp; rfl) (fun b c => ⟨rfl, rfl, rfl, rfl⟩) ?_
  intro gb gc w2 hb2 hgb hgc hbc kb kc
  simp only [pairF, Act.put, List.setIfInBounds_toArray, List.set_cons_zero, List.set_cons_succ]
  have hgb1 : w.heap.size + 1 ≤ gb := by rw [Hbs.out]; exact hgb
  have hgc1 : w.heap.size + 1 ≤ gc := by rw [Hbs.out]; exact hgc
  have HG1 := hid hgb
  have HG2 := hid hgc
  have HP2 := hid hb2
  have HBw2 := hid (Below.on Hb.out hb2)
  have hsw2 := HBw2.out.size
  have Ksw2 := hid (Ks.out.below hb2)
  have Kxw2 := hid (Kx.out.below hb2)
  have Klw2 := hid kb
  have Krw2 := hid kc
  have Ktw2 := hid (Kt.out.below hb2)
  have HOw2 := hid (HO.out.below hb2)
  clear hb2 kb kc hgb hgc
  go_wp2_with fail
  have hq1 : gb ≠ bx := by omega
  have hq2 : gc ≠ bx := by omega
  have hq3 : gb ≠ w.heap.size := by omega
  have hq4 : gc ≠ w.heap.size := by omega
  have hq5 : gb ≠ gc := by omega
  refine FlowB.wp_region_butIn [gb, gc] (fun wz => Blk wz gb (x.map (Value.int .u8)).toArray 23 ∧ Blk wz gc (s.map (Value.int .u8)).toArray 23) 4 [0, 1] [] [(.c 2, [], []), (.c 3, [], [])] (by kernel_rfl) (by kernel_rfl) ⟨Klw2.out, Krw2.out⟩ (fun _ _ h hb => ⟨h.1.below hb, h.2.below hb⟩) ?_
  apply Exists.intro
  refine ⟨fun w0 hb0 hF0 => ?_, ?_⟩
  · skip
    have x0 : ∀ w', (∃ x : Ext w0, w' = x.at_) → ∃ T, Blk w' (w.heap.size) (s.map (Value.int .u8)).toArray T := fun w' ⟨x, hx⟩ => ⟨_, hx ▸ (hb0.blk Ksw2.out (by simp only [List.mem_cons, List.not_mem_nil, or_false]; omega)).below x.same⟩
    have x1 : ∀ w', (∃ x : Ext w0, w' = x.at_) → ∃ T, Blk w' bx (x.map (Value.int .u8)).toArray T := fun w' ⟨x, hx⟩ => ⟨_, hx ▸ (hb0.blk Kxw2.out (by simp only [List.mem_cons, List.not_mem_nil, or_false]; omega)).below x.same⟩
    simp only [pick, List.getElem?_toArray, List.getElem?_cons_succ, List.getElem?_cons_zero, Option.toList_some, List.cons_append, List.nil_append]
    repeat (first | (go_big_quiet_want; refine quiet_load_blk 23 _ rfl (w.heap.size) rfl _ x0 _ Tryd.underlying23 rfl 32 size_digest HS.out.size ?_; go_big_quiet_on; simp only [Act.put, List.setIfInBounds_toArray, List.set_cons_zero, List.set_cons_succ]) | (go_big_quiet_want; refine quiet_load_blk 23 _ rfl bx rfl _ x1 _ Tryd.underlying23 rfl 32 size_digest HX.out.size ?_; go_big_quiet_on; simp only [Act.put, List.setIfInBounds_toArray, List.set_cons_zero, List.set_cons_succ]) | go_big_quiet_step (fail))
    exact wpQuiet_nil rfl
  refine FlowB.AlChk.nil ?_
  refine FlowB.Walk.skips rfl (fun wz => Blk wz gb (s.map (Value.int .u8)).toArray 23 ∧ Blk wz gc (s.map (Value.int .u8)).toArray 23) (fun _ _ h hb => ⟨h.1.below hb, h.2.below hb⟩) rfl (fun w1 hb1 hF1 hG1 => ?_) ?_
  · exact FlowB.store_skips 23 _ _ rfl gb (s.map (Value.int .u8)).toArray rfl rfl _ 23 hG1.1 32 size_digest HX.out.size HS.out.size (ints_one _ _) (by simp) (fun w2 h2 h3 => ⟨h3, h2.blk hG1.2 (by omega)⟩)
  intro w1 hb1 hF1
  apply Exists.intro
  refine ⟨fun w2 hb2 hF2 => wpQuiet_nil rfl, ?_⟩
  refine FlowB.AlChk.nil ?_
  refine FlowB.Walk.skips rfl (fun wz => Blk wz gb (s.map (Value.int .u8)).toArray 23 ∧ Blk wz gc (x.map (Value.int .u8)).toArray 23) (fun _ _ h hb => ⟨h.1.below hb, h.2.below hb⟩) rfl (fun w1 hb1 hF1 hG1 => ?_) ?_
  · exact FlowB.store_skips 23 _ _ rfl gc (x.map (Value.int .u8)).toArray rfl rfl _ 23 hG1.2 32 size_digest HS.out.size HX.out.size (ints_one _ _) (by simp) (fun w2 h2 h3 => ⟨h2.blk hG1.1 (by omega), h3⟩)
  intro w1 hb1 hF1
  apply Exists.intro
  refine ⟨fun w2 hb2 hF2 => wpQuiet_nil rfl, ?_⟩
  refine FlowB.AlChk.nil ?_
  refine FlowB.Walk.fin fun w3 h3 _ hG3 => ?_
  simp only [List.drop_succ_cons, List.drop_zero]
  have hdlx := HOw2.out.lt
  have HBw3 := hid (h3.below HBw2.out HBw2.out.size (by simp only [List.mem_cons, List.not_mem_nil, or_false, forall_eq_or_imp, forall_eq]; omega))
  have hsw3 := HBw3.out.size
  have Kxw3 := hid (h3.blk Kxw2.out (by simp only [List.mem_cons, List.not_mem_nil, or_false]; omega))
  have Ktw3 := hid (h3.blk Ktw2.out (by simp only [List.mem_cons, List.not_mem_nil, or_false]; omega))
  have Klw3 := hid hG3.1
  have Krw3 := hid hG3.2
  have HOw3 := hid (HO.out.below (h3.below HP2.out HP2.out.size (by simp only [List.mem_cons, List.not_mem_nil, or_false, forall_eq_or_imp, forall_eq]; exact ⟨HG1.out, HG2.out⟩)))
  clear h3 hG3 hdlx
  simp only [Act.put]
  go_wp2_with fail
  have hos := HOw3.out.size
  have hno : ∀ n, w3.heap.size ≤ n → n ∉ v.ownBlock.toList := fun n hn hm => by have := hos n hm; omega
  have hos1 := HO.out.size
  have hngb : gb ∉ v.ownBlock.toList := fun hm => by have := hos1 gb hm; have := HG1.out; omega
  have hngc : gc ∉ v.ownBlock.toList := fun hm => by have := hos1 gc hm; have := HG2.out; omega
  have hnbx := HOw3.out.low hbx
  have hnbt := HOw3.out.low hbt
  have HNO := hid hno
  have hbs : base ≤ w3.heap.size := Nat.le_trans hbase HBw3.out.size
  clear hos hos1 hno
  refine FlowB.wp_region_butIn v.ownBlock.toList (fun wz => OwnR wz [bx, bt] base v ts) 7 [0, 1, 2] [3] [(.b 3, [], []), (.c 4, [], [5]), (.b 5, [], []), (.c 6, [], [])] (by kernel_rfl) (by kernel_rfl) HOw3.out (fun _ _ h hb => h.below hb) ?_
  apply Exists.intro
  refine ⟨fun w0 hb0 hF0 => ?_, ?_⟩
  · skip
    have y0 : ∀ w', (∃ x : Ext w0, w' = x.at_) → w'.cell? ⟨bt, 0, none⟩ = some v := fun w' ⟨e, he⟩ => by rw [he, ((hb0.blk Ktw3.out hnbt).below e.same).cell]; rfl
    simp only [pick, List.getElem?_toArray, List.getElem?_cons_succ, List.getElem?_cons_zero, Option.toList_some, List.cons_append, List.nil_append]
    repeat (first | (go_big_quiet_want; refine quiet_load_one 31 _ rfl ⟨bt, 0, none⟩ rfl _ y0 _ Tryd.underlying31 rfl ?_; go_big_quiet_on; simp only [Act.put, List.setIfInBounds_toArray, List.set_cons_zero, List.set_cons_succ]) | go_big_quiet_step (fail))
    exact wpQuiet_nil rfl
  refine FlowB.AlChk.one rfl (fun b => .slice (some ⟨b, 0, none⟩) 2 2) (.cells #[.slice (some ⟨gb, 0, none⟩) 32 32, .slice (some ⟨gc, 0, none⟩) 32 32] 29 (0, 0)) rfl (FlowB.st_butIn _ HOw3.out.size) (fun w2 hb2 hF2 => by go_simp) ?_
  refine FlowB.AlChk.nil ?_
  refine FlowB.Walk.blk rfl (fun b => .slice (some ⟨b, 0, none⟩) 2 2) (.cells #[.slice (some ⟨gb, 0, none⟩) 32 32, .slice (some ⟨gc, 0, none⟩) 32 32] 29 (0, 0)) (by simp) ?_
  intro b9 w9 hb9 hF9 hge9 _
  apply Exists.intro
  refine ⟨fun w3 hb3 hF3 => wpQuiet_nil rfl, ?_⟩
  refine FlowB.AlChk.nil ?_
  refine FlowB.Walk.call rfl 34 #[.int .u8 1, .slice (some ⟨b9, 0, none⟩) 2 2] (fun v' wz => ∃ ta tl tc, v' = .slice ta tl tc ∧ TextAt wz ta tl tc (nodeX s x) ∧ ∀ p : Addr, ta = some p → w3.heap.size ≤ p.block) (fun _ wz => OwnR wz [bx, bt] base v ts) (fun v' w' w'' _ h hR => by
    obtain ⟨ta, tl, tc, rfl, h1, h2⟩ := h
    exact ⟨ta, tl, tc, rfl, h1.butIn (fun p hp => HNO.out p.block (h2 p hp)) hR, h2⟩) (fun _ _ _ h k => h.below k) rfl (fun w1 hb1 hF1 hG1 => ⟨by go_simp, ?_⟩) ?_
  · have k9 : Blk w1 b9 #[.slice (some ⟨gb, 0, none⟩) 32 32, .slice (some ⟨gc, 0, none⟩) 32 32] 29 := hF1.2
    have kl := hb1.blk Klw3.out hngb
    have kr := hb1.blk Krw3.out hngc
    have hs := joined_any 1 (some ⟨b9, 0, none⟩) 2 2 [s, x] w1 (by omega) (TextsAt.of_blk k9 rfl (Nat.le_refl _) (by omega) fun j hj => by
      match j, hj with
      | 0, _ => exact ⟨_, _, _, rfl, HS.out.text kl⟩
      | 1, _ => exact ⟨_, _, _, rfl, HX.out.text kr⟩) (by simp only [sumLen, List.map_cons, List.map_nil, List.sum_cons, List.sum_nil, HS.out.len, HX.out.len]; omega)
    refine hs.mono ?_
    rintro e w' ⟨v', rfl, b, ho'⟩
    rw [show ([1] : List Int) ++ ([s, x] : List (List Int)).flatten = nodeX s x by simp [nodeX]] at ho'
    obtain ⟨ta, tc, rfl, q1, q2⟩ := ho'.text2
    exact ⟨_, rfl, (FlowB.rel_butIn _).of b, ⟨ta, _, tc, rfl, q1, fun p hp => Nat.le_trans hb1.size (q2 p hp).1⟩, hG1.below b⟩
  rintro vt w1 hb1 hF1 ⟨ta, tl, tc, rfl, _⟩
  apply Exists.intro
  refine ⟨fun w3 hb3 hF3 => wpQuiet_nil rfl, ?_⟩
  refine FlowB.AlChk.one rfl (fun b => .slice (some ⟨b, 0, none⟩) 1 1) (.cells #[.slice ta tl tc] 29 (0, 0)) rfl (FlowB.st_butIn _ HOw3.out.size) (fun w2 hb2 hF2 => by go_simp) ?_
  refine FlowB.AlChk.nil ?_
  refine FlowB.Walk.blk rfl (fun b => .slice (some ⟨b, 0, none⟩) 1 1) (.cells #[.slice ta tl tc] 29 (0, 0)) (by simp) ?_
  intro b5 w5 hb5 hF5 hge5 _
  apply Exists.intro
  refine ⟨fun w3 hb3 hF3 => wpQuiet_nil rfl, ?_⟩
  refine FlowB.AlChk.nil ?_
  refine FlowB.Walk.does rfl (fun _ _ => True) (fun v' wz => OwnR wz [bx, bt] base v' (ts ++ [nodeX s x])) (fun _ _ _ _ h _ => h) (fun v w' w'' h k => h.below k) rfl (fun w1 hb1 hF1 hG1 => ?_) ?_
  · have k5 : Blk w1 b5 #[.slice ta tl tc] 29 := hF1.2
    obtain ⟨ta', tl', tc', he, h1, h2⟩ := hF1.1.2
    cases he
    obtain ⟨v', w', r1, r2, r3, r4⟩ := run_append_t hG1 k5 h1 (fun _ p hp => ⟨fun e => HNO.out p.block (h2 p hp) (by simpa using e), by have := h2 p hp; simp only [List.mem_cons, List.not_mem_nil, or_false]; omega⟩) (by omega) (Nat.le_trans hbs hb1.size)
    exact ⟨v', w', FlowB.exec_append rfl rfl rfl r1, FlowB.ButIn.of_grown r3, trivial, r2⟩
  rintro v3 w33 hb33 hF33 _
  apply Exists.intro
  refine ⟨fun w3 hb3 hF3 => wpQuiet_nil rfl, ?_⟩
  refine FlowB.AlChk.nil ?_
  refine FlowB.Walk.fin fun w6 h6 _ hG6 => ?_
  simp only [List.drop_succ_cons, List.drop_zero]
  have HR6 := hid (((FlowB.rel_butIn (bx :: bt :: v.ownBlock.toList)).of HBw3.out : FlowB.ButIn (bx :: bt :: v.ownBlock.toList) w w3).trans_ (h6.wide (fun x hx => List.mem_cons_of_mem _ (List.mem_cons_of_mem _ hx))))
  have Kx6 := hid (h6.blk Kxw3.out hnbx)
  have Kt6 := hid (h6.blk Ktw3.out hnbt)
  have Kl6 := hid (h6.blk Klw3.out hngb)
  have Kr6 := hid (h6.blk Krw3.out hngc)
  have hG6' : OwnR w6 [bx, bt] base v3 (ts ++ [nodeX s x]) := hG6
  obtain ⟨a3, c3, rfl, -⟩ := hG6'.texts
  obtain ⟨N3, hN3⟩ : ∃ N, N = (ts ++ [nodeX s x]).length := ⟨_, rfl⟩
  rw [← hN3] at hG6' ⊢
  have HO6 := hid hG6'
  have hlx6 := Kx6.out.lt
  have hlt6 := Kt6.out.lt
  have hll6 := Kl6.out.lt
  have hlr6 := Kr6.out.lt
  have hgbx : gb ≠ bx := by omega
  have hgcx : gc ≠ bx := by omega
  have hgbt : gb ≠ bt := by omega
  have hgct : gc ≠ bt := by omega
  clear h6 hG6 hG6' hN3
  go_wp2_with (first
     | (
      refine wpList_store_cell rfl 31 _ _ rfl bt 0 (.slice a3 N3 c3) rfl rfl rfl rfl #[v] 31 Kt6.out (by simp) size_rowt ?_
      intro w7 hb7 hk7
      have HR7 := hid (HR6.out.trans_ (FlowB.ButIn.of_but hb7 (by simp)))
      have Kx7 := hid (hb7.blk Kx6.out (by omega))
      have Kl7 := hid (hb7.blk Kl6.out (by omega))
      have Kr7 := hid (hb7.blk Kr6.out (by omega))
      have Kt7 := hid (show Blk w7 bt #[.slice a3 N3 c3] 31 from hk7)
      have HO7 := hid (HO6.out.keptBut hb7 (by simp) hbt)
      clear hb7 hk7)
     | (refine wpList_load_blk rfl 23 _ rfl gb rfl _ 23 Kl7.out _ Tryd.underlying23 rfl 32 size_digest HS.out.size ?_)
     | (refine wpList_load_blk rfl 23 _ rfl gc rfl _ 23 Kr7.out _ Tryd.underlying23 rfl 32 size_digest HX.out.size ?_))
  refine (lonode_any s x w7 HS.out HX.out (tab_butIn Htab.out HR7.out (tab_all hgx hgt hgb_ ho0))).mono ?_
  rintro e w8 ⟨rfl, b8⟩
  have HX8 := hid (Dg.nodeL s x)
  have HR8 := hid (HR7.out.trans_ ((FlowB.rel_butIn _).of b8))
  have Kx8 := hid (Kx7.out.below b8)
  have Kt8 := hid (Kt7.out.below b8)
  have HO8 := hid (HO7.out.below b8)
  clear b8
  generalize hnd : nodeL s x = nd at *
  have HND := hid hnd
  clear hnd
  go_wp2_with (
      refine wpList_store_blk rfl 23 _ _ rfl bx (nd.map (Value.int .u8)).toArray rfl rfl _ 23 Kx8.out 32 size_digest HX.out.size HX8.out.size (ints_one _ _) ?_
      intro w9 hb9 hk9
      have HR9 := hid (HR8.out.trans_ (FlowB.ButIn.of_but hb9 (by simp)))
      have Kt9 := hid (hb9.blk Kt8.out (by omega))
      have Kx9 := hid hk9
      have HO9 := hid (HO8.out.keptBut hb9 (by simp) hbx)
      clear hb9 hk9)
  go_returns
  exact ⟨rfl, by rw [HND.out]; exact Kx9.out, _, Kt9.out, HO9.out, HR9.out⟩
end Go.Proofs.YtkakoiaahgchmaaDoor
