/-
  Layer 19: halves, leaves and nodes of a log, by the program and by the reference.
-/
import Derived.Test.YthaicocfbmpnmaaDoorLPWots
import Derived.Test.YthaicocfbmpnmaaDoorLNShaRefSum
import Derived.Test.YthaicocfbmpnmaaDoorLMFrame
namespace Go.Proofs.YthaicocfbmpnmaaDoor
open Go.ChangeShapes Go.WideShapes Go.ChangeAt Go.RowKit

/-- The greatest power of two below a number. -/
def halfN (n : Nat) : Nat := 2 ^ Nat.log2 (n - 1)
theorem halfN_two : halfN 2 = 1 := by decide
theorem halfN_step {n : Nat} (h : 2 < n) : halfN n = 2 * halfN ((n + 1) / 2) := by
  unfold halfN
  rw [show (n + 1) / 2 - 1 = (n - 1) / 2 by omega]
  have : Nat.log2 (n - 1) = Nat.log2 ((n - 1) / 2) + 1 := by
    rw [Nat.log2_def, if_pos (by omega)]
  rw [this, Nat.pow_succ, Nat.mul_comm]
theorem halfN_lt {n : Nat} (h : 2 ≤ n) : 1 ≤ halfN n ∧ halfN n < n := by
  have h1 := Nat.log2_self_le (n := n - 1) (by omega)
  have h2 := Nat.pow_pos (n := Nat.log2 (n - 1)) (show 0 < 2 by omega)
  unfold halfN
  omega
/-- What a text's leaf is. -/
@[irreducible] def leafL (m : List Int) : List Int := sumZ (0 :: m)
/-- What the node above two is. -/
@[irreducible] def nodeL (a b : List Int) : List Int := sumZ (1 :: (a ++ b))
theorem Dg.leafL (m : List Int) : Dg (leafL m) := by unfold Go.Proofs.YthaicocfbmpnmaaDoor.leafL; exact Dg.sum _
theorem Dg.nodeL (a b : List Int) : Dg (nodeL a b) := by unfold Go.Proofs.YthaicocfbmpnmaaDoor.nodeL; exact Dg.sum _
/-- A log's root: so many calls are enough. -/
def rootL : Nat → List (List Int) → List Int
  | 0, _ => zD
  | f + 1, ts => if ts.length = 0 then zD else if ts.length = 1 then leafL (ts.getD 0 []) else nodeL (rootL f (ts.take (halfN ts.length))) (rootL f (ts.drop (halfN ts.length)))
theorem Dg.rootL : ∀ (f : Nat) (ts : List (List Int)), Dg (rootL f ts)
  | 0, _ => Dg.zero
  | f + 1, ts => by
    unfold Go.Proofs.YthaicocfbmpnmaaDoor.rootL
    split
    · exact Dg.zero
    · split
      · exact Dg.leafL _
      · exact Dg.nodeL _ _
theorem rootL_nil (f : Nat) {ts : List (List Int)} (h : ts.length = 0) : rootL f ts = zD := by
  cases f with
  | zero => rfl
  | succ f => unfold rootL; rw [if_pos h]
theorem rootL_one (f : Nat) {ts : List (List Int)} (h : ts.length = 1) : rootL (f + 1) ts = leafL (ts.getD 0 []) := by
  unfold rootL; rw [if_neg (by omega), if_pos h]
theorem rootL_many (f : Nat) {ts : List (List Int)} (h : 2 ≤ ts.length) : rootL (f + 1) ts = nodeL (rootL f (ts.take (halfN ts.length))) (rootL f (ts.drop (halfN ts.length))) := by
  rw [rootL, if_neg (by omega), if_neg (by omega)]
/-- where a part of a row of texts begins -/
def cutS (a : Option Addr) (l cap : Nat) : Option Addr := if cap = l then a else a.map (·.add (l * 1))
theorem TextsAt.drop {w : World} {a : Option Addr} {len cap : Nat} {ts : List (List Int)} (h : TextsAt w a len cap ts) (k : Nat) (hk : k ≤ len) : TextsAt w (cutS a k cap) (len - k) (cap - k) (ts.drop k) := by
  obtain ⟨h1, h2, h3, h4⟩ := h
  refine ⟨by simp; omega, by omega, by omega, ?_⟩
  rcases Nat.eq_or_lt_of_le hk with rfl | hlt
  · exact .inl (by omega)
  · rcases h4 with h4 | ⟨x, o, rfl, hx, hc⟩
    · omega
    · unfold cutS
      rw [if_neg (by omega)]
      refine .inr ⟨x, o + k * 1, by rw [Option.map_some, Addr.add_mid], hx, fun j hj => ?_⟩
      obtain ⟨a', l', c', q1, q2⟩ := hc (k + j) (by omega)
      rw [show o + k * 1 + j = o + (k + j) by omega, show (ts.drop k).getD j [] = ts.getD (k + j) [] by simp [List.getD_eq_getElem?_getD]]
      exact ⟨a', l', c', q1, q2⟩
theorem sumLen_takes (ts : List (List Int)) (k : Nat) : sumLen (ts.take k) ≤ sumLen ts := by
  unfold sumLen
  induction ts generalizing k with
  | nil => simp
  | cons t ts ih =>
    cases k with
    | zero => simp
    | succ k => simp only [List.take_succ_cons, List.map_cons, List.sum_cons]; have := ih k; omega
theorem sumLen_drop (ts : List (List Int)) (k : Nat) : sumLen (ts.drop k) ≤ sumLen ts := by
  unfold sumLen
  induction ts generalizing k with
  | nil => simp
  | cons t ts ih =>
    cases k with
    | zero => simp
    | succ k => simp only [List.drop_succ_cons, List.map_cons, List.sum_cons]; have := ih k; omega
theorem sumLen_at {ts : List (List Int)} (j : Nat) : (ts.getD j []).length ≤ sumLen ts := by
  unfold sumLen
  induction ts generalizing j with
  | nil => simp
  | cons t ts ih =>
    cases j with
    | zero => simp
    | succ j => simp only [List.getD_cons_succ, List.map_cons, List.sum_cons]; have := ih j; omega
theorem size_texts : (Tryd.prog.info? 67).map (·.size) = some 1 := by kernel_rfl
theorem run_cuts_l (a : Option Addr) (len cap : Nat) (l : Nat) (w : World) (h1 : l ≤ len) :
    (Instr.slice 58 (.slice a len cap) (some (.int .i64 l)) none none).run Tryd.prog w = .ok (.slice (cutS a l cap) (len - l) (cap - l)) w := by
  have ht : Tryd.prog.underlying 58 = some (.slice 67) := Tryd.underlying58
  have he : Tryd.prog.elem 58 = 67 := by simp [Program.elem, ht]
  rw [run_slice_l (w := w) 58 a len cap (by rw [he]; exact ht) _ (l : Int) (by omega) (by omega)]
  obtain ⟨i, hi1, hi2⟩ := Option.map_eq_some_iff.1 size_texts
  simp [sizeOf, typeInfo, he, hi1, hi2, sliced, cutS]
theorem cutS_zero (a : Option Addr) (cap : Nat) : cutS a 0 cap = a := by
  unfold cutS
  split
  · rfl
  · cases a with
    | none => rfl
    | some a => obtain ⟨x, o, s⟩ := a; cases s <;> simp [Addr.add]
theorem run_cuts_h (a : Option Addr) (len cap : Nat) (l : Nat) (w : World) (h1 : l ≤ cap) :
    (Instr.slice 58 (.slice a len cap) none (some (.int .i64 l)) none).run Tryd.prog w = .ok (.slice a l cap) w := by
  have ht : Tryd.prog.underlying 58 = some (.slice 67) := Tryd.underlying58
  have he : Tryd.prog.elem 58 = 67 := by simp [Program.elem, ht]
  rw [run_slice_h (w := w) 58 a len cap (by rw [he]; exact ht) _ (l : Int) (by omega) (by omega)]
  obtain ⟨i, hi1, hi2⟩ := Option.map_eq_some_iff.1 size_texts
  have := cutS_zero a cap
  unfold cutS at this
  simp only [Nat.zero_mul] at this
  simp [sizeOf, typeInfo, he, hi1, hi2, sliced, this]

set_option maxHeartbeats 4000000 in
set_option maxRecDepth 100000 in
theorem loleaf_any (ta : Option Addr) (tn tc : Nat) (m : List Int) (w : World) (hT : TextAt w ta tn tc m) (hn : tn ≤ 1000000000000000) (tab : ShaTab w) :
    Calls Tryd.prog 61 #[.slice ta tn tc] w fun e w' => e = .returned (.agg ((leafL m).map (Value.int .u8)).toArray) ∧ Below w.heap.size w w' := by
  have hTl := hT.length
  have CS := hid (fun (W : World) (g g0 : Nat) (h : Blk W g #[.slice (some ⟨g0, 0, none⟩) 1 1, .slice ta tn tc] 67) (h0 : Blk W g0 (([0] : List Int).map (Value.int .u8)).toArray 5) (ht : TextAt W ta tn tc m) (t : ShaTab W) => sum_any (some ⟨g, 0, none⟩) 2 2 [[0], m] W (TextsAt.of_blk h rfl (Nat.le_refl _) (by omega) fun j hj => by
    match j, hj with
    | 0, _ => exact ⟨_, _, _, rfl, TextAt.of_ints h0 rfl (by omega) (by simp)⟩
    | 1, _ => exact ⟨_, _, _, rfl, ht⟩) (by simp only [sumLen, List.map_cons, List.map_nil, List.sum_cons, List.sum_nil, List.length_cons, List.length_nil]; omega) t)
  have HX := hid (Dg.leafL m)
  rw [show ([[0], m] : List (List Int)).flatten = 0 :: m by simp, show sumZ (0 :: m) = leafL m by unfold leafL; rfl] at CS
  generalize leafL m = X at *
  have b1 := (Below.refl w.heap.size w).alloc (Nat.le_refl _) (.cells (byteCells 32 []) 23 (0, 0))
  have Kr := hid (Blk.new (w := w) (n := w.heap.size) rfl (byteCells 32 []) 23)
  have Hb := hid b1
  have hbz := b1.size
  have Hbs := hid (show w.heap.size + 1 = (w.alloc (.cells (byteCells 32 []) 23 (0, 0))).heap.size by simp only [World.size_alloc])
  have Htab := hid tab
  clear b1 tab 
  go_enter Tryd.func61, Tryd.ntmps61
  go_wp2_with fail
  have c1 := Hb.out.alloc Hb.out.size (.cells #[.int .u8 0] 5 (0, 0))
  have c2 := c1.alloc c1.size (.cells #[.slice (some ⟨w.heap.size + 1, 0, none⟩) 1 1, .slice ta tn tc] 67 (0, 0))
  have k1 : Blk (((w.alloc (.cells (byteCells 32 []) 23 (0, 0))).alloc (.cells #[.int .u8 0] 5 (0, 0))).alloc (.cells #[.slice (some ⟨w.heap.size + 1, 0, none⟩) 1 1, .slice ta tn tc] 67 (0, 0))) (w.heap.size + 1) (([0] : List Int).map (Value.int .u8)).toArray 5 := (Blk.new (w := (w.alloc (.cells (byteCells 32 []) 23 (0, 0)))) (n := w.heap.size + 1) (by simp only [World.size_alloc]) #[.int .u8 0] 5).old (.cells #[.slice (some ⟨w.heap.size + 1, 0, none⟩) 1 1, .slice ta tn tc] 67 (0, 0))
  have k2 : Blk (((w.alloc (.cells (byteCells 32 []) 23 (0, 0))).alloc (.cells #[.int .u8 0] 5 (0, 0))).alloc (.cells #[.slice (some ⟨w.heap.size + 1, 0, none⟩) 1 1, .slice ta tn tc] 67 (0, 0))) (w.heap.size + 1 + 1) #[.slice (some ⟨w.heap.size + 1, 0, none⟩) 1 1, .slice ta tn tc] 67 := Blk.new (w := (w.alloc (.cells (byteCells 32 []) 23 (0, 0))).alloc (.cells #[.int .u8 0] 5 (0, 0))) (n := w.heap.size + 1 + 1) (by simp only [World.size_alloc]) _ _
  have kr := (Kr.out.old (.cells #[.int .u8 0] 5 (0, 0))).old (.cells #[.slice (some ⟨w.heap.size + 1, 0, none⟩) 1 1, .slice ta tn tc] 67 (0, 0))
  refine (CS.out _ _ _ k2 k1 (hT.below c2) (Htab.out.below c2)).mono ?_
  rintro e w5 ⟨rfl, b5⟩
  have HBw5 := hid (Below.on c2 b5)
  have Krw5 := hid (kr.below b5)
  clear c1 c2 k1 k2 kr b5
  go_wp2_with (
      refine wpList_store_blk rfl 23 _ _ rfl (w.heap.size) (X.map (Value.int .u8)).toArray rfl rfl _ 23 Krw5.out 32 size_digest zsize HX.out.size (ints_one _ _) ?_
      intro w9 hb9 hk9
      have HB9 := hid (hb9.below HBw5.out HBw5.out.size (by omega))
      have HK9 := hid hk9
      clear hb9 hk9)
  exact bodyPost_ret (v := .agg (X.map (Value.int .u8)).toArray) (results_blk Tryd.results61 _ (w.heap.size) rfl _ 23 HK9.out _ Tryd.underlying23 rfl 32 size_digest HX.out.size) rfl ⟨rfl, HB9.out⟩

set_option maxHeartbeats 4000000 in
set_option maxRecDepth 100000 in
theorem lonode_any (a b : List Int) (w : World) (ha : Dg a) (hb_ : Dg b) (tab : ShaTab w) :
    Calls Tryd.prog 17 #[.agg (a.map (Value.int .u8)).toArray, .agg (b.map (Value.int .u8)).toArray] w fun e w' => e = .returned (.agg ((nodeL a b).map (Value.int .u8)).toArray) ∧ Below w.heap.size w w' := by
  have CS := hid (fun (W : World) (g g0 : Nat) (h : Blk W g #[.slice (some ⟨g0, 0, none⟩) 1 1, .slice (some ⟨w.heap.size, 0, none⟩) 32 32, .slice (some ⟨w.heap.size + 1, 0, none⟩) 32 32] 67) (h0 : Blk W g0 (([1] : List Int).map (Value.int .u8)).toArray 5) (ka : Blk W w.heap.size (a.map (Value.int .u8)).toArray 23) (kb : Blk W (w.heap.size + 1) (b.map (Value.int .u8)).toArray 23) (t : ShaTab W) => sum_any (some ⟨g, 0, none⟩) 3 3 [[1], a, b] W (TextsAt.of_blk h rfl (Nat.le_refl _) (by omega) fun j hj => by
    match j, hj with
    | 0, _ => exact ⟨_, _, _, rfl, TextAt.of_ints h0 rfl (by omega) (by simp)⟩
    | 1, _ => exact ⟨_, _, _, rfl, ha.text ka⟩
    | 2, _ => exact ⟨_, _, _, rfl, hb_.text kb⟩) (by simp only [sumLen, List.map_cons, List.map_nil, List.sum_cons, List.sum_nil, List.length_cons, List.length_nil, ha.len, hb_.len]; omega) t)
  have HX := hid (Dg.nodeL a b)
  rw [show ([[1], a, b] : List (List Int)).flatten = 1 :: (a ++ b) by simp, show sumZ (1 :: (a ++ b)) = nodeL a b by unfold nodeL; rfl] at CS
  generalize nodeL a b = X at *
  have b1 := (Below.refl w.heap.size w).alloc (Nat.le_refl _) (.cells (a.map (Value.int .u8)).toArray 23 (0, 0))
  have b2 := b1.alloc b1.size (.cells (b.map (Value.int .u8)).toArray 23 (0, 0))
  have b3 := b2.alloc b2.size (.cells (byteCells 32 []) 23 (0, 0))
  have Ka := hid (((Blk.new (w := w) (n := w.heap.size) rfl (a.map (Value.int .u8)).toArray 23).old (.cells (b.map (Value.int .u8)).toArray 23 (0, 0))).old (.cells (byteCells 32 []) 23 (0, 0)))
  have Kb := hid ((Blk.new (w := (w.alloc (.cells (a.map (Value.int .u8)).toArray 23 (0, 0)))) (n := w.heap.size + 1) (by simp only [World.size_alloc]) (b.map (Value.int .u8)).toArray 23).old (.cells (byteCells 32 []) 23 (0, 0)))
  have Kr := hid (Blk.new (w := ((w.alloc (.cells (a.map (Value.int .u8)).toArray 23 (0, 0))).alloc (.cells (b.map (Value.int .u8)).toArray 23 (0, 0)))) (n := w.heap.size + 1 + 1) (by simp only [World.size_alloc]) (byteCells 32 []) 23)
  have Hb := hid b3
  have hbz := b3.size
  have Hbs := hid (show w.heap.size + 1 + 1 + 1 = (((w.alloc (.cells (a.map (Value.int .u8)).toArray 23 (0, 0))).alloc (.cells (b.map (Value.int .u8)).toArray 23 (0, 0))).alloc (.cells (byteCells 32 []) 23 (0, 0))).heap.size by simp only [World.size_alloc])
  have Htab := hid tab
  clear b1 b2 b3 tab 
  go_enter Tryd.func17, Tryd.ntmps17
  go_wp2_with fail
  refine wp_region_flow 5 [1, 2] [0] [(.b 0, [], [3]), (.b 3, [4], [])] (by kernel_rfl) (by kernel_rfl) ?_
  apply Exists.intro
  refine ⟨fun w0 hb0 hF0 => ?_, ?_⟩
  · skip
    simp only [pick, List.getElem?_toArray, List.getElem?_cons_succ, List.getElem?_cons_zero, Option.toList_some, List.cons_append, List.nil_append]
    repeat (first | go_big_quiet_step (fail))
    exact wpQuiet_nil rfl
  refine AlChk.one rfl (fun b => .slice (some ⟨b, 0, none⟩) 1 1) (.cells #[.int .u8 1] 5 (0, 0)) rfl (fun w3 hb3 hF3 => by go_simp) ?_
  refine AlChk.nil ?_
  refine Walk.blk rfl (fun b => .slice (some ⟨b, 0, none⟩) 1 1) (.cells #[.int .u8 1] 5 (0, 0)) (by simp) ?_
  intro b8 w1 hb1 hF1 hge1 _
  apply Exists.intro
  refine ⟨fun w2 hb2 hF2 => wpQuiet_nil rfl, ?_⟩
  refine AlChk.one rfl (fun b => .slice (some ⟨b, 0, none⟩) 3 3) (.cells #[.slice (some ⟨b8, 0, none⟩) 1 1, .slice (some ⟨w.heap.size, 0, none⟩) 32 32, .slice (some ⟨w.heap.size + 1, 0, none⟩) 32 32] 67 (0, 0)) rfl (fun w3 hb3 hF3 => by go_simp) ?_
  refine AlChk.nil ?_
  refine Walk.blk rfl (fun b => .slice (some ⟨b, 0, none⟩) 3 3) (.cells #[.slice (some ⟨b8, 0, none⟩) 1 1, .slice (some ⟨w.heap.size, 0, none⟩) 32 32, .slice (some ⟨w.heap.size + 1, 0, none⟩) 32 32] 67 (0, 0)) (by simp) ?_
  intro b9 w2 hb2 hF2 hge2 _
  apply Exists.intro
  refine ⟨fun w0 hb0 hF0 => ?_, ?_⟩
  · have k9 : Blk w0 b9 #[.slice (some ⟨b8, 0, none⟩) 1 1, .slice (some ⟨w.heap.size, 0, none⟩) 32 32, .slice (some ⟨w.heap.size + 1, 0, none⟩) 32 32] 67 := hF0.2
    have k8 : Blk w0 b8 (([1] : List Int).map (Value.int .u8)).toArray 5 := hF0.1.2
    have hs := fun e : Ext w0 => CS.out e.at_ b9 b8 (k9.below e.same) (k8.below e.same) ((Ka.out.below hb0).below e.same) ((Kb.out.below hb0).below e.same) ((Htab.out.below (Below.on Hb.out hb0)).below e.same)
    simp only [pick, List.getElem?_toArray, List.getElem?_cons_succ, List.getElem?_cons_zero, Option.toList_some, List.cons_append, List.nil_append, Act.put, List.setIfInBounds_toArray, List.set_cons_zero, List.set_cons_succ]
    repeat (go_big_quiet_step (first | (go_at_call 46; exact Calls.ext (hs _))))
    exact wpQuiet_nil rfl
  refine AlChk.nil ?_
  refine Walk.fin fun w4 h4 _ _ => ?_
  simp only [List.drop_succ_cons, List.drop_zero]
  have HBw4 := hid (Below.on Hb.out h4)
  have hsw4 := HBw4.out.size
  have Kaw4 := hid (Ka.out.below h4)
  have Kbw4 := hid (Kb.out.below h4)
  have Krw4 := hid (Kr.out.below h4)
  clear h4
  go_wp2_with (
      refine wpList_store_blk rfl 23 _ _ rfl (w.heap.size + 1 + 1) (X.map (Value.int .u8)).toArray rfl rfl _ 23 Krw4.out 32 size_digest zsize HX.out.size (ints_one _ _) ?_
      intro w9 hb9 hk9
      have HB9 := hid (hb9.below HBw4.out HBw4.out.size (by omega))
      have HK9 := hid hk9
      clear hb9 hk9)
  exact bodyPost_ret (v := .agg (X.map (Value.int .u8)).toArray) (results_blk Tryd.results17 _ (w.heap.size + 1 + 1) rfl _ 23 HK9.out _ Tryd.underlying23 rfl 32 size_digest HX.out.size) rfl ⟨rfl, HB9.out⟩

set_option maxHeartbeats 4000000 in
set_option maxRecDepth 100000 in
theorem refnode_any (a b : List Int) (w : World) (ha : Dg a) (hb_ : Dg b) :
    Calls Tryd.prog 18 #[.agg (a.map (Value.int .u8)).toArray, .agg (b.map (Value.int .u8)).toArray] w fun e w' => e = .returned (.agg ((nodeL a b).map (Value.int .u8)).toArray) ∧ Below w.heap.size w w' := by
  have CS := hid (fun (x : Option Addr) (c : Nat) (W : World) (h : TextAt W x 65 c (1 :: (a ++ b))) => refsum_any x 65 c (1 :: (a ++ b)) W h (by omega))
  have HX := hid (Dg.nodeL a b)
  rw [show sumZ (1 :: (a ++ b)) = nodeL a b by unfold nodeL; rfl] at CS
  generalize nodeL a b = X at *
  have b1 := (Below.refl w.heap.size w).alloc (Nat.le_refl _) (.cells (a.map (Value.int .u8)).toArray 23 (0, 0))
  have b2 := b1.alloc b1.size (.cells (b.map (Value.int .u8)).toArray 23 (0, 0))
  have b3 := b2.alloc b2.size (.cells (byteCells 32 []) 23 (0, 0))
  have Ka := hid (((Blk.new (w := w) (n := w.heap.size) rfl (a.map (Value.int .u8)).toArray 23).old (.cells (b.map (Value.int .u8)).toArray 23 (0, 0))).old (.cells (byteCells 32 []) 23 (0, 0)))
  have Kb := hid ((Blk.new (w := (w.alloc (.cells (a.map (Value.int .u8)).toArray 23 (0, 0)))) (n := w.heap.size + 1) (by simp only [World.size_alloc]) (b.map (Value.int .u8)).toArray 23).old (.cells (byteCells 32 []) 23 (0, 0)))
  have Kr := hid (Blk.new (w := ((w.alloc (.cells (a.map (Value.int .u8)).toArray 23 (0, 0))).alloc (.cells (b.map (Value.int .u8)).toArray 23 (0, 0)))) (n := w.heap.size + 1 + 1) (by simp only [World.size_alloc]) (byteCells 32 []) 23)
  have Hb := hid b3
  have hbz := b3.size
  have Hbs := hid (show w.heap.size + 1 + 1 + 1 = (((w.alloc (.cells (a.map (Value.int .u8)).toArray 23 (0, 0))).alloc (.cells (b.map (Value.int .u8)).toArray 23 (0, 0))).alloc (.cells (byteCells 32 []) 23 (0, 0))).heap.size by simp only [World.size_alloc])
  clear b1 b2 b3 
  go_enter Tryd.func18, Tryd.ntmps18
  go_wp2_with fail
  have HBB : Hid (w.heap.size + 1 + 1 + 1 ≤ (((w.alloc (.cells (a.map (Value.int .u8)).toArray 23 (0, 0))).alloc (.cells (b.map (Value.int .u8)).toArray 23 (0, 0))).alloc (.cells (byteCells 32 []) 23 (0, 0))).heap.size) := hid (Nat.le_of_eq Hbs.out)
  obtain ⟨i0, hi, hz0, hz1, hz2⟩ := info_parts info_byte
  refine FlowB.wp_region_typed (w.heap.size + 1 + 1 + 1) 5 4 [1, 3] [] [(.c 0, [], []), (.c 2, [], [])] (by kernel_rfl) (by kernel_rfl) ?_
  apply Exists.intro
  refine ⟨fun w0 hb0 hF0 => ?_, ?_⟩
  · simp only [pick, List.getElem?_toArray, List.getElem?_cons_succ, List.getElem?_cons_zero, Option.toList_some, List.cons_append, List.nil_append]
    repeat (go_big_quiet_step (fail))
    exact wpQuiet_nil rfl
  refine FlowB.AlChk.nil ?_
  refine FlowB.Walk.does rfl (fun _ _ => True) (fun v w' => OwnB w' (w.heap.size + 1 + 1 + 1) 5 v [1]) (fun v w' w'' _ h _ => h) (fun v w' w'' h k => h.below k) rfl (fun w5 hb5 hF5 _ => ?_) ?_
  · exact ⟨.slice (some ⟨w5.heap.size, 0, none⟩) 1 1, w5.alloc (.cells (([1] : List Int).map (Value.int .u8)).toArray 5), by first | (go_simp; done) | (go_simp; rfl), (FlowB.rel_typed _ _).of ((Below.refl _ _).alloc (Nat.le_refl _) _), trivial, OwnB.of_blk (Blk.new rfl _ _) (Nat.le_trans HBB.out hb5.size) rfl (by omega) (by simp)⟩
  rintro vl w5 hb5 hF5 _
  apply Exists.intro
  refine ⟨fun w4 hb4 hF4 => wpQuiet_nil rfl, ?_⟩
  refine FlowB.AlChk.nil ?_
  refine FlowB.Walk.does rfl (fun _ _ => True) (fun v w' => OwnB w' (w.heap.size + 1 + 1 + 1) 5 v ([1] ++ a)) (fun v w' w'' _ h _ => h) (fun v w' w'' h k => h.below k) rfl (fun w2 hb2 hF2 hG2 => ?_) ?_
  · have hbB := hb2.below (B := w.heap.size + 1 + 1 + 1) HBB.out
    obtain ⟨v', w', hr, q2, q3, q4⟩ := run_append_text (P := Tryd.prog) 67 Tryd.underlying67 hi hz0 hz1 hz2 hG2 (ha.text (Ka.out.belowB (by omega) hbB)) (by simp) (Nat.le_trans HBB.out hb2.size)
    exact ⟨v', w', FlowB.exec_append rfl rfl rfl hr, hG2.typed (Nat.le_refl _) q3, trivial, q2⟩
  rintro v3 w3 hb3 hF3 _
  apply Exists.intro
  refine ⟨fun w2 hb2 hF2 => wpQuiet_nil rfl, ?_⟩
  refine FlowB.AlChk.nil ?_
  refine FlowB.Walk.fin fun w4 h4 _ hG4 => ?_
  simp only [List.drop_succ_cons, List.drop_zero]
  have hbB := h4.below (B := w.heap.size + 1 + 1 + 1) HBB.out
  have Kr4 := hid (Kr.out.belowB (by omega) hbB)
  have Kb4 := hid (Kb.out.belowB (by omega) hbB)
  have Hb4 := hid (Hb.out.trans (hbB.mono (by omega)))
  have Ho4 := hid (show OwnB w4 (w.heap.size + 1 + 1 + 1) 5 v3 ([1] ++ a) from hG4)
  have hsz4 : w.heap.size + 1 + 1 + 1 ≤ w4.heap.size := Nat.le_trans HBB.out h4.size
  clear h4 hG4 hbB Kr Ka Hb
  go_wp2_with (at_builtin; refine wpList_append_text rfl _ _ rfl Tryd.underlying67 hi hz0 hz1 hz2 rfl Ho4.out rfl (hb_.text Kb4.out) (by rw [List.length_append, ha.len]; simp) hsz4 ?_)
  intro v5 w5 own5 _ b5
  obtain ⟨a5, c5, rfl, hT5, _⟩ := own5.text
  rw [show (1 :: (a ++ b)).length = 65 by rw [List.length_cons, List.length_append, ha.len, hb_.len]] at hT5 ⊢
  have HT5 := hid hT5
  have HBw5 := hid (Hb4.out.trans (b5.mono (by omega)))
  have Krw5 := hid (Kr4.out.belowB (by omega) b5)
  clear own5 hT5 b5
  go_wp2_with fail
  refine (CS.out a5 c5 w5 HT5.out).mono ?_
  rintro e w6 ⟨rfl, b6⟩
  have HBw6 := hid (Below.on HBw5.out b6)
  have Krw6 := hid (Krw5.out.below b6)
  clear b6 HT5
  go_wp2_with (
      refine wpList_store_blk rfl 23 _ _ rfl (w.heap.size + 1 + 1) (X.map (Value.int .u8)).toArray rfl rfl _ 23 Krw6.out 32 size_digest zsize HX.out.size (ints_one _ _) ?_
      intro w9 hb9 hk9
      have HB9 := hid (hb9.below HBw6.out HBw6.out.size (by omega))
      have HK9 := hid hk9
      clear hb9 hk9)
  exact bodyPost_ret (v := .agg (X.map (Value.int .u8)).toArray) (results_blk Tryd.results18 _ (w.heap.size + 1 + 1) rfl _ 23 HK9.out _ Tryd.underlying23 rfl 32 size_digest HX.out.size) rfl ⟨rfl, HB9.out⟩

set_option maxHeartbeats 4000000 in
set_option maxRecDepth 100000 in
theorem refleaf_any (ta : Option Addr) (tn tc : Nat) (m : List Int) (w : World) (hT : TextAt w ta tn tc m) (hn : tn ≤ 140737488330000) :
    Calls Tryd.prog 65 #[.slice ta tn tc] w fun e w' => e = .returned (.agg ((leafL m).map (Value.int .u8)).toArray) ∧ Below w.heap.size w w' := by
  have hTl := hT.length
  have CS := hid (fun (x : Option Addr) (c : Nat) (W : World) (h : TextAt W x (tn + 1) c (0 :: m)) => refsum_any x (tn + 1) c (0 :: m) W h (by omega))
  have HX := hid (Dg.leafL m)
  rw [show sumZ (0 :: m) = leafL m by unfold leafL; rfl] at CS
  generalize leafL m = X at *
  have b1 := (Below.refl w.heap.size w).alloc (Nat.le_refl _) (.cells (byteCells 32 []) 23 (0, 0))
  have Kr := hid (Blk.new (w := w) (n := w.heap.size) rfl (byteCells 32 []) 23)
  have Hb := hid b1
  have hbz := b1.size
  have Hbs := hid (show w.heap.size + 1 = (w.alloc (.cells (byteCells 32 []) 23 (0, 0))).heap.size by simp only [World.size_alloc])
  clear b1 
  go_enter Tryd.func65, Tryd.ntmps65
  obtain ⟨i0, hi, hz0, hz1, hz2⟩ := info_parts info_byte
  have c1 := Hb.out.alloc Hb.out.size (.cells #[.int .u8 0] 5 (0, 0))
  have ho : OwnB ((w.alloc (.cells (byteCells 32 []) 23 (0, 0))).alloc (.cells #[.int .u8 0] 5 (0, 0))) (w.heap.size + 1) 5 (.slice (some ⟨w.heap.size + 1, 0, none⟩) 1 1) [0] := OwnB.of_blk (Blk.new (w := (w.alloc (.cells (byteCells 32 []) 23 (0, 0)))) (n := w.heap.size + 1) (by simp only [World.size_alloc]) (([0] : List Int).map (Value.int .u8)).toArray 5) (Nat.le_refl _) rfl (by omega) (by simp)
  have HT1 := hid (hT.below c1)
  have Kr1 := hid (Kr.out.old (.cells #[.int .u8 0] 5 (0, 0)))
  have Hb1 := hid c1
  have Ho1 := hid ho
  clear c1 ho
  go_wp2_with (at_builtin; refine wpList_append_text rfl _ _ rfl Tryd.underlying67 hi hz0 hz1 hz2 rfl Ho1.out rfl HT1.out (by simp; omega) (by simp only [World.size_alloc]; omega) ?_)
  intro v5 w5 own5 _ b5
  obtain ⟨a5, c5, rfl, hT5, _⟩ := own5.text
  rw [show (0 :: m).length = tn + 1 by rw [List.length_cons, hT.length]] at hT5 ⊢
  have HT5 := hid hT5
  have HBw5 := hid (Hb1.out.trans (b5.mono (by omega)))
  have Krw5 := hid (Kr1.out.belowB (by omega) b5)
  clear own5 hT5 b5
  go_wp2_with fail
  refine (CS.out a5 c5 w5 HT5.out).mono ?_
  rintro e w6 ⟨rfl, b6⟩
  have HBw6 := hid (Below.on HBw5.out b6)
  have Krw6 := hid (Krw5.out.below b6)
  clear b6 HT5
  go_wp2_with (
      refine wpList_store_blk rfl 23 _ _ rfl (w.heap.size) (X.map (Value.int .u8)).toArray rfl rfl _ 23 Krw6.out 32 size_digest zsize HX.out.size (ints_one _ _) ?_
      intro w9 hb9 hk9
      have HB9 := hid (hb9.below HBw6.out HBw6.out.size (by omega))
      have HK9 := hid hk9
      clear hb9 hk9)
  exact bodyPost_ret (v := .agg (X.map (Value.int .u8)).toArray) (results_blk Tryd.results65 _ (w.heap.size) rfl _ 23 HK9.out _ Tryd.underlying23 rfl 32 size_digest HX.out.size) rfl ⟨rfl, HB9.out⟩
end Go.Proofs.YthaicocfbmpnmaaDoor
