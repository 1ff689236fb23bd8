/-
  Put together, as far as wanted: VMKeyed VMKeyedRef VMChain VMFrame VMDigits VNDigs VPLt VPClimb.
-/
import Derived.Test.YtkakoiaahgchmaaGreatDoorVA2
namespace Go.Proofs.YtkakoiaahgchmaaGreatDoor
set_option maxRecDepth 100000
open Go.ChangeShapes Go.WideShapes Go.ChangeAt Go.RowKit
/-- a digest's bytes -/
structure Dg (xs : List Int) : Prop where
  len : xs.length = 32
  small : ∀ x ∈ xs, 0 ≤ x ∧ x < 256
@[irreducible] def fZ (key m : List Int) : List Int := sumZ (be 32 0 ++ (key ++ m))
@[irreducible] def hZ (key a b : List Int) : List Int := sumZ (be 32 1 ++ (key ++ (a ++ b)))
@[irreducible] def prfZ (key m : List Int) : List Int := sumZ (be 32 3 ++ (key ++ m))
@[irreducible] def msgZ (r root : List Int) (index : Int) (m : List Int) : List Int := sumZ (be 32 2 ++ (r ++ (root ++ (be 32 index ++ m))))
theorem Dg.sum (bs : List Int) : Dg (sumZ bs) := ⟨sumZ_length _, sumZ_small _⟩
theorem Dg.f (a b : List Int) : Dg (fZ a b) := by unfold fZ; exact Dg.sum _
theorem Dg.h (a b c : List Int) : Dg (hZ a b c) := by unfold hZ; exact Dg.sum _
theorem Dg.prf (a b : List Int) : Dg (prfZ a b) := by unfold prfZ; exact Dg.sum _
theorem Dg.msg (a b : List Int) (i : Int) (c : List Int) : Dg (msgZ a b i c) := by unfold msgZ; exact Dg.sum _
theorem wide_any (n : Int) (w : World) (h0 : 0 ≤ n) (h1 : n < 18446744073709551616) :
    Calls Tryz.prog 98 #[.int .u64 n] w fun e w' => ∃ g, w.heap.size ≤ g ∧ e = .returned (.slice (some ⟨g, 0, none⟩) 32 32) ∧ Below w.heap.size w w' ∧ Blk w' g ((be 32 n).map (Value.int .u8)).toArray 5 := by
  go_enter Tryz.func98, Tryz.ntmps98
  go_wp2_with fail
  refine (number_any n 32 32 _ h0 h1 (by decide)).mono ?_
  rintro e w1 ⟨g, hg, rfl, b1, k1⟩
  have H := hid (And.intro b1 k1)
  clear b1 k1
  go_wp2_with fail
  go_ret
  exact ⟨g, hg, rfl, H.out⟩
/-- what 'wide' hands back -/
def WideAt (n : Int) (v : Value) (w : World) : Prop := ∃ g, v = .slice (some ⟨g, 0, none⟩) 32 32 ∧ Blk w g ((be 32 n).map (Value.int .u8)).toArray 5
theorem WideAt.below {n : Int} {v : Value} {w w' : World} (h : WideAt n v w) (hb : Below w.heap.size w w') : WideAt n v w' := by
  obtain ⟨g, h1, h2⟩ := h
  exact ⟨g, h1, h2.below hb⟩
theorem WideAt.text {n : Int} {g : Nat} {w : World} (h : WideAt n (.slice (some ⟨g, 0, none⟩) 32 32) w) : TextAt w (some ⟨g, 0, none⟩) 32 32 (be 32 n) := by
  obtain ⟨g', h1, h2⟩ := h
  injection h1 with h1
  injection h1 with h1
  injection h1 with h1
  subst h1
  exact TextAt.of_ints h2 (be_length 32 n) (by omega) (be_small 32 n)
theorem Dg.text {xs : List Int} (h : Dg xs) {w : World} {g : Nat} {T : TypeId} (k : Blk w g (xs.map (Value.int .u8)).toArray T) : TextAt w (some ⟨g, 0, none⟩) 32 32 xs := TextAt.of_ints k h.len (by omega) h.small
theorem Dg.size {xs : List Int} (h : Dg xs) : ((xs.map (Value.int .u8)).toArray).size = 32 := dsize h.len
set_option maxHeartbeats 2000000 in
theorem F_any (key m : List Int) (w : World) (hkey : Dg key) (hm : Dg m) (tab : ShaTab w) :
    Calls Tryz.prog 151 #[.agg (key.map (Value.int .u8)).toArray, .agg (m.map (Value.int .u8)).toArray] w fun e w' => e = .returned (.agg ((fZ key m).map (Value.int .u8)).toArray) ∧ Below w.heap.size w w' := by
  have HM : Hid (fZ key m = sumZ (be 32 0 ++ (key ++ m))) := hid (by unfold fZ; rfl)
  have HD := hid (Dg.f key m)
  have b1 := (Below.refl w.heap.size w).alloc (Nat.le_refl _) (.cells (key.map (Value.int .u8)).toArray 25 (0, 0))
  have b2 := b1.alloc b1.size (.cells (m.map (Value.int .u8)).toArray 25 (0, 0))
  have bz := b2.alloc b2.size (.cells (byteCells 32 []) 25 (0, 0))
  have K0 := hid (((Blk.new (w := w) (n := w.heap.size) rfl (key.map (Value.int .u8)).toArray 25).old (.cells (m.map (Value.int .u8)).toArray 25 (0, 0))).old (.cells (byteCells 32 []) 25 (0, 0)))
  have K1 := hid ((Blk.new (w := (w.alloc (.cells (key.map (Value.int .u8)).toArray 25 (0, 0)))) (n := w.heap.size + 1) (by simp only [World.size_alloc]) (m.map (Value.int .u8)).toArray 25).old (.cells (byteCells 32 []) 25 (0, 0)))
  have Kr := hid (Blk.new (w := ((w.alloc (.cells (key.map (Value.int .u8)).toArray 25 (0, 0))).alloc (.cells (m.map (Value.int .u8)).toArray 25 (0, 0)))) (n := w.heap.size + 1 + 1) (by simp only [World.size_alloc]) (byteCells 32 []) 25)
  have Hb := hid bz
  have Htab := hid (tab.below bz)
  have HzA := hid zsize
  have hbz := bz.size
  clear tab bz
  clear b2
  clear b1
  go_enter Tryz.func151, Tryz.ntmps151
  go_wp2_with fail
  refine wp_region_flow 5 [1, 2] [] [(.c 0, [], [3]), (.b 3, [4], [])] (by kernel_rfl) (by kernel_rfl) ?_
  apply Exists.intro
  refine ⟨fun w0 hb0 hF0 => ?_, ?_⟩
  · simp only [pick, List.getElem?_toArray, List.getElem?_cons_succ, List.getElem?_cons_zero, Option.toList_some, List.cons_append, List.nil_append]
    repeat (go_big_quiet_step (fail))
    exact wpQuiet_nil rfl
  refine AlChk.nil ?_
  refine Walk.call rfl 98 #[.int .u64 0] (WideAt 0) (fun v w' w'' h k => h.below k) rfl (fun w1 hb1 hF1 => ⟨by go_simp, ?_⟩) ?_
  · refine (wide_any 0 w1 (by omega) (by omega)).mono ?_
    rintro e w2 ⟨g, hg, rfl, b2, k2⟩
    exact ⟨_, rfl, b2, g, rfl, k2⟩
  rintro v w1 hb1 hF1 ⟨gw, rfl, _⟩
  apply Exists.intro
  refine ⟨fun w2 hb2 hF2 => wpQuiet_nil rfl, ?_⟩
  refine AlChk.one rfl (fun b => .slice (some ⟨b, 0, none⟩) 3 3) (.cells #[.slice (some ⟨gw, 0, none⟩) 32 32, .slice (some ⟨w.heap.size, 0, none⟩) 32 32, .slice (some ⟨w.heap.size + 1, 0, none⟩) 32 32] 37 (0, 0)) rfl (fun w2 hb2 hF2 => by go_simp) ?_
  refine AlChk.nil ?_
  refine Walk.blk rfl (fun b => .slice (some ⟨b, 0, none⟩) 3 3) (.cells #[.slice (some ⟨gw, 0, none⟩) 32 32, .slice (some ⟨w.heap.size, 0, none⟩) 32 32, .slice (some ⟨w.heap.size + 1, 0, none⟩) 32 32] 37 (0, 0)) (by simp) ?_
  intro b9 w2 hb2 hF2 hge9 _
  apply Exists.intro
  refine ⟨fun w3 hb3 hF3 => ?_, ?_⟩
  · have k9 : Blk w3 b9 #[.slice (some ⟨gw, 0, none⟩) 32 32, .slice (some ⟨w.heap.size, 0, none⟩) 32 32, .slice (some ⟨w.heap.size + 1, 0, none⟩) 32 32] 37 := hF3.2
    have hW := hF3.1.2
    have hs := fun e : Ext w3 => sum_any (some ⟨b9, 0, none⟩) 3 3 [be 32 0, key, m] e.at_ (TextsAt.of_blk (k9.below e.same) rfl (Nat.le_refl _) (by omega) fun j hj => by
      match j, hj with
      | 0, _ => exact ⟨_, _, _, rfl, (hW.below e.same).text⟩
      | 1, _ => exact ⟨_, _, _, rfl, hkey.text ((K0.out.below hb3).below e.same)⟩
      | 2, _ => exact ⟨_, _, _, rfl, hm.text ((K1.out.below hb3).below e.same)⟩) (by simp only [sumLen, List.map_cons, List.map_nil, List.sum_cons, List.sum_nil, be_length, hkey.len, hm.len]; omega) ((Htab.out.below hb3).below e.same)
    rw [show ([be 32 0, key, m] : List (List Int)).flatten = be 32 0 ++ (key ++ m) by simp, ← HM.out] at hs
    simp only [pick, List.getElem?_toArray, List.getElem?_cons_succ, List.getElem?_cons_zero, Option.toList_some, List.cons_append, List.nil_append, Act.put, List.setIfInBounds_toArray, List.set_cons_zero, List.set_cons_succ]
    repeat (go_big_quiet_step (first | (go_at_call 86; exact Calls.ext (hs _))))
    exact wpQuiet_nil rfl
  refine AlChk.nil ?_
  refine Walk.fin fun w4 h4 _ _ => ?_
  simp only [List.drop_succ_cons, List.drop_zero]
  have Hr4 := hid (Kr.out.below h4)
  have Hb4 := hid (Below.on Hb.out h4)
  clear h4
  go_wp2_with (refine wpList_store_blk rfl 25 _ _ rfl (w.heap.size + 1 + 1) _ rfl rfl _ 25 Hr4.out 32 size_digest HzA.out HD.out.size (ints_one _ _) ?_; intro w5 hbut5 hk5)
  exact bodyPost_ret (v := .agg ((fZ key m).map (Value.int .u8)).toArray) (results_blk Tryz.results151 _ (w.heap.size + 1 + 1) rfl _ 25 hk5 _ Tryz.underlying25 rfl 32 size_digest HD.out.size) rfl ⟨rfl, hbut5.below Hb4.out Hb4.out.size (by omega)⟩
set_option maxHeartbeats 2000000 in
theorem H_any (key a b : List Int) (w : World) (hkey : Dg key) (ha : Dg a) (hb : Dg b) (tab : ShaTab w) :
    Calls Tryz.prog 153 #[.agg (key.map (Value.int .u8)).toArray, .agg (a.map (Value.int .u8)).toArray, .agg (b.map (Value.int .u8)).toArray] w fun e w' => e = .returned (.agg ((hZ key a b).map (Value.int .u8)).toArray) ∧ Below w.heap.size w w' := by
  have HM : Hid (hZ key a b = sumZ (be 32 1 ++ (key ++ (a ++ b)))) := hid (by unfold hZ; rfl)
  have HD := hid (Dg.h key a b)
  have b1 := (Below.refl w.heap.size w).alloc (Nat.le_refl _) (.cells (key.map (Value.int .u8)).toArray 25 (0, 0))
  have b2 := b1.alloc b1.size (.cells (a.map (Value.int .u8)).toArray 25 (0, 0))
  have b3 := b2.alloc b2.size (.cells (b.map (Value.int .u8)).toArray 25 (0, 0))
  have bz := b3.alloc b3.size (.cells (byteCells 32 []) 25 (0, 0))
  have K0 := hid ((((Blk.new (w := w) (n := w.heap.size) rfl (key.map (Value.int .u8)).toArray 25).old (.cells (a.map (Value.int .u8)).toArray 25 (0, 0))).old (.cells (b.map (Value.int .u8)).toArray 25 (0, 0))).old (.cells (byteCells 32 []) 25 (0, 0)))
  have K1 := hid (((Blk.new (w := (w.alloc (.cells (key.map (Value.int .u8)).toArray 25 (0, 0)))) (n := w.heap.size + 1) (by simp only [World.size_alloc]) (a.map (Value.int .u8)).toArray 25).old (.cells (b.map (Value.int .u8)).toArray 25 (0, 0))).old (.cells (byteCells 32 []) 25 (0, 0)))
  have K2 := hid ((Blk.new (w := ((w.alloc (.cells (key.map (Value.int .u8)).toArray 25 (0, 0))).alloc (.cells (a.map (Value.int .u8)).toArray 25 (0, 0)))) (n := w.heap.size + 1 + 1) (by simp only [World.size_alloc]) (b.map (Value.int .u8)).toArray 25).old (.cells (byteCells 32 []) 25 (0, 0)))
  have Kr := hid (Blk.new (w := (((w.alloc (.cells (key.map (Value.int .u8)).toArray 25 (0, 0))).alloc (.cells (a.map (Value.int .u8)).toArray 25 (0, 0))).alloc (.cells (b.map (Value.int .u8)).toArray 25 (0, 0)))) (n := w.heap.size + 1 + 1 + 1) (by simp only [World.size_alloc]) (byteCells 32 []) 25)
  have Hb := hid bz
  have Htab := hid (tab.below bz)
  have HzA := hid zsize
  have hbz := bz.size
  clear tab bz
  clear b3
  clear b2
  clear b1
  go_enter Tryz.func153, Tryz.ntmps153
  go_wp2_with fail
  refine wp_region_flow 6 [1, 2, 3] [] [(.c 0, [], [4]), (.b 4, [5], [])] (by kernel_rfl) (by kernel_rfl) ?_
  apply Exists.intro
  refine ⟨fun w0 hb0 hF0 => ?_, ?_⟩
  · simp only [pick, List.getElem?_toArray, List.getElem?_cons_succ, List.getElem?_cons_zero, Option.toList_some, List.cons_append, List.nil_append]
    repeat (go_big_quiet_step (fail))
    exact wpQuiet_nil rfl
  refine AlChk.nil ?_
  refine Walk.call rfl 98 #[.int .u64 1] (WideAt 1) (fun v w' w'' h k => h.below k) rfl (fun w1 hb1 hF1 => ⟨by go_simp, ?_⟩) ?_
  · refine (wide_any 1 w1 (by omega) (by omega)).mono ?_
    rintro e w2 ⟨g, hg, rfl, b2, k2⟩
    exact ⟨_, rfl, b2, g, rfl, k2⟩
  rintro v w1 hb1 hF1 ⟨gw, rfl, _⟩
  apply Exists.intro
  refine ⟨fun w2 hb2 hF2 => wpQuiet_nil rfl, ?_⟩
  refine AlChk.one rfl (fun b => .slice (some ⟨b, 0, none⟩) 4 4) (.cells #[.slice (some ⟨gw, 0, none⟩) 32 32, .slice (some ⟨w.heap.size, 0, none⟩) 32 32, .slice (some ⟨w.heap.size + 1, 0, none⟩) 32 32, .slice (some ⟨w.heap.size + 1 + 1, 0, none⟩) 32 32] 37 (0, 0)) rfl (fun w2 hb2 hF2 => by go_simp) ?_
  refine AlChk.nil ?_
  refine Walk.blk rfl (fun b => .slice (some ⟨b, 0, none⟩) 4 4) (.cells #[.slice (some ⟨gw, 0, none⟩) 32 32, .slice (some ⟨w.heap.size, 0, none⟩) 32 32, .slice (some ⟨w.heap.size + 1, 0, none⟩) 32 32, .slice (some ⟨w.heap.size + 1 + 1, 0, none⟩) 32 32] 37 (0, 0)) (by simp) ?_
  intro b9 w2 hb2 hF2 hge9 _
  apply Exists.intro
  refine ⟨fun w3 hb3 hF3 => ?_, ?_⟩
  · have k9 : Blk w3 b9 #[.slice (some ⟨gw, 0, none⟩) 32 32, .slice (some ⟨w.heap.size, 0, none⟩) 32 32, .slice (some ⟨w.heap.size + 1, 0, none⟩) 32 32, .slice (some ⟨w.heap.size + 1 + 1, 0, none⟩) 32 32] 37 := hF3.2
    have hW := hF3.1.2
    have hs := fun e : Ext w3 => sum_any (some ⟨b9, 0, none⟩) 4 4 [be 32 1, key, a, b] e.at_ (TextsAt.of_blk (k9.below e.same) rfl (Nat.le_refl _) (by omega) fun j hj => by
      match j, hj with
      | 0, _ => exact ⟨_, _, _, rfl, (hW.below e.same).text⟩
      | 1, _ => exact ⟨_, _, _, rfl, hkey.text ((K0.out.below hb3).below e.same)⟩
      | 2, _ => exact ⟨_, _, _, rfl, ha.text ((K1.out.below hb3).below e.same)⟩
      | 3, _ => exact ⟨_, _, _, rfl, hb.text ((K2.out.below hb3).below e.same)⟩) (by simp only [sumLen, List.map_cons, List.map_nil, List.sum_cons, List.sum_nil, be_length, hkey.len, ha.len, hb.len]; omega) ((Htab.out.below hb3).below e.same)
    rw [show ([be 32 1, key, a, b] : List (List Int)).flatten = be 32 1 ++ (key ++ (a ++ b)) by simp, ← HM.out] at hs
    simp only [pick, List.getElem?_toArray, List.getElem?_cons_succ, List.getElem?_cons_zero, Option.toList_some, List.cons_append, List.nil_append, Act.put, List.setIfInBounds_toArray, List.set_cons_zero, List.set_cons_succ]
    repeat (go_big_quiet_step (first | (go_at_call 86; exact Calls.ext (hs _))))
    exact wpQuiet_nil rfl
  refine AlChk.nil ?_
  refine Walk.fin fun w4 h4 _ _ => ?_
  simp only [List.drop_succ_cons, List.drop_zero]
  have Hr4 := hid (Kr.out.below h4)
  have Hb4 := hid (Below.on Hb.out h4)
  clear h4
  go_wp2_with (refine wpList_store_blk rfl 25 _ _ rfl (w.heap.size + 1 + 1 + 1) _ rfl rfl _ 25 Hr4.out 32 size_digest HzA.out HD.out.size (ints_one _ _) ?_; intro w5 hbut5 hk5)
  exact bodyPost_ret (v := .agg ((hZ key a b).map (Value.int .u8)).toArray) (results_blk Tryz.results153 _ (w.heap.size + 1 + 1 + 1) rfl _ 25 hk5 _ Tryz.underlying25 rfl 32 size_digest HD.out.size) rfl ⟨rfl, hbut5.below Hb4.out Hb4.out.size (by omega)⟩
set_option maxHeartbeats 2000000 in
theorem Prf_any (key m : List Int) (ta : Option Addr) (tn tc : Nat) (w : World) (hkey : Dg key) (hT : TextAt w ta tn tc m) (hn : tn < 1000000000000000000) (tab : ShaTab w) :
    Calls Tryz.prog 154 #[.agg (key.map (Value.int .u8)).toArray, .slice ta tn tc] w fun e w' => e = .returned (.agg ((prfZ key m).map (Value.int .u8)).toArray) ∧ Below w.heap.size w w' := by
  have HM : Hid (prfZ key m = sumZ (be 32 3 ++ (key ++ m))) := hid (by unfold prfZ; rfl)
  have HD := hid (Dg.prf key m)
  have b1 := (Below.refl w.heap.size w).alloc (Nat.le_refl _) (.cells (key.map (Value.int .u8)).toArray 25 (0, 0))
  have bz := b1.alloc b1.size (.cells (byteCells 32 []) 25 (0, 0))
  have K0 := hid ((Blk.new (w := w) (n := w.heap.size) rfl (key.map (Value.int .u8)).toArray 25).old (.cells (byteCells 32 []) 25 (0, 0)))
  have Kr := hid (Blk.new (w := (w.alloc (.cells (key.map (Value.int .u8)).toArray 25 (0, 0)))) (n := w.heap.size + 1) (by simp only [World.size_alloc]) (byteCells 32 []) 25)
  have Hb := hid bz
  have Htab := hid (tab.below bz)
  have HzA := hid zsize
  have hle := hT.le
  have hmx := hT.max
  have HTx := hid (hT.below bz)
  have Hml := hid hT.length
  have hbz := bz.size
  clear tab bz hT
  clear b1
  go_enter Tryz.func154, Tryz.ntmps154
  go_wp2_with fail
  refine wp_region_flow 5 [1, 2] [] [(.c 0, [], [3]), (.b 3, [4], [])] (by kernel_rfl) (by kernel_rfl) ?_
  apply Exists.intro
  refine ⟨fun w0 hb0 hF0 => ?_, ?_⟩
  · simp only [pick, List.getElem?_toArray, List.getElem?_cons_succ, List.getElem?_cons_zero, Option.toList_some, List.cons_append, List.nil_append]
    repeat (go_big_quiet_step (fail))
    exact wpQuiet_nil rfl
  refine AlChk.nil ?_
  refine Walk.call rfl 98 #[.int .u64 3] (WideAt 3) (fun v w' w'' h k => h.below k) rfl (fun w1 hb1 hF1 => ⟨by go_simp, ?_⟩) ?_
  · refine (wide_any 3 w1 (by omega) (by omega)).mono ?_
    rintro e w2 ⟨g, hg, rfl, b2, k2⟩
    exact ⟨_, rfl, b2, g, rfl, k2⟩
  rintro v w1 hb1 hF1 ⟨gw, rfl, _⟩
  apply Exists.intro
  refine ⟨fun w2 hb2 hF2 => wpQuiet_nil rfl, ?_⟩
  refine AlChk.one rfl (fun b => .slice (some ⟨b, 0, none⟩) 3 3) (.cells #[.slice (some ⟨gw, 0, none⟩) 32 32, .slice (some ⟨w.heap.size, 0, none⟩) 32 32, .slice ta tn tc] 37 (0, 0)) rfl (fun w2 hb2 hF2 => by go_simp) ?_
  refine AlChk.nil ?_
  refine Walk.blk rfl (fun b => .slice (some ⟨b, 0, none⟩) 3 3) (.cells #[.slice (some ⟨gw, 0, none⟩) 32 32, .slice (some ⟨w.heap.size, 0, none⟩) 32 32, .slice ta tn tc] 37 (0, 0)) (by simp) ?_
  intro b9 w2 hb2 hF2 hge9 _
  apply Exists.intro
  refine ⟨fun w3 hb3 hF3 => ?_, ?_⟩
  · have k9 : Blk w3 b9 #[.slice (some ⟨gw, 0, none⟩) 32 32, .slice (some ⟨w.heap.size, 0, none⟩) 32 32, .slice ta tn tc] 37 := hF3.2
    have hW := hF3.1.2
    have hs := fun e : Ext w3 => sum_any (some ⟨b9, 0, none⟩) 3 3 [be 32 3, key, m] e.at_ (TextsAt.of_blk (k9.below e.same) rfl (Nat.le_refl _) (by omega) fun j hj => by
      match j, hj with
      | 0, _ => exact ⟨_, _, _, rfl, (hW.below e.same).text⟩
      | 1, _ => exact ⟨_, _, _, rfl, hkey.text ((K0.out.below hb3).below e.same)⟩
      | 2, _ => exact ⟨_, _, _, rfl, (HTx.out.below hb3).below e.same⟩) (by simp only [sumLen, List.map_cons, List.map_nil, List.sum_cons, List.sum_nil, be_length, hkey.len, Hml.out]; omega) ((Htab.out.below hb3).below e.same)
    rw [show ([be 32 3, key, m] : List (List Int)).flatten = be 32 3 ++ (key ++ m) by simp, ← HM.out] at hs
    simp only [pick, List.getElem?_toArray, List.getElem?_cons_succ, List.getElem?_cons_zero, Option.toList_some, List.cons_append, List.nil_append, Act.put, List.setIfInBounds_toArray, List.set_cons_zero, List.set_cons_succ]
    repeat (go_big_quiet_step (first | (go_at_call 86; exact Calls.ext (hs _))))
    exact wpQuiet_nil rfl
  refine AlChk.nil ?_
  refine Walk.fin fun w4 h4 _ _ => ?_
  simp only [List.drop_succ_cons, List.drop_zero]
  have Hr4 := hid (Kr.out.below h4)
  have Hb4 := hid (Below.on Hb.out h4)
  clear h4
  go_wp2_with (refine wpList_store_blk rfl 25 _ _ rfl (w.heap.size + 1) _ rfl rfl _ 25 Hr4.out 32 size_digest HzA.out HD.out.size (ints_one _ _) ?_; intro w5 hbut5 hk5)
  exact bodyPost_ret (v := .agg ((prfZ key m).map (Value.int .u8)).toArray) (results_blk Tryz.results154 _ (w.heap.size + 1) rfl _ 25 hk5 _ Tryz.underlying25 rfl 32 size_digest HD.out.size) rfl ⟨rfl, hbut5.below Hb4.out Hb4.out.size (by omega)⟩
end Go.Proofs.YtkakoiaahgchmaaGreatDoor
namespace Go.Proofs.YtkakoiaahgchmaaGreatDoor
set_option maxRecDepth 100000
open Go.ChangeShapes Go.WideShapes Go.ChangeAt Go.RowKit
/-- an address's words -/
structure Aw (xs : List Int) : Prop where
  len : xs.length = 8
  small : ∀ x ∈ xs, 0 ≤ x ∧ x < 4294967296
theorem Aw.size {xs : List Int} (h : Aw xs) : ((xs.map (Value.int .u32)).toArray).size = 8 := by simp [h.len]
@[irreducible] def atZ (key ad : List Int) : List Int := prfZ key (wordBytes ad)
theorem Dg.at_ (a b : List Int) : Dg (atZ a b) := by unfold atZ; exact Dg.prf _ _
/-- what 'adrs.Bytes' hands back -/
def BytesAt (ad : List Int) (v : Value) (w : World) : Prop := ∃ g cap, v = .slice (some ⟨g, 0, none⟩) 32 cap ∧ 32 ≤ cap ∧ cap ≤ 9223372036854775807 ∧ Row8 w g (wordBytes ad)
theorem BytesAt.below {ad : List Int} {v : Value} {w w' : World} (h : BytesAt ad v w) (hb : Below w.heap.size w w') : BytesAt ad v w' := by
  obtain ⟨g, c, h1, h2, h3, h4⟩ := h
  exact ⟨g, c, h1, h2, h3, h4.below hb⟩
theorem BytesAt.text {ad : List Int} (hl : ad.length = 8) {a : Option Addr} {n c : Nat} {w : World} (h : BytesAt ad (.slice a n c) w) : TextAt w a n c (wordBytes ad) := by
  obtain ⟨g', c', h1, h2, h3, h4⟩ := h
  injection h1 with e1 e2 e3
  subst e1 e2 e3
  exact TextAt.of_row h4 (by rw [wordBytes_length, hl]) h2 h3 (wordBytes_small _)
set_option maxHeartbeats 2000000 in
theorem At_any (key ad : List Int) (w : World) (hkey : Dg key) (ha : Aw ad) (tab : ShaTab w) :
    Calls Tryz.prog 149 #[.agg (key.map (Value.int .u8)).toArray, .agg (ad.map (Value.int .u32)).toArray] w fun e w' => e = .returned (.agg ((atZ key ad).map (Value.int .u8)).toArray) ∧ Below w.heap.size w w' := by
  have HM : Hid (atZ key ad = prfZ key (wordBytes ad)) := hid (by unfold atZ; rfl)
  have HD := hid (Dg.at_ key ad)
  have b1 := (Below.refl w.heap.size w).alloc (Nat.le_refl _) (.cells (key.map (Value.int .u8)).toArray 25 (0, 0))
  have b2 := b1.alloc b1.size (.cells (ad.map (Value.int .u32)).toArray 66 (0, 0))
  have bz := b2.alloc b2.size (.cells (byteCells 32 []) 25 (0, 0))
  have K0 := hid (((Blk.new (w := w) (n := w.heap.size) rfl (key.map (Value.int .u8)).toArray 25).old (.cells (ad.map (Value.int .u32)).toArray 66 (0, 0))).old (.cells (byteCells 32 []) 25 (0, 0)))
  have K1 := hid ((Blk.new (w := (w.alloc (.cells (key.map (Value.int .u8)).toArray 25 (0, 0)))) (n := w.heap.size + 1) (by simp only [World.size_alloc]) (ad.map (Value.int .u32)).toArray 66).old (.cells (byteCells 32 []) 25 (0, 0)))
  have Kr := hid (Blk.new (w := ((w.alloc (.cells (key.map (Value.int .u8)).toArray 25 (0, 0))).alloc (.cells (ad.map (Value.int .u32)).toArray 66 (0, 0)))) (n := w.heap.size + 1 + 1) (by simp only [World.size_alloc]) (byteCells 32 []) 25)
  have Hb := hid bz
  have Htab := hid (tab.below bz)
  have HzA := hid zsize
  have hbz := bz.size
  clear tab bz b2 b1
  go_enter Tryz.func149, Tryz.ntmps149
  go_wp2_with fail
  refine wp_region_flow 4 [0, 1] [] [(.c 2, [3], [])] (by kernel_rfl) (by kernel_rfl) ?_
  apply Exists.intro
  refine ⟨fun w0 hb0 hF0 => ?_, ?_⟩
  · have x0 : ∀ w', (∃ x : Ext w0, w' = x.at_) → ∃ T, Blk w' w.heap.size (key.map (Value.int .u8)).toArray T := fun w' ⟨x, hx⟩ => ⟨_, hx ▸ (K0.out.below hb0).below x.same⟩
    have x1 : ∀ w', (∃ x : Ext w0, w' = x.at_) → ∃ T, Blk w' (w.heap.size + 1) (ad.map (Value.int .u32)).toArray T := fun w' ⟨x, hx⟩ => ⟨_, hx ▸ (K1.out.below hb0).below x.same⟩
    simp only [pick, List.getElem?_toArray, List.getElem?_cons_succ, List.getElem?_cons_zero, Option.toList_some, List.cons_append, List.nil_append]
    repeat (first | (go_big_quiet_want; refine quiet_load_blk 25 _ rfl w.heap.size rfl _ x0 _ Tryz.underlying25 rfl 32 size_digest hkey.size ?_; go_big_quiet_on; simp only [Act.put, List.setIfInBounds_toArray, List.set_cons_zero, List.set_cons_succ]) | (go_big_quiet_want; refine quiet_load_blk 66 _ rfl (w.heap.size + 1) rfl _ x1 _ Tryz.underlying66 rfl 8 sizeAdrs ha.size ?_; go_big_quiet_on; simp only [Act.put, List.setIfInBounds_toArray, List.set_cons_zero, List.set_cons_succ]) | go_big_quiet_step (fail))
    exact wpQuiet_nil rfl
  refine AlChk.nil ?_
  refine Walk.call rfl 155 #[.agg (ad.map (Value.int .u32)).toArray] (BytesAt ad) (fun v w' w'' h k => h.below k) rfl (fun w1 hb1 hF1 => ⟨by go_simp, ?_⟩) ?_
  · refine (adrs_bytes ad ha.len ha.small w1).mono ?_
    rintro e w2 ⟨g, cap, h1, h2, hg, rfl, b2, k2⟩
    exact ⟨_, rfl, b2, g, cap, rfl, h1, h2, k2⟩
  rintro v w1 hb1 hF1 ⟨g, cap, rfl, _, _, _⟩
  apply Exists.intro
  refine ⟨fun w3 hb3 hF3 => ?_, ?_⟩
  · have hs := fun e : Ext w3 => Prf_any key (wordBytes ad) _ 32 cap e.at_ hkey ((hF3.2.below e.same).text ha.len) (by omega) ((Htab.out.below hb3).below e.same)
    rw [← HM.out] at hs
    simp only [pick, List.getElem?_toArray, List.getElem?_cons_succ, List.getElem?_cons_zero, Option.toList_some, List.cons_append, List.nil_append, Act.put, List.setIfInBounds_toArray, List.set_cons_zero, List.set_cons_succ]
    repeat (go_big_quiet_step (first | (go_at_call 154; exact Calls.ext (hs _))))
    exact wpQuiet_nil rfl
  refine AlChk.nil ?_
  refine Walk.fin fun w4 h4 _ _ => ?_
  simp only [List.drop_succ_cons, List.drop_zero]
  have Hr4 := hid (Kr.out.below h4)
  have Hb4 := hid (Below.on Hb.out h4)
  clear h4
  go_wp2_with (refine wpList_store_blk rfl 25 _ _ rfl (w.heap.size + 1 + 1) _ rfl rfl _ 25 Hr4.out 32 size_digest HzA.out HD.out.size (ints_one _ _) ?_; intro w5 hbut5 hk5)
  exact bodyPost_ret (v := .agg ((atZ key ad).map (Value.int .u8)).toArray) (results_blk Tryz.results149 _ (w.heap.size + 1 + 1) rfl _ 25 hk5 _ Tryz.underlying25 rfl 32 size_digest HD.out.size) rfl ⟨rfl, hbut5.below Hb4.out Hb4.out.size (by omega)⟩
/-- byte by byte exclusive-ored -/
def xorD (a b : List Int) : List Int := a.zipWith xorZ b
theorem Dg.xor {a b : List Int} (ha : Dg a) (hb : Dg b) : Dg (xorD a b) := ⟨by simp [xorD, ha.len, hb.len], fun x hx => by
  unfold xorD at hx
  rw [List.zipWith_eq_zipWith_take_min] at hx
  obtain ⟨i, hi, rfl⟩ := List.getElem_of_mem hx
  simp only [List.getElem_zipWith]
  exact xorZ_small (ha.small _ (List.mem_of_mem_take (List.getElem_mem _))) (hb.small _ (List.mem_of_mem_take (List.getElem_mem _)))⟩
theorem xorD_step {a b : List Int} (ha : a.length = 32) (hb : b.length = 32) (k : Nat) (hk : k < 32) : ((xorD a b).take k ++ a.drop k).set k (xorZ (a.getD k 0) (b.getD k 0)) = (xorD a b).take (k + 1) ++ a.drop (k + 1) := by
  have hl : k < (xorD a b).length := by simp [xorD, ha, hb, hk]
  rw [List.set_append_right _ _ (by simp; omega), List.take_succ_eq_append_getElem hl, List.append_assoc]
  congr 1
  rw [show k - ((xorD a b).take k).length = 0 by simp; omega, List.drop_eq_getElem_cons (by omega), List.set_cons_zero]
  simp [xorD, List.getD_eq_getElem?_getD, show k < a.length by omega, show k < b.length by omega]
set_option maxHeartbeats 2000000 in
theorem Mask_any (a b : List Int) (w : World) (ha : Dg a) (hb : Dg b) :
    Calls Tryz.prog 152 #[.agg (a.map (Value.int .u8)).toArray, .agg (b.map (Value.int .u8)).toArray] w fun e w' => e = .returned (.agg ((xorD a b).map (Value.int .u8)).toArray) ∧ Below w.heap.size w w' := by
  have HD := hid (ha.xor hb)
  have b1 := (Below.refl w.heap.size w).alloc (Nat.le_refl _) (.cells (a.map (Value.int .u8)).toArray 25 (0, 0))
  have b2 := b1.alloc b1.size (.cells (b.map (Value.int .u8)).toArray 25 (0, 0))
  have bz := b2.alloc b2.size (.cells (byteCells 32 []) 25 (0, 0))
  have K0 := hid (((Blk.new (w := w) (n := w.heap.size) rfl (a.map (Value.int .u8)).toArray 25).old (.cells (b.map (Value.int .u8)).toArray 25 (0, 0))).old (.cells (byteCells 32 []) 25 (0, 0)))
  have K1 := hid ((Blk.new (w := (w.alloc (.cells (a.map (Value.int .u8)).toArray 25 (0, 0)))) (n := w.heap.size + 1) (by simp only [World.size_alloc]) (b.map (Value.int .u8)).toArray 25).old (.cells (byteCells 32 []) 25 (0, 0)))
  have Kr := hid (Blk.new (w := ((w.alloc (.cells (a.map (Value.int .u8)).toArray 25 (0, 0))).alloc (.cells (b.map (Value.int .u8)).toArray 25 (0, 0)))) (n := w.heap.size + 1 + 1) (by simp only [World.size_alloc]) (byteCells 32 []) 25)
  have Hb := hid bz
  have HzA := hid zsize
  have hbz := bz.size
  have hix := fun (k : Nat) (hk : k < 32) (W : World) => run_index_ints (P := Tryz.prog) (t := 25) (e := 5) (n := 32) (k' := .i64) Tryz.underlying25 Tryz.underlying5 rfl rfl b hb.len k hk W
  have Hix := hid hix
  clear bz b2 b1 hix
  go_enter Tryz.func152, Tryz.ntmps152
  go_wp2_with (refine wpList_load_blk rfl 25 _ rfl (w.heap.size + 1) rfl _ 25 K1.out _ Tryz.underlying25 rfl 32 size_digest hb.size ?_)
  go_loopw [8] (fun v wr => ∃ k : Nat, k ≤ 32 ∧ v = .int .i64 k ∧ Blk wr w.heap.size (((xorD a b).take k ++ a.drop k).map (Value.int .u8)).toArray 25 ∧ Blk wr (w.heap.size + 1 + 1) (byteCells 32 []) 25 ∧ Below w.heap.size w wr) (fun v _ => 32 - (intOf v).toNat)
  case atStart => exact ⟨0, Nat.zero_le _, rfl, (by rw [List.take_zero, List.nil_append, List.drop_zero]; exact K0.out), Kr.out, Hb.out⟩
  case round =>
    clear K0 K1 Kr Hb
    obtain ⟨k, hk, rfl, kA, kR, bel⟩ := hrel
    by_cases hlt : k < 32
    · have hi := fun W => Hix.out k hlt W
      have hxa : 0 ≤ a.getD k 0 ∧ a.getD k 0 < 256 := ha.small _ (by rw [List.getD_eq_getElem?_getD, List.getElem?_eq_getElem (by rw [ha.len]; omega)]; exact List.getElem_mem _)
      have hxb : 0 ≤ b.getD k 0 ∧ b.getD k 0 < 256 := hb.small _ (by rw [List.getD_eq_getElem?_getD, List.getElem?_eq_getElem (by rw [hb.len]; omega)]; exact List.getElem_mem _)
      have hxor := bits_xorZ hxa hxb
      have Hst := hid (xorD_step ha.len hb.len k hlt)
      have hc : wr.cell? ⟨w.heap.size, k, none⟩ = some (.int .u8 (a.getD k 0)) := by
        rw [kA.cell]
        have h1 : ((xorD a b).take k).length = k := by simp [xorD, ha.len, hb.len]; omega
        have h2 : k < a.length := by rw [ha.len]; omega
        rw [List.getElem?_toArray, List.getElem?_map, List.getElem?_append_right (by omega), h1, Nat.sub_self, List.getElem?_drop, Nat.add_zero, List.getD_eq_getElem?_getD, List.getElem?_eq_getElem h2]
        rfl
      have fr := kA.free
      have hlt2 := kA.lt
      have HkA := hid kA
      have HkR := hid kR
      have Hbel := hid bel
      obtain ⟨hxa0, hxa1⟩ := hxa
      obtain ⟨hxb0, hxb1⟩ := hxb
      generalize a.getD k 0 = x at *
      generalize b.getD k 0 = y at *
      clear kA kR bel
      go_wp2_with fail
      refine ⟨⟨k + 1, by omega, by go_num, ?_, HkR.out.other ⟨w.heap.size, k, none⟩ (show w.heap.size ≠ w.heap.size + 1 + 1 by omega) _, Hbel.out.setCell (p := ⟨w.heap.size, k, none⟩) (Nat.le_refl _) _⟩, by simp [intOf]; omega⟩
      have h1 := HkA.out.set k (.int .u8 (xorZ x y))
      rw [List.setIfInBounds_toArray, ← List.map_set, Hst.out] at h1
      exact h1
    · have h32 : k = 32 := by omega
      have kF : Blk wr w.heap.size ((xorD a b).map (Value.int .u8)).toArray 25 := by
        rw [h32, List.take_of_length_le (by simp [xorD, ha.len, hb.len]), List.drop_eq_nil_of_le (by rw [ha.len]; omega), List.append_nil] at kA
        exact kA
      have HkF := hid kF
      have HkR := hid kR
      have Hbel := hid bel
      have H32 := hid h32
      clear kA kR bel kF h32
      go_wp2_with (first | (refine wpList_load_blk rfl 25 _ rfl w.heap.size rfl _ 25 HkF.out _ Tryz.underlying25 rfl 32 size_digest HD.out.size ?_) | (refine wpList_store_blk rfl 25 _ _ rfl (w.heap.size + 1 + 1) _ rfl rfl _ 25 HkR.out 32 size_digest HzA.out HD.out.size (ints_one _ _) ?_; intro w5 hbut5 hk5))
      exact bodyPost_ret (v := .agg ((xorD a b).map (Value.int .u8)).toArray) (results_blk Tryz.results152 _ (w.heap.size + 1 + 1) rfl _ 25 hk5 _ Tryz.underlying25 rfl 32 size_digest HD.out.size) rfl ⟨rfl, hbut5.below Hbel.out Hbel.out.size (by omega)⟩
end Go.Proofs.YtkakoiaahgchmaaGreatDoor
namespace Go.Proofs.YtkakoiaahgchmaaGreatDoor
set_option maxRecDepth 100000
open Go.ChangeShapes Go.WideShapes Go.ChangeAt Go.RowKit
set_option maxHeartbeats 4000000 in
theorem Message_any (r root : List Int) (index : Int) (a : Option Addr) (len cap : Nat) (ts : List (List Int)) (w : World) (hr : Dg r) (hroot : Dg root) (hi0 : 0 ≤ index) (hi1 : index < 18446744073709551616) (hT : TextsAt w a len cap ts) (hln : len ≤ 4000000000000) (hsl : sumLen ts < 1000000000000000000) (tab : ShaTab w) :
    Calls Tryz.prog 70 #[.agg (r.map (Value.int .u8)).toArray, .agg (root.map (Value.int .u8)).toArray, .int .u64 index, .slice a len cap] w fun e w' => e = .returned (.agg ((msgZ r root index ts.flatten).map (Value.int .u8)).toArray) ∧ Below w.heap.size w w' := by
  have HM : Hid (msgZ r root index ts.flatten = sumZ (be 32 2 ++ (r ++ (root ++ (be 32 index ++ ts.flatten))))) := hid (by unfold msgZ; rfl)
  have HD := hid (Dg.msg r root index ts.flatten)
  obtain ⟨i1, hi, hz1, hs1, hy1⟩ := info_parts info_text
  have b1 := (Below.refl w.heap.size w).alloc (Nat.le_refl _) (.cells (r.map (Value.int .u8)).toArray 25 (0, 0))
  have b2 := b1.alloc b1.size (.cells (root.map (Value.int .u8)).toArray 25 (0, 0))
  have bz := b2.alloc b2.size (.cells (byteCells 32 []) 25 (0, 0))
  have K0 := hid (((Blk.new (w := w) (n := w.heap.size) rfl (r.map (Value.int .u8)).toArray 25).old (.cells (root.map (Value.int .u8)).toArray 25 (0, 0))).old (.cells (byteCells 32 []) 25 (0, 0)))
  have K1 := hid ((Blk.new (w := (w.alloc (.cells (r.map (Value.int .u8)).toArray 25 (0, 0)))) (n := w.heap.size + 1) (by simp only [World.size_alloc]) (root.map (Value.int .u8)).toArray 25).old (.cells (byteCells 32 []) 25 (0, 0)))
  have Kr := hid (Blk.new (w := ((w.alloc (.cells (r.map (Value.int .u8)).toArray 25 (0, 0))).alloc (.cells (root.map (Value.int .u8)).toArray 25 (0, 0)))) (n := w.heap.size + 1 + 1) (by simp only [World.size_alloc]) (byteCells 32 []) 25)
  have Hb := hid bz
  have Htab := hid tab
  have hbs : w.heap.size + 1 + 1 + 1 = ((((w.alloc (.cells (r.map (Value.int .u8)).toArray 25 (0, 0))).alloc (.cells (root.map (Value.int .u8)).toArray 25 (0, 0)))).alloc (.cells (byteCells 32 []) 25 (0, 0))).heap.size := by simp only [World.size_alloc]
  have Hbs := hid hbs
  have HzA := hid zsize
  have HT := hid hT
  have hle := hT.le
  have hmx := hT.max
  have Hl1 := hid hT.length
  have hbz := bz.size
  clear tab bz b2 b1 hT hbs
  go_enter Tryz.func70, Tryz.ntmps70
  go_wp2_with fail
  refine wp_region_flow 6 [1, 2, 3] [] [(.c 0, [], []), (.c 4, [], [5]), (.b 5, [], [])] (by kernel_rfl) (by kernel_rfl) ?_
  apply Exists.intro
  refine ⟨fun w0 hb0 hF0 => ?_, ?_⟩
  · simp only [pick, List.getElem?_toArray, List.getElem?_cons_succ, List.getElem?_cons_zero, Option.toList_some, List.cons_append, List.nil_append]
    repeat (go_big_quiet_step (fail))
    exact wpQuiet_nil rfl
  refine AlChk.nil ?_
  refine Walk.call rfl 98 #[.int .u64 2] (WideAt 2) (fun v w' w'' h k => h.below k) rfl (fun w1 hb1 hF1 => ⟨by go_simp, ?_⟩) ?_
  · refine (wide_any 2 w1 (by omega) (by omega)).mono ?_
    rintro e w2 ⟨g, hg, rfl, b2, k2⟩
    exact ⟨_, rfl, b2, g, rfl, k2⟩
  rintro v w1 hb1 hF1 ⟨gw, rfl, _⟩
  apply Exists.intro
  refine ⟨fun w2 hb2 hF2 => wpQuiet_nil rfl, ?_⟩
  refine AlChk.nil ?_
  refine Walk.call rfl 98 #[.int .u64 index] (WideAt index) (fun v w' w'' h k => h.below k) rfl (fun w1 hb1 hF1 => ⟨by go_simp, ?_⟩) ?_
  · refine (wide_any index w1 hi0 hi1).mono ?_
    rintro e w2 ⟨g, hg, rfl, b2, k2⟩
    exact ⟨_, rfl, b2, g, rfl, k2⟩
  rintro v w2 hb2 hF2 ⟨gi, rfl, _⟩
  apply Exists.intro
  refine ⟨fun w3 hb3 hF3 => wpQuiet_nil rfl, ?_⟩
  refine AlChk.one rfl (fun b => .slice (some ⟨b, 0, none⟩) 4 4) (.cells #[.slice (some ⟨gw, 0, none⟩) 32 32, .slice (some ⟨w.heap.size, 0, none⟩) 32 32, .slice (some ⟨w.heap.size + 1, 0, none⟩) 32 32, .slice (some ⟨gi, 0, none⟩) 32 32] 37 (0, 0)) rfl (fun w3 hb3 hF3 => by go_simp) ?_
  refine AlChk.nil ?_
  refine Walk.blk rfl (fun b => .slice (some ⟨b, 0, none⟩) 4 4) (.cells #[.slice (some ⟨gw, 0, none⟩) 32 32, .slice (some ⟨w.heap.size, 0, none⟩) 32 32, .slice (some ⟨w.heap.size + 1, 0, none⟩) 32 32, .slice (some ⟨gi, 0, none⟩) 32 32] 37 (0, 0)) (by simp) ?_
  intro b9 w3 hb3 hF3 hge9 _
  apply Exists.intro
  refine ⟨fun w4 hb4 hF4 => wpQuiet_nil rfl, ?_⟩
  refine AlChk.nil ?_
  refine Walk.fin fun w4 h4 hF4 _ => ?_
  simp only [List.drop_succ_cons, List.drop_zero]
  have hW2 := hF4.1.1.2
  have hWi := hF4.1.2
  have k9 : Blk w4 b9 #[.slice (some ⟨gw, 0, none⟩) 32 32, .slice (some ⟨w.heap.size, 0, none⟩) 32 32, .slice (some ⟨w.heap.size + 1, 0, none⟩) 32 32, .slice (some ⟨gi, 0, none⟩) 32 32] 37 := hF4.2
  have kw : Blk w4 gw ((be 32 2).map (Value.int .u8)).toArray 5 := by
    obtain ⟨g', e1, e2⟩ := hW2
    cases e1
    exact e2
  have ki : Blk w4 gi ((be 32 index).map (Value.int .u8)).toArray 5 := by
    obtain ⟨g', e1, e2⟩ := hWi
    cases e1
    exact e2
  have k0 := K0.out.below h4
  have k1 := K1.out.below h4
  have own : OwnM w4 (w.heap.size + 1 + 1 + 1) 37 (.slice (some ⟨b9, 0, none⟩) 4 4) [be 32 2, r, root, be 32 index] :=
    OwnM.of_blk (vs := [_, _, _, _]) k9 (by rw [Hbs.out]; exact hge9) rfl rfl (by omega) fun j hj => by
      match j, hj with
      | 0, _ => exact ⟨_, _, _, rfl, hW2.text, fun _ p hp => by cases hp; exact kw.apart k9 (by decide)⟩
      | 1, _ => exact ⟨_, _, _, rfl, hr.text k0, fun _ p hp => by cases hp; exact k0.apart k9 (by decide)⟩
      | 2, _ => exact ⟨_, _, _, rfl, hroot.text k1, fun _ p hp => by cases hp; exact k1.apart k9 (by decide)⟩
      | 3, _ => exact ⟨_, _, _, rfl, hWi.text, fun _ p hp => by cases hp; exact ki.apart k9 (by decide)⟩
  have Hown := hid own
  have Hr4 := hid (Kr.out.below h4)
  have Hb4 := hid (Below.on Hb.out h4)
  have hsz4 : w.heap.size + 1 + 1 + 1 ≤ w4.heap.size := by rw [Hbs.out]; exact h4.size
  clear h4 hF4 hW2 hWi k9 kw ki k0 k1 own Kr K0 K1
  go_wp2_with (at_builtin; refine wpList_append_texts_m rfl _ _ rfl Tryz.underlying107 hi hz1 hs1 hy1 rfl Hown.out rfl HT.out Hb4.out (by omega) (by simp only [List.length_cons, List.length_nil]; omega) hsz4 ?_)
  intro v5 w5 own5 b5
  obtain ⟨a5, c5, rfl, hT5⟩ := own5.texts
  rw [show (be 32 2 :: r :: root :: be 32 index :: ts).length = len + 4 by simp [Hl1.out]] at hT5 ⊢
  have HT5 := hid hT5
  have Hb5 := hid (Hb4.out.trans (b5.mono (by omega)))
  have Hr5 := hid (Hr4.out.belowB (by omega) b5)
  clear own5 hT5 Hown b5
  go_wp2_with fail
  refine (sum_any a5 (len + 4) c5 _ w5 HT5.out (by simp only [sumLen, List.map_cons, List.sum_cons, be_length, hr.len, hroot.len]; unfold sumLen at hsl; omega) (Htab.out.below Hb5.out)).mono ?_
  rintro e w6 ⟨rfl, b6⟩
  rw [show (be 32 2 :: r :: root :: be 32 index :: ts).flatten = be 32 2 ++ (r ++ (root ++ (be 32 index ++ ts.flatten))) by simp, ← HM.out]
  have Hb6 := hid (Below.on Hb5.out b6)
  have Hr6 := hid (Hr5.out.below b6)
  clear b6 HT5
  go_wp2_with (refine wpList_store_blk rfl 25 _ _ rfl (w.heap.size + 1 + 1) _ rfl rfl _ 25 Hr6.out 32 size_digest HzA.out HD.out.size (ints_one _ _) ?_; intro w7 hbut7 hk7)
  exact bodyPost_ret (v := .agg ((msgZ r root index ts.flatten).map (Value.int .u8)).toArray) (results_blk Tryz.results70 _ (w.heap.size + 1 + 1) rfl _ 25 hk7 _ Tryz.underlying25 rfl 32 size_digest HD.out.size) rfl ⟨rfl, hbut7.below Hb6.out Hb6.out.size (by omega)⟩
end Go.Proofs.YtkakoiaahgchmaaGreatDoor
namespace Go.Proofs.YtkakoiaahgchmaaGreatDoor
set_option maxRecDepth 100000
open Go.ChangeShapes Go.WideShapes Go.ChangeAt Go.RowKit
/-- what an append may write to: the row, if it is a text of the call's own -/
theorem OwnB.typed {w w' : World} {B base : Nat} {e : TypeId} {v : Value} {bs : List Int} (h : OwnB w base e v bs) (hB : B ≤ base) (hg : w.grownBy w' v.ownBlock) : FlowB.Typed B e w w' :=
  FlowB.Typed.of_grown hg fun q hq => by
    refine ⟨Nat.le_trans hB (h.lt q hq).1, ?_⟩
    obtain ⟨⟨_, ⟨h, _⟩ | ⟨g, cap, cur, he, _, hh, _⟩⟩, _⟩ := h
    · rw [h] at hq; cases hq
    · rw [he] at hq
      simp only [Value.ownBlock, Option.some.injEq] at hq
      subst hq
      exact ⟨_, _, hh⟩
end Go.Proofs.YtkakoiaahgchmaaGreatDoor
namespace Go.Proofs.YtkakoiaahgchmaaGreatDoor
set_option maxRecDepth 100000
open Go.ChangeShapes Go.WideShapes Go.ChangeAt Go.RowKit
/-- an empty slice of bytes that the call made -/
def EmptyAt (B : Nat) (v : Value) : Prop := ∃ g, v = .slice (some ⟨g, 0, none⟩) 0 0 ∧ B ≤ g
def EmptyIn (v : Value) (w : World) : Prop := ∀ g, v = .slice (some ⟨g, 0, none⟩) 0 0 → Blk w g #[] 5
end Go.Proofs.YtkakoiaahgchmaaGreatDoor
namespace Go.Proofs.YtkakoiaahgchmaaGreatDoor
set_option maxRecDepth 100000
open Go.ChangeShapes Go.WideShapes Go.ChangeAt Go.RowKit
def zD : List Int := List.replicate 32 0
theorem Dg.zero : Dg zD := ⟨by simp [zD], fun x hx => by have := List.eq_of_mem_replicate hx; omega⟩
end Go.Proofs.YtkakoiaahgchmaaGreatDoor
namespace Go.Proofs.YtkakoiaahgchmaaGreatDoor
set_option maxRecDepth 100000
open Go.ChangeShapes Go.WideShapes Go.ChangeAt Go.RowKit
/-- an address with its last three words -/
def setAd (ad : List Int) (f s p : Int) : List Int := ad.take 5 ++ [f, s, p]
theorem Aw.set {ad : List Int} (h : Aw ad) {f s p : Int} (hf : 0 ≤ f ∧ f < 4294967296) (hs : 0 ≤ s ∧ s < 4294967296) (hp : 0 ≤ p ∧ p < 4294967296) : Aw (setAd ad f s p) := ⟨by simp [setAd, h.len], fun x hx => by
  unfold setAd at hx
  rcases List.mem_append.1 hx with h1 | h1
  · exact h.small x (List.mem_of_mem_take h1)
  · simp at h1
    rcases h1 with rfl | rfl | rfl <;> assumption⟩
theorem Aw.get {ad : List Int} (h : Aw ad) (j : Nat) : 0 ≤ ad.getD j 0 ∧ ad.getD j 0 < 4294967296 := by
  rcases Nat.lt_or_ge j ad.length with hj | hj
  · rw [List.getD_eq_getElem?_getD, List.getElem?_eq_getElem hj]
    exact h.small _ (List.getElem_mem _)
  · rw [List.getD_eq_getElem?_getD, List.getElem?_eq_none hj]
    simp
theorem Aw.cases {ad : List Int} (h : Aw ad) : ∃ a0 a1 a2 a3 a4 a5 a6 a7, ad = [a0, a1, a2, a3, a4, a5, a6, a7] := by
  obtain ⟨hl, _⟩ := h
  match ad, hl with
  | [a0, a1, a2, a3, a4, a5, a6, a7], _ => exact ⟨a0, a1, a2, a3, a4, a5, a6, a7, rfl⟩
theorem at_list (ad : List Int) (f s : Int) (w : World) (h : Aw ad) : Calls Tryz.prog 141 #[.agg (ad.map (Value.int .u32)).toArray, .int .u32 f, .int .u32 s] w fun e w' => e = .returned (.agg ((setAd ad f s 0).map (Value.int .u32)).toArray) ∧ Below w.heap.size w w' := by
  obtain ⟨a0, a1, a2, a3, a4, a5, a6, a7, rfl⟩ := h.cases
  exact at_any a0 a1 a2 a3 a4 a5 a6 a7 f s w
theorem for_list (ad : List Int) (f s p q : Int) (w : World) (h : Aw ad) : Calls Tryz.prog 150 #[.agg ((setAd ad f s p).map (Value.int .u32)).toArray, .int .u32 q] w fun e w' => e = .returned (.agg ((setAd ad f s q).map (Value.int .u32)).toArray) ∧ Below w.heap.size w w' := by
  obtain ⟨a0, a1, a2, a3, a4, a5, a6, a7, rfl⟩ := h.cases
  exact for_any a0 a1 a2 a3 a4 f s p q w
/-- a step of a chain -/
@[irreducible] def stepZ (pub ad x : List Int) (j : Nat) : List Int := fZ (atZ pub (setAd ad (ad.getD 5 0) j 0)) (xorD x (atZ pub (setAd ad (ad.getD 5 0) j 1)))
def runZ (pub ad x : List Int) (frm : Nat) : Nat → List Int
  | 0 => x
  | n + 1 => stepZ pub ad (runZ pub ad x frm n) (frm + n)
theorem Dg.step (pub ad x : List Int) (j : Nat) : Dg (stepZ pub ad x j) := by unfold stepZ; exact Dg.f _ _
theorem Dg.run {pub ad x : List Int} (hx : Dg x) (frm n : Nat) : Dg (runZ pub ad x frm n) := by
  cases n with
  | zero => exact hx
  | succ n => exact Dg.step _ _ _ _
theorem zeroA_size : (List.replicate 8 (Value.int IntKind.u32 0)).toArray.size = 8 := by simp
set_option maxHeartbeats 4000000 in
theorem step_any (pub ad x : List Int) (j ba bp bx : Nat) (w : World) (hpub : Dg pub) (had : Aw ad) (hx : Dg x) (hj : j < 100) (ka : Blk w ba (ad.map (Value.int .u32)).toArray 66) (kp : Blk w bp (pub.map (Value.int .u8)).toArray 25) (kx : Blk w bx (x.map (Value.int .u8)).toArray 25) (tab : ShaTab w) :
    Calls Tryz.prog 148 #[.int .i64 j, .pointer (some ⟨ba, 0, none⟩), .pointer (some ⟨bp, 0, none⟩), .pointer (some ⟨bx, 0, none⟩)] w fun e w' => e = .returned (.tuple #[]) ∧ But bx w w' ∧ Blk w' bx ((stepZ pub ad x j).map (Value.int .u8)).toArray 25 := by
  have HS : Hid (stepZ pub ad x j = fZ (atZ pub (setAd ad (ad.getD 5 0) j 0)) (xorD x (atZ pub (setAd ad (ad.getD 5 0) j 1)))) := hid (by unfold stepZ; rfl)
  have hf := had.get 5
  have c5 : w.cell? ⟨ba, 5, none⟩ = some (.int .u32 (ad.getD 5 0)) := by
    rw [ka.cell]
    have := had.len
    simp [List.getD_eq_getElem?_getD, show 5 < ad.length by omega]
  have HA0 := hid (had.set hf (show 0 ≤ (j : Int) ∧ (j : Int) < 4294967296 by omega) (show (0 : Int) ≤ 0 ∧ (0 : Int) < 4294967296 by omega))
  have HA1 := hid (had.set hf (show 0 ≤ (j : Int) ∧ (j : Int) < 4294967296 by omega) (show (0 : Int) ≤ 1 ∧ (1 : Int) < 4294967296 by omega))
  have HZ := hid zeroA_size
  have HzA := hid zsize
  have HaI := hid (fun W : World => at_list ad (ad.getD 5 0) j W had)
  have HfI := hid (fun (q : Int) (W : World) => for_list ad (ad.getD 5 0) j 0 q W had)
  have Htab := hid tab
  have Ka := hid ka
  have Kp := hid kp
  have Kx := hid kx
  have Hsa := hid had.size
  have hlx := kx.lt
  have hla := ka.lt
  clear tab ka kp kx
  generalize ad.getD 5 0 = f at *
  obtain ⟨hf0, hf1⟩ := hf
  go_enter Tryz.func148, Tryz.ntmps148
  go_wp2_with (refine wpList_load_blk rfl 66 _ rfl ba rfl _ 66 Ka.out _ Tryz.underlying66 rfl 8 sizeAdrs Hsa.out ?_)
  refine (HaI.out _).mono ?_
  rintro e w1 ⟨rfl, b1⟩
  have Hb1 := hid b1
  have Kp1 := hid (Kp.out.below b1)
  have Kx1 := hid (Kx.out.below b1)
  have hz1 := b1.size
  clear b1 c5
  generalize hAD : setAd ad f j 0 = AD at *
  have HAD := hid hAD
  clear hAD
  go_wp2_with (
    refine wpList_store_blk rfl 66 _ _ rfl w1.heap.size _ rfl rfl _ 66 (Blk.new rfl (List.replicate 8 (Value.int IntKind.u32 0)).toArray _) 8 sizeAdrs HZ.out HA0.out.size (ints_one _ _) ?_
    intro w2 hb2 hk2
    have Hb2 := hid (hb2.below (Hb1.out.alloc hz1 _) (by rw [World.size_alloc]; omega) hz1)
    have Kd2 := hid hk2
    have Kp2 := hid (hb2.blk (Kp1.out.old _) (by have := Kp1.out.lt; omega))
    have Kx2 := hid (hb2.blk (Kx1.out.old _) (by have := Kx1.out.lt; omega))
    clear hb2 hk2)
  simp only [Act.put]
  refine wp_region_flow 5 [0, 1, 2, 3] [4] [(.b 4, [], [])] (by kernel_rfl) (by kernel_rfl) ?_
  apply Exists.intro
  refine ⟨fun w0 hb0 hF0 => ?_, ?_⟩
  · skip
    have x0 : ∀ w', (∃ x : Ext w0, w' = x.at_) → ∃ T, Blk w' (bp) (pub.map (Value.int .u8)).toArray T := fun w' ⟨x, hx⟩ => ⟨_, hx ▸ (Kp2.out.below hb0).below x.same⟩
    have x1 : ∀ w', (∃ x : Ext w0, w' = x.at_) → ∃ T, Blk w' (w1.heap.size) (AD.map (Value.int .u32)).toArray T := fun w' ⟨x, hx⟩ => ⟨_, hx ▸ (Kd2.out.below hb0).below x.same⟩
    have c1 := fun e : Ext w0 => HfI.out 0 e.at_
    have c2 := fun e : Ext w0 => At_any pub AD e.at_ hpub HA0.out ((Htab.out.below (Below.on Hb2.out hb0)).below e.same)
    rw [HAD.out] at c1
    simp only [pick, List.getElem?_toArray, List.getElem?_cons_succ, List.getElem?_cons_zero, Option.toList_some, List.cons_append, List.nil_append]
    repeat (first | (go_big_quiet_want; refine quiet_load_blk 25 _ rfl (bp) rfl _ x0 _ Tryz.underlying25 rfl 32 size_digest hpub.size ?_; go_big_quiet_on; simp only [Act.put, List.setIfInBounds_toArray, List.set_cons_zero, List.set_cons_succ]) | (go_big_quiet_want; refine quiet_load_blk 66 _ rfl (w1.heap.size) rfl _ x1 _ Tryz.underlying66 rfl 8 sizeAdrs HA0.out.size ?_; go_big_quiet_on; simp only [Act.put, List.setIfInBounds_toArray, List.set_cons_zero, List.set_cons_succ]) | go_big_quiet_step (first | (go_at_call 150; exact Calls.ext (c1 _)) | (go_at_call 149; exact Calls.ext (c2 _))))
    exact wpQuiet_nil rfl
  refine AlChk.one rfl (fun b => .pointer (some ⟨b, 0, none⟩)) (.cells (byteCells 32 []) 25 (0, 0)) rfl (fun w3 hb3 hF3 => by go_simp; rfl) ?_
  refine AlChk.nil ?_
  refine Walk.blk rfl (fun b => .pointer (some ⟨b, 0, none⟩)) (.cells (byteCells 32 []) 25 (0, 0)) (by simp) ?_
  intro b3 w3 hb3 hF3 hge3 _
  apply Exists.intro
  refine ⟨fun w4 hb4 hF4 => wpQuiet_nil rfl, ?_⟩
  refine AlChk.nil ?_
  refine Walk.fin fun w3 h3 hF3 _ => ?_
  simp only [List.drop_succ_cons, List.drop_zero]
  have kb3 : Blk w3 b3 (byteCells 32 []) 25 := hF3.2
  have Hk3 := hid kb3
  have Hb3 := hid (Below.on Hb2.out h3)
  have Kd3 := hid (Kd2.out.below h3)
  have Kp3 := hid (Kp2.out.below h3)
  have Kx3 := hid (Kx2.out.below h3)
  have hge3w : w.heap.size ≤ b3 := Nat.le_trans Hb2.out.size hge3
  have hne31 : w1.heap.size ≠ b3 := by have := Kd2.out.lt; omega
  have hne3p : bp ≠ b3 := by have := Kp2.out.lt; omega
  have hne3x : bx ≠ b3 := by have := Kx2.out.lt; omega
  have HDk := hid (Dg.at_ pub AD)
  clear kb3 h3 hF3 Kd2 Kp2 Kx2
  go_wp2_with (
    refine wpList_store_blk rfl 25 _ _ rfl b3 _ rfl rfl _ 25 Hk3.out 32 size_digest HzA.out HDk.out.size (ints_one _ _) ?_
    intro w4 hb4 hk4
    have Hb4 := hid (hb4.below Hb3.out Hb3.out.size hge3w)
    have Kk4 := hid hk4
    have Kd4 := hid (hb4.blk Kd3.out hne31)
    have Kp4 := hid (hb4.blk Kp3.out hne3p)
    have Kx4 := hid (hb4.blk Kx3.out hne3x)
    clear hb4 hk4)
  simp only [Act.put, List.setIfInBounds_toArray, List.set_cons_zero, List.set_cons_succ]
  refine wp_region_flow 5 [0, 1, 2, 3] [4] [(.b 4, [], [])] (by kernel_rfl) (by kernel_rfl) ?_
  apply Exists.intro
  refine ⟨fun w0 hb0 hF0 => ?_, ?_⟩
  · skip
    have x0 : ∀ w', (∃ x : Ext w0, w' = x.at_) → ∃ T, Blk w' (bp) (pub.map (Value.int .u8)).toArray T := fun w' ⟨x, hx⟩ => ⟨_, hx ▸ (Kp4.out.below hb0).below x.same⟩
    have x1 : ∀ w', (∃ x : Ext w0, w' = x.at_) → ∃ T, Blk w' (w1.heap.size) (AD.map (Value.int .u32)).toArray T := fun w' ⟨x, hx⟩ => ⟨_, hx ▸ (Kd4.out.below hb0).below x.same⟩
    have c1 := fun e : Ext w0 => HfI.out 1 e.at_
    have c2 := fun e : Ext w0 => At_any pub (setAd ad f j 1) e.at_ hpub HA1.out ((Htab.out.below (Below.on Hb4.out hb0)).below e.same)
    skip
    simp only [pick, List.getElem?_toArray, List.getElem?_cons_succ, List.getElem?_cons_zero, Option.toList_some, List.cons_append, List.nil_append]
    repeat (first | (go_big_quiet_want; refine quiet_load_blk 25 _ rfl (bp) rfl _ x0 _ Tryz.underlying25 rfl 32 size_digest hpub.size ?_; go_big_quiet_on; simp only [Act.put, List.setIfInBounds_toArray, List.set_cons_zero, List.set_cons_succ]) | (go_big_quiet_want; refine quiet_load_blk 66 _ rfl (w1.heap.size) rfl _ x1 _ Tryz.underlying66 rfl 8 sizeAdrs HA0.out.size ?_; go_big_quiet_on; simp only [Act.put, List.setIfInBounds_toArray, List.set_cons_zero, List.set_cons_succ]) | go_big_quiet_step (first | (go_at_call 150; exact Calls.ext (c1 _)) | (go_at_call 149; exact Calls.ext (c2 _))))
    exact wpQuiet_nil rfl
  refine AlChk.one rfl (fun b => .pointer (some ⟨b, 0, none⟩)) (.cells (byteCells 32 []) 25 (0, 0)) rfl (fun w3 hb3 hF3 => by go_simp; rfl) ?_
  refine AlChk.nil ?_
  refine Walk.blk rfl (fun b => .pointer (some ⟨b, 0, none⟩)) (.cells (byteCells 32 []) 25 (0, 0)) (by simp) ?_
  intro b5 w3 hb3 hF3 hge5 _
  apply Exists.intro
  refine ⟨fun w4 hb4 hF4 => wpQuiet_nil rfl, ?_⟩
  refine AlChk.nil ?_
  refine Walk.fin fun w5 h5 hF5 _ => ?_
  simp only [List.drop_succ_cons, List.drop_zero]
  have kb5 : Blk w5 b5 (byteCells 32 []) 25 := hF5.2
  have Hk5 := hid kb5
  have Hb5 := hid (Below.on Hb4.out h5)
  have Kk5 := hid (Kk4.out.below h5)
  have Kp5 := hid (Kp4.out.below h5)
  have Kx5 := hid (Kx4.out.below h5)
  have hge5w : w.heap.size ≤ b5 := Nat.le_trans Hb4.out.size hge5
  have hne5k : b3 ≠ b5 := by have := Kk4.out.lt; omega
  have hne5x : bx ≠ b5 := by have := Kx4.out.lt; omega
  have HDm := hid (Dg.at_ pub (setAd ad f j 1))
  clear kb5 h5 hF5 Kd4 Kp4 Kx4 Kk4
  go_wp2_with (
    refine wpList_store_blk rfl 25 _ _ rfl b5 _ rfl rfl _ 25 Hk5.out 32 size_digest HzA.out HDm.out.size (ints_one _ _) ?_
    intro w6 hb6 hk6
    have Hb6 := hid (hb6.below Hb5.out Hb5.out.size hge5w)
    have Km6 := hid hk6
    have Kk6 := hid (hb6.blk Kk5.out hne5k)
    have Kx6 := hid (hb6.blk Kx5.out hne5x)
    clear hb6 hk6)
  simp only [Act.put, List.setIfInBounds_toArray, List.set_cons_zero, List.set_cons_succ]
  refine wp_region_flow 5 [0, 1, 2, 3, 4] [] [] (by kernel_rfl) (by kernel_rfl) ?_
  apply Exists.intro
  refine ⟨fun w0 hb0 hF0 => ?_, ?_⟩
  · skip
    have x0 : ∀ w', (∃ x : Ext w0, w' = x.at_) → ∃ T, Blk w' (b3) ((atZ pub AD).map (Value.int .u8)).toArray T := fun w' ⟨x, hx⟩ => ⟨_, hx ▸ (Kk6.out.below hb0).below x.same⟩
    have x1 : ∀ w', (∃ x : Ext w0, w' = x.at_) → ∃ T, Blk w' (bx) (x.map (Value.int .u8)).toArray T := fun w' ⟨x, hx⟩ => ⟨_, hx ▸ (Kx6.out.below hb0).below x.same⟩
    have x2 : ∀ w', (∃ x : Ext w0, w' = x.at_) → ∃ T, Blk w' (b5) ((atZ pub (setAd ad f j 1)).map (Value.int .u8)).toArray T := fun w' ⟨x, hx⟩ => ⟨_, hx ▸ (Km6.out.below hb0).below x.same⟩
    have c1 := fun e : Ext w0 => Mask_any x (atZ pub (setAd ad f j 1)) e.at_ hx HDm.out
    have c2 := fun e : Ext w0 => F_any (atZ pub AD) (xorD x (atZ pub (setAd ad f j 1))) e.at_ HDk.out (hx.xor HDm.out) ((Htab.out.below (Below.on Hb6.out hb0)).below e.same)
    rw [← HS.out] at c2
    simp only [pick, List.getElem?_toArray, List.getElem?_cons_succ, List.getElem?_cons_zero, Option.toList_some, List.cons_append, List.nil_append]
    repeat (first | (go_big_quiet_want; refine quiet_load_blk 25 _ rfl (b3) rfl _ x0 _ Tryz.underlying25 rfl 32 size_digest HDk.out.size ?_; go_big_quiet_on; simp only [Act.put, List.setIfInBounds_toArray, List.set_cons_zero, List.set_cons_succ]) | (go_big_quiet_want; refine quiet_load_blk 25 _ rfl (bx) rfl _ x1 _ Tryz.underlying25 rfl 32 size_digest hx.size ?_; go_big_quiet_on; simp only [Act.put, List.setIfInBounds_toArray, List.set_cons_zero, List.set_cons_succ]) | (go_big_quiet_want; refine quiet_load_blk 25 _ rfl (b5) rfl _ x2 _ Tryz.underlying25 rfl 32 size_digest HDm.out.size ?_; go_big_quiet_on; simp only [Act.put, List.setIfInBounds_toArray, List.set_cons_zero, List.set_cons_succ]) | go_big_quiet_step (first | (go_at_call 152; exact Calls.ext (c1 _)) | (go_at_call 151; exact Calls.ext (c2 _))))
    exact wpQuiet_nil rfl
  refine AlChk.nil ?_
  refine Walk.fin fun w7 h7 _ _ => ?_
  simp only [List.drop_succ_cons, List.drop_zero]
  have Kx7 := hid (Kx6.out.below h7)
  have Hb7 := hid (Below.on Hb6.out h7)
  have HDs := hid (Dg.step pub ad x j)
  clear h7
  go_wp2_with (refine wpList_store_blk rfl 25 _ _ rfl bx _ rfl rfl _ 25 Kx7.out 32 size_digest hx.size HDs.out.size (ints_one _ _) ?_; intro w8 hb8 hk8)
  go_returns
  exact ⟨rfl, (But.of Hb7.out).trans hb8, hk8⟩
end Go.Proofs.YtkakoiaahgchmaaGreatDoor
namespace Go.Proofs.YtkakoiaahgchmaaGreatDoor
set_option maxRecDepth 100000
open Go.ChangeShapes Go.WideShapes Go.ChangeAt Go.RowKit
set_option maxHeartbeats 4000000 in
theorem run_good (x pub ad : List Int) (from_ steps : Nat) (w : World) (hx : Dg x) (hpub : Dg pub) (had : Aw ad) (hf : from_ + steps ≤ 15) (tab : ShaTab w) :
    Calls Tryz.prog 142 #[.agg (x.map (Value.int .u8)).toArray, .int .i64 from_, .int .i64 steps, .agg (pub.map (Value.int .u8)).toArray, .agg (ad.map (Value.int .u32)).toArray] w fun e w' => e = .returned (.tuple #[.agg ((runZ pub ad x from_ steps).map (Value.int .u8)).toArray, .int .i64 0]) ∧ Below w.heap.size w w' := by
  have b1 := (Below.refl w.heap.size w).alloc (Nat.le_refl _) (.cells (x.map (Value.int .u8)).toArray 25 (0, 0))
  have b2 := b1.alloc b1.size (.cells (pub.map (Value.int .u8)).toArray 25 (0, 0))
  have b3 := b2.alloc b2.size (.cells (ad.map (Value.int .u32)).toArray 66 (0, 0))
  have bz := b3.alloc b3.size (.cells (byteCells 32 []) 25 (0, 0))
  have K0 := hid ((((Blk.new (w := w) (n := w.heap.size) rfl (x.map (Value.int .u8)).toArray 25).old (.cells (pub.map (Value.int .u8)).toArray 25 (0, 0))).old (.cells (ad.map (Value.int .u32)).toArray 66 (0, 0))).old (.cells (byteCells 32 []) 25 (0, 0)))
  have K1 := hid (((Blk.new (w := (w.alloc (.cells (x.map (Value.int .u8)).toArray 25 (0, 0)))) (n := w.heap.size + 1) (by simp only [World.size_alloc]) (pub.map (Value.int .u8)).toArray 25).old (.cells (ad.map (Value.int .u32)).toArray 66 (0, 0))).old (.cells (byteCells 32 []) 25 (0, 0)))
  have K2 := hid ((Blk.new (w := ((w.alloc (.cells (x.map (Value.int .u8)).toArray 25 (0, 0))).alloc (.cells (pub.map (Value.int .u8)).toArray 25 (0, 0)))) (n := w.heap.size + 1 + 1) (by simp only [World.size_alloc]) (ad.map (Value.int .u32)).toArray 66).old (.cells (byteCells 32 []) 25 (0, 0)))
  have Kr := hid (Blk.new (w := (((w.alloc (.cells (x.map (Value.int .u8)).toArray 25 (0, 0))).alloc (.cells (pub.map (Value.int .u8)).toArray 25 (0, 0))).alloc (.cells (ad.map (Value.int .u32)).toArray 66 (0, 0)))) (n := w.heap.size + 1 + 1 + 1) (by simp only [World.size_alloc]) (byteCells 32 []) 25)
  have Hb := hid bz
  have HzA := hid zsize
  have hbz := bz.size
  have hbs : w.heap.size + 1 + 1 + 1 + 1 = ((((w.alloc (.cells (x.map (Value.int .u8)).toArray 25 (0, 0))).alloc (.cells (pub.map (Value.int .u8)).toArray 25 (0, 0))).alloc (.cells (ad.map (Value.int .u32)).toArray 66 (0, 0))).alloc (.cells (byteCells 32 []) 25 (0, 0))).heap.size := by simp only [World.size_alloc]
  have Hbs := hid hbs
  clear bz hbs b1 b2 b3
  have Htab := hid tab
  clear tab
  have hc2 : ¬ ((15 : Int) - from_ < steps) := by omega
  go_enter Tryz.func142, Tryz.ntmps142
  go_wp2_with fail
  go_loopw [33] (fun v wr => ∃ k : Nat, k ≤ steps ∧ v = .int .i64 k ∧ Blk wr (w.heap.size) ((runZ pub ad x from_ k).map (Value.int .u8)).toArray 25 ∧ Blk wr (w.heap.size + 1) (pub.map (Value.int .u8)).toArray 25 ∧ Blk wr (w.heap.size + 1 + 1) (ad.map (Value.int .u32)).toArray 66 ∧ Blk wr (w.heap.size + 1 + 1 + 1) (byteCells 32 []) 25 ∧ Below w.heap.size w wr) (fun v _ => steps - (intOf v).toNat)
  case atStart => exact ⟨0, Nat.zero_le _, rfl, K0.out, K1.out, K2.out, Kr.out, Hb.out⟩
  case round =>
    clear K0 K1 K2 Kr Hb
    obtain ⟨k, hk, rfl, kx, kp, ka, kr, bel⟩ := hrel
    have HDk := hid (Dg.run (pub := pub) (ad := ad) hx from_ k)
    by_cases hlt : k < steps
    · have hst := step_any pub ad (runZ pub ad x from_ k) (from_ + k) _ _ _ wr hpub had HDk.out (by omega) ka kp kx (Htab.out.below bel)
      rw [show ((from_ + k : Nat) : Int) = (from_ : Int) + k by omega] at hst
      have Hst := hid hst
      have Kp := hid kp
      have Ka := hid ka
      have Kr := hid kr
      have Hbel := hid bel
      clear kx kp ka kr bel hst
      go_wp2_with fail
      refine Hst.out.mono ?_
      rintro e w4 ⟨rfl, b4, k4⟩
      have H4 := hid (And.intro k4 (And.intro (b4.blk Kp.out (by omega)) (And.intro (b4.blk Ka.out (by omega)) (And.intro (b4.blk Kr.out (by omega)) (b4.below Hbel.out Hbel.out.size (Nat.le_refl _))))))
      clear b4 k4 Hst
      go_wp2_with fail
      exact ⟨⟨k + 1, by omega, by go_num, H4.out.1, H4.out.2.1, H4.out.2.2.1, H4.out.2.2.2.1, H4.out.2.2.2.2⟩, by simp [intOf]; omega⟩
    · have hks : k = steps := by omega
      subst hks
      have Kx := hid kx
      have Kr := hid kr
      have Hbel := hid bel
      clear kx kp ka kr bel
      generalize hR : runZ pub ad x from_ k = R at *
      go_wp2_with (first | (refine wpList_load_blk rfl 25 _ rfl (w.heap.size) rfl _ 25 Kx.out _ Tryz.underlying25 rfl 32 size_digest HDk.out.size ?_) | (refine wpList_store_blk rfl 25 _ _ rfl (w.heap.size + 1 + 1 + 1) _ rfl rfl _ 25 Kr.out 32 size_digest HzA.out HDk.out.size (ints_one _ _) ?_; intro w7 hbut7 hk7))
      exact bodyPost_ret (v := .tuple #[.agg (R.map (Value.int .u8)).toArray, .int .i64 0]) (results_blk_tmp Tryz.results142 _ (w.heap.size + 1 + 1 + 1) rfl _ rfl _ 25 hk7 _ Tryz.underlying25 rfl 32 size_digest HDk.out.size) rfl ⟨by rw [hR], hbut7.below Hbel.out Hbel.out.size (by omega)⟩
end Go.Proofs.YtkakoiaahgchmaaGreatDoor
namespace Go.Proofs.YtkakoiaahgchmaaGreatDoor
set_option maxRecDepth 100000
open Go.ChangeShapes Go.WideShapes Go.ChangeAt Go.RowKit
end Go.Proofs.YtkakoiaahgchmaaGreatDoor
namespace Go.Proofs.YtkakoiaahgchmaaGreatDoor
set_option maxRecDepth 100000
open Go.ChangeShapes Go.WideShapes Go.ChangeAt Go.RowKit
section
variable {H : Type} {enc : TypeId × Value → H} {P : Program}
theorem trodAll_below (hl : laidOutB P = true) {W W' : World} (hb : Below W.heap.size W W') : ∀ (ts : List TypeId) (vs : List Value) (ds : List (DataW H)) (ps : List MemPlace),
    (ts.all fun t => P.readableRec t && decide (t < P.types.size)) = true → DataW.TrodAll enc P W 0 (fun _ => true) true ts vs ds ps →
    DataW.TrodAll enc P W' 0 (fun b => decide (b < W.heap.size)) true ts vs ds ps
  | [], _, _, _, _, h => by
    obtain ⟨rfl, rfl, rfl⟩ := trodAll_nil h
    exact trodAll_mk0
  | t :: ts, _, _, _, hall, h => by
    simp only [List.all_cons, Bool.and_eq_true, decide_eq_true_eq] at hall
    obtain ⟨⟨hr, ht⟩, hall⟩ := hall
    obtain ⟨v, vs, d, ds, p, q, rfl, rfl, rfl, h0, r0⟩ := trodAll_cons h
    have lt0 : ∀ x ∈ p, x.block < W.heap.size := by obtain ⟨m, hm⟩ := h0; exact DataW.trod_lt m _ _ _ hm
    exact trodAll_cons_mk (Below.trod hl hr ht h0 hb lt0) (trodAll_below hl hb ts vs ds q (by simpa using hall) r0)
theorem trodAll_length {W : World} {base : Nat} {sp : Nat → Bool} {hd : Bool} : ∀ (ts : List TypeId) (vs : List Value) (ds : List (DataW H)) (ps : List MemPlace), DataW.TrodAll enc P W base sp hd ts vs ds ps → ds.length = ts.length
  | [], _, _, _, h => by
    obtain ⟨rfl, rfl, rfl⟩ := trodAll_nil h
    rfl
  | t :: ts, _, _, _, h => by
    obtain ⟨v, vs, d, ds, p, q, rfl, rfl, rfl, _, r0⟩ := trodAll_cons h
    simp [trodAll_length ts vs ds q r0]
end
end Go.Proofs.YtkakoiaahgchmaaGreatDoor
namespace Go.Proofs.YtkakoiaahgchmaaGreatDoor
set_option maxRecDepth 100000
open Go.ChangeShapes Go.WideShapes Go.ChangeAt Go.RowKit
end Go.Proofs.YtkakoiaahgchmaaGreatDoor
namespace Go.Proofs.YtkakoiaahgchmaaGreatDoor
set_option maxRecDepth 100000
open Go.ChangeShapes Go.WideShapes Go.ChangeAt Go.RowKit
theorem ownNone : ownKnob Tryz.prog.godebug = none := by kernel_rfl
theorem laidAll : laidOutB Tryz.prog = true := by kernel_rfl
theorem gStart : Tryz.prog.globalNamed "planchet/sha.start" = some 0 := by kernel_rfl
theorem gKeys : Tryz.prog.globalNamed "planchet/sha.constants" = some 1 := by kernel_rfl
theorem gtStart : (Tryz.prog.globals[0]?).map (·.type) = some 65 := by kernel_rfl
theorem gtKeys : (Tryz.prog.globals[1]?).map (·.type) = some 181 := by kernel_rfl
/-- what the rows list -/
abbrev laid2 : List (String × DataW Unit) := [("planchet/sha.start", Rows.laid_planchet_sha_start), ("planchet/sha.constants", Rows.laid_planchet_sha_constants)]
def startZ : List Int := [Sha.start.a, Sha.start.b, Sha.start.c, Sha.start.d, Sha.start.e, Sha.start.f, Sha.start.g, Sha.start.h].map fun x : Nat => (x : Int)
def keysZ : List Int := Sha.keys.map fun x : Nat => (x : Int)
theorem start_tab : (Rows.laid_planchet_sha_start : DataW Unit) = Lib.tabData .u32 startZ := by kernel_rfl
theorem keys_tab : (Rows.laid_planchet_sha_constants : DataW Unit) = Lib.tabData .u32 keysZ := by kernel_rfl
theorem tab_of_laid {W : World} (h : laidMetH Tryz.prog laid2 W) : ShaTab W := by
  rw [MakeChecks.laidMetH_plain _ _ _ (by kernel_rfl)] at h
  have h' : laidMet Tryz.prog (("planchet/sha.start", Lib.tabData .u32 startZ) :: [("planchet/sha.constants", Lib.tabData .u32 keysZ)]) W := by
    rw [← start_tab, ← keys_tab]
    exact h
  have hS := Lib.tabIs_of_head gStart gtStart Tryz.underlying65 Tryz.underlying64 (by kernel_rfl) (by kernel_rfl) h'
  have hK := Lib.tabIs_of_head gKeys gtKeys Tryz.underlying181 Tryz.underlying64 (by kernel_rfl) (by kernel_rfl) h'.tail
  have cS := fun i hi => hS.cell gStart i hi
  have cK := fun i hi => hK.cell gKeys i hi
  have hlS : startZ.length = 8 := rfl
  have hlK : keysZ.length = 64 := by simp [keysZ, Sha.keys]
  refine ⟨World.block_lt_of_cell? W _ (cK 0 (by omega)), World.block_lt_of_cell? W _ (cS 0 (by omega)), fun j hj => ?_, ?_⟩
  · rw [cK j (by omega)]
    have hj' : j < Sha.keys.length := by simpa [keysZ] using (show j < keysZ.length by omega)
    simp [keysZ, hj']
  · exact ⟨cS 0 (by omega), cS 1 (by omega), cS 2 (by omega), cS 3 (by omega), cS 4 (by omega), cS 5 (by omega), cS 6 (by omega), cS 7 (by omega)⟩
/-- the door's own heap meets the condition -/
theorem door_met (os : Os) (args : Array Value) : laidMetH Tryz.prog laid2 ((World.doorLaid Tryz.prog 19 os).forCall (fun _ _ => 0) ⟨#[], args, []⟩).memory :=
  laidMetH_of_parts3 (fuel := 8) (laidMet_of_run' 8 (by kernel_rfl) (by kernel_rfl)) (by kernel_rfl) (by kernel_rfl)
/-- From the walk to what the row's builder asks, with the form's reach and the tables. -/
theorem lift_tied {H : Type} {enc : TypeId × Value → H} {os : Os} {f : FuncId} {fn : Func} {s : ChangeSpec} {conds : List PathCond} {tb : TypeId}
    (started : os.Started) (noInit : Tryz.prog.inits.idxOf? f = none) (hfn : Tryz.prog.funcs[f]? = some fn)
    (hvars : s.vars = []) (hts : (fn.params.toList.all fun t => Tryz.prog.readableRec t && decide (t < Tryz.prog.types.size)) = true)
    (hrt : fn.resultTypes = #[tb]) (htb : Tryz.prog.underlying tb = some .bool)
    (hs : ∀ ds : List (DataW H), ds.length = fn.params.toList.length → (s.fn H (ds ++ [])).results = [.lit (.bool true)] ∧ (s.fn H (ds ++ [])).args = ds ∧ (s.fn H (ds ++ [])).vars = [])
    (witness : ∃ (w : World) (tape : Tape) (i : Input), w.os = os ∧ (w.forCall tape i).Shaped Tryz.checked.prog ∧ i.vars = [] ∧ Input.okWide Tryz.checked.prog (w.forCall tape i) .any w.heap.size f i ∧
      ((s.pre enc Tryz.checked.prog fn conds false (w.forCall tape i).memory i.args ∧ laidMetH Tryz.prog laid2 (w.forCall tape i).memory) ∧ sizedMet enc Tryz.checked.prog fn (OpenSpec.ofChange s) false (w.forCall tape i).memory i.args) ∧ Assume.holds {} Tryz.checked.prog (lone (Frame.enter Tryz.checked.prog f i.args .normal) [] (w.forCall tape i)))
    (walk : ∀ (W : World) (base : Nat) (args : Array Value) (ds : List (DataW H)) (p : List MemPlace),
      (∀ (j : Nat) t v, fn.params[j]? = some t → args[j]? = some v → Value.okWide Tryz.prog W .any base t v) →
      DataW.TrodAll enc Tryz.prog W 0 (fun _ => true) true fn.params.toList args.toList ds p →
      (DataW.weightsEach Tryz.prog fn.params.toList ds).all (· ≤ reachBytes) = true → ShaTab W →
      Calls Tryz.prog f args W fun e W' => e = .returned (.bool true) ∧ Below W.heap.size W W') :
    ReturnsInHanded {} Tryz.checked os f .any (fun w args => (s.pre enc Tryz.prog fn conds false w args ∧ laidMetH Tryz.prog laid2 w) ∧ sizedMet enc Tryz.prog fn (OpenSpec.ofChange s) false w args) (s.post enc Tryz.prog fn false true false false) := by
  refine returnsInHanded_of_change_and (C := Tryz.checked) (X := fun w _ => laidMetH Tryz.prog laid2 w) (fun _ _ _ hh h => h.of_heap hh) ownNone started noInit hfn witness ?_
  intro W base args ds gs before hval hW _ hsz hL _
  have hW' := hW
  obtain ⟨p, q, hA, hV, rfl, hfz, hnd⟩ := hW
  rw [hvars] at hV
  obtain ⟨rfl, rfl⟩ := trodVars_none hV
  have hsz : (DataW.weightsEach Tryz.prog fn.params.toList ds).all (· ≤ reachBytes) = true := by
    have e1 : s.plain.varTypes Tryz.checked.prog = [] := by
      simp [DataSpec.varTypes, ChangeSpec.plain, hvars]
    rw [e1, List.append_nil, List.append_nil] at hsz
    exact hsz
  refine (walk W base args ds p hval hA hsz (tab_of_laid hL)).mono fun e W' ⟨he, bel⟩ => ?_
  subst he
  obtain ⟨h1, h2, h3⟩ := hs ds (trodAll_length _ _ _ _ hA)
  refine ⟨_, rfl, ds, [], p ++ [], [], p, [], hW', ?_, ?_, ?_, bel.frame _, fun h => by cases h⟩
  · rw [h1, hrt]
    exact trodAll_mk1 (shut_bool htb _)
  · rw [h2]
    exact trodAll_below laidAll bel _ _ _ _ hts hA
  · rw [h3, hvars]
    exact rfl
end Go.Proofs.YtkakoiaahgchmaaGreatDoor
namespace Go.Proofs.YtkakoiaahgchmaaGreatDoor
set_option maxRecDepth 100000
open Go.ChangeShapes Go.WideShapes Go.ChangeAt Go.RowKit
theorem zero67 (w : World) : (zeroValue 159).run Tryz.prog w = .ok (.agg (zeros .i64 67)) w := by kernel_rfl
theorem size67 : (Tryz.prog.info? 159).map (·.size) = some 67 := by kernel_rfl
theorem sizeDg : (Tryz.prog.info? 25).map (·.size) = some 32 := by kernel_rfl
/-- the digits of the bytes -/
def dig (ds : List Int) : List Int := ds.flatMap fun x => [x / 16, x % 16]
def rowOf (ds : List Int) (k : Nat) : List Int := dig (ds.take k) ++ List.replicate (67 - 2 * k) 0
theorem dig_length (ds : List Int) : (dig ds).length = 2 * ds.length := by
  induction ds with
  | nil => rfl
  | cons x ds ih => simp only [dig, List.flatMap_cons, List.length_append, List.length_cons, List.length_nil] at *; omega
theorem rowOf_length (ds : List Int) (hl : ds.length = 32) (k : Nat) (hk : k ≤ 32) : (rowOf ds k).length = 67 := by
  simp [rowOf, dig_length]; omega
theorem dig_append (a b : List Int) : dig (a ++ b) = dig a ++ dig b := by simp [dig]
theorem set_two (l : List Int) (m : Nat) (a b : Int) (n : Nat) (hn : l.length = n) : ((l ++ List.replicate (m + 2) 0).set n a).set (n + 1) b = l ++ [a, b] ++ List.replicate m 0 := by
  subst hn
  rw [List.replicate_succ, List.replicate_succ, List.set_append_right _ _ (by omega), List.set_append_right _ _ (by omega)]
  simp
theorem rowOf_step (ds : List Int) (hl : ds.length = 32) (k : Nat) (hk : k < 32) : (((rowOf ds k).set (2 * k) (ds.getD k 0 / 16)).set (2 * k + 1) (ds.getD k 0 % 16)) = rowOf ds (k + 1) := by
  have h1 : (dig (ds.take k)).length = 2 * k := by rw [dig_length]; simp; omega
  have h2 : ds.take (k + 1) = ds.take k ++ [ds.getD k 0] := by
    rw [List.take_succ_eq_append_getElem (by omega)]
    simp [show k < ds.length by omega]
  unfold rowOf
  rw [h2, dig_append, show 67 - 2 * k = (67 - 2 * (k + 1)) + 2 by omega, set_two _ _ _ _ _ h1]
  simp [dig]
theorem rowOf_zero (ds : List Int) (hl : ds.length = 32) (k j : Nat) (h1 : 2 * k ≤ j) (h2 : j < 67) (hk : k ≤ 32) : (rowOf ds k)[j]? = some 0 := by
  have h3 : (dig (ds.take k)).length = 2 * k := by rw [dig_length]; simp; omega
  unfold rowOf
  rw [List.getElem?_append_right (by omega), h3, List.getElem?_replicate, if_pos (by omega)]
def lacks (zs : List Int) : Int := zs.foldl (fun s x => wrap64 (s + wrap64 (15 - x))) 0
theorem lacks_snoc (zs : List Int) (x : Int) : lacks (zs ++ [x]) = wrap64 (lacks zs + wrap64 (15 - x)) := by simp [lacks]
theorem take_snoc (zs : List Int) (k : Nat) (h : k < zs.length) : zs.take (k + 1) = zs.take k ++ [zs.getD k 0] := by
  rw [List.take_succ_eq_append_getElem h]; simp [h]
/-- a slice of integers lies at the head of block b, or it is nil -/
theorem lacks_any (b : Nat) (zs : List Int) (cap : Nat) (w : World) (hl : zs.length ≤ 1000) (hc : ∀ i, i < zs.length → w.cell? ⟨b, i, none⟩ = some (.int .i64 (zs.getD i 0))) :
    Calls Tryz.prog 140 #[.slice (some ⟨b, 0, none⟩) zs.length cap] w fun e w' => e = .returned (.int .i64 (lacks zs)) ∧ w = w' := by
  generalize hn : zs.length = n at *
  have Hn := hid hn; clear hn
  go_enter Tryz.func140, Tryz.ntmps140
  go_wp2
  go_loop [3, 8] (fun s i => ∃ k : Nat, k ≤ n ∧ i = .int .i64 k ∧ s = .int .i64 (lacks (zs.take k))) (fun _ i => n - (intOf i).toNat)
  case atStart => exact ⟨0, Nat.zero_le _, rfl, rfl⟩
  case round =>
    obtain ⟨k, hk, rfl, rfl⟩ := hrel
    by_cases hlt : k < n
    · have hck := hc k hlt
      have HS := hid (take_snoc zs k (by rw [Hn.out]; exact hlt))
      have HL := hid (lacks_snoc (zs.take k) (zs.getD k 0))
      generalize hs : lacks (zs.take k) = s at *
      clear hs
      go_wp2
      go_round
      case rel => exact ⟨k + 1, by omega, by go_num, by rw [HS.out, HL.out]; simp⟩
      case measure => simp [intOf]; omega
    · obtain rfl : k = n := by omega
      have hfin : lacks (zs.take k) = lacks zs := by rw [List.take_of_length_le (by rw [Hn.out]; omega)]
      have HF := hid hfin
      clear hfin
      go_wp2
      go_ret
      exact ⟨by rw [← HF.out]; rfl, rfl⟩
/-- what numbers from 0 to 15 lack, without a wrap -/
def short (zs : List Int) : Int := (zs.map (15 - ·)).sum
theorem short_bounds (zs : List Int) (h : ∀ x ∈ zs, 0 ≤ x ∧ x ≤ 15) : 0 ≤ short zs ∧ short zs ≤ 15 * zs.length := by
  induction zs with
  | nil => simp [short]
  | cons x zs ih =>
    have h1 := h x (by simp)
    have h2 := ih (fun y hy => h y (by simp [hy]))
    simp only [short, List.map_cons, List.sum_cons, List.length_cons] at *
    omega
theorem short_append (a b : List Int) : short (a ++ b) = short a + short b := by simp [short]
theorem lacks_short (zs : List Int) (hl : zs.length ≤ 1000) (h : ∀ x ∈ zs, 0 ≤ x ∧ x ≤ 15) : lacks zs = short zs := by
  have key : ∀ k, k ≤ zs.length → lacks (zs.take k) = short (zs.take k) := by
    intro k
    induction k with
    | zero => intro _; simp [lacks, short]
    | succ k ih =>
      intro hk
      have hb := short_bounds (zs.take k) (fun x hx => h x (List.mem_of_mem_take hx))
      have hx := h zs[k] (List.getElem_mem _)
      rw [take_snoc zs k (by omega), lacks_snoc, ih (by omega), short_append]
      have hg : zs.getD k 0 = zs[k] := by simp [show k < zs.length by omega]
      have hlen : (zs.take k).length ≤ 1000 := by simp; omega
      rw [hg]
      simp only [short, List.map_cons, List.map_nil, List.sum_cons, List.sum_nil] at *
      unfold wrap64
      omega
  have := key zs.length (Nat.le_refl _)
  simpa using this
theorem dig_small (ds : List Int) (hb : ∀ x ∈ ds, 0 ≤ x ∧ x < 256) : ∀ x ∈ dig ds, 0 ≤ x ∧ x ≤ 15 := by
  intro x hx
  simp only [dig, List.mem_flatMap, List.mem_cons, List.not_mem_nil, or_false] at hx
  obtain ⟨y, hy, h⟩ := hx
  have := hb y hy
  rcases h with rfl | rfl <;> omega
/-- the digits of a digest -/
def digits (ds : List Int) : List Int := dig ds ++ [short (dig ds) / 16 / 16 % 16, short (dig ds) / 16 % 16, short (dig ds) % 16]
theorem digits_length (ds : List Int) (hl : ds.length = 32) : (digits ds).length = 67 := by simp [digits, dig_length, hl]
theorem row_full (ds : List Int) (hl : ds.length = 32) : rowOf ds 32 = dig ds ++ [0, 0, 0] := by
  unfold rowOf
  rw [List.take_of_length_le (by omega)]
  rfl
theorem set_three (ds : List Int) (hl : ds.length = 32) (a b c : Int) : (((rowOf ds 32).set 66 a).set 65 b).set 64 c = dig ds ++ [c, b, a] := by
  have h1 : (dig ds).length = 64 := by rw [dig_length, hl]
  rw [row_full ds hl, List.set_append_right _ _ (by omega), List.set_append_right _ _ (by omega), List.set_append_right _ _ (by omega), h1]
  simp
set_option maxHeartbeats 1000000 in
theorem digits_any (ds : List Int) (hl : ds.length = 32) (hb : ∀ x ∈ ds, 0 ≤ x ∧ x < 256) (w : World) :
    Calls Tryz.prog 123 #[ints .u8 ds] w fun e w' => e = .returned (ints .i64 (digits ds)) ∧ Below w.heap.size w w' := by
  have hz := zero67
  unfold ints
  generalize hD : (List.map (Value.int IntKind.u8) ds).toArray = D
  have hDs : D.size = 32 := by rw [← hD]; simp [hl]
  have HD := hid hD; clear hD
  have HDs := hid hDs; clear hDs
  have kd := ((Blk.new rfl D 25 : Blk (w.alloc _) w.heap.size D 25).old (Obj.cells (zeros IntKind.i64 67) 159)).old (Obj.cells (zeros IntKind.i64 67) 159)
  have kr := (Blk.new (by simp) (zeros IntKind.i64 67) 159 : Blk ((w.alloc (Obj.cells D 25)).alloc _) (w.heap.size + 1) _ 159).old (Obj.cells (zeros IntKind.i64 67) 159)
  have kl := (Blk.new (by simp) (zeros IntKind.i64 67) 159 : Blk (((w.alloc (Obj.cells D 25)).alloc (Obj.cells (zeros IntKind.i64 67) 159)).alloc _) (w.heap.size + 1 + 1) _ 159)
  have bel : Below w.heap.size w (((w.alloc (Obj.cells D 25)).alloc (Obj.cells (zeros IntKind.i64 67) 159)).alloc (Obj.cells (zeros IntKind.i64 67) 159)) := by go_grown
  go_enter Tryz.func123, Tryz.ntmps123
  go_wp2_with (refine wpList_load_blk rfl 25 _ rfl w.heap.size rfl D 25 kd _ Tryz.underlying25 rfl 32 sizeDg HDs.out ?_)
  generalize ((w.alloc (Obj.cells D 25)).alloc (Obj.cells (zeros IntKind.i64 67) 159)).alloc (Obj.cells (zeros IntKind.i64 67) 159) = w0 at kd kr kl bel ⊢
  clear hz
  go_loopw [9] (fun i wr => ∃ k : Nat, k ≤ 32 ∧ i = .int .i64 k ∧ Blk wr w.heap.size D 25 ∧ Blk wr (w.heap.size + 1) (zeros .i64 67) 159 ∧ Blk wr (w.heap.size + 1 + 1) ((rowOf ds k).map (Value.int .i64)).toArray 159 ∧ Below w.heap.size w wr) (fun i _ => 32 - (intOf i).toNat)
  case atStart => exact ⟨0, by omega, rfl, kd, kr, by simpa [rowOf, dig, zeros] using kl, bel⟩
  case round =>
    obtain ⟨k, hk, rfl, kd, kr, kl, bel⟩ := hrel
    by_cases hlt : k < 32
    · have hrl := hid (rowOf_length ds hl k hk)
      have hidx : ∀ w, (Instr.index 25 (.agg D) (.int .i64 k)).run Tryz.prog w = .ok (.int .u8 (ds.getD k 0)) w := fun w => by
        rw [← HD.out]
        exact run_index_ints (P := Tryz.prog) Tryz.underlying25 Tryz.underlying5 rfl rfl ds hl k hlt w
      have hx := hb (ds.getD k 0) (by rw [show ds.getD k 0 = ds[k]'(by omega) by simp [show k < ds.length by omega]]; exact List.getElem_mem _)
      have Hst := hid (rowOf_step ds hl k hlt)
      generalize ds.getD k 0 = x at *
      obtain ⟨hx0, hx1⟩ := hx
      have c1 : wr.cell? ⟨w.heap.size + 1 + 1, 2 * k, none⟩ = some (.int .i64 0) := by
        rw [kl.cell]; simp [rowOf_zero ds hl k (2 * k) (by omega) (by omega) hk]
      have c2 : wr.cell? ⟨w.heap.size + 1 + 1, 2 * k + 1, none⟩ = some (.int .i64 0) := by
        rw [kl.cell]; simp [rowOf_zero ds hl k (2 * k + 1) (by omega) (by omega) hk]
      have f1 := kl.free
      go_wp2
      have kl' := (kl.set (2 * k) (.int .i64 (x / 16))).set (2 * k + 1) (.int .i64 (x % 16))
      rw [List.setIfInBounds_toArray, List.setIfInBounds_toArray, ← List.map_set, ← List.map_set, Hst.out] at kl'
      refine ⟨⟨k + 1, by omega, by go_num, (kd.other ⟨w.heap.size + 1 + 1, 2 * k, none⟩ (by simp; omega) _).other ⟨w.heap.size + 1 + 1, 2 * k + 1, none⟩ (by simp; omega) _,
        (kr.other ⟨w.heap.size + 1 + 1, 2 * k, none⟩ (by simp) _).other ⟨w.heap.size + 1 + 1, 2 * k + 1, none⟩ (by simp) _, kl',
        (bel.setCell (p := ⟨w.heap.size + 1 + 1, 2 * k, none⟩) (by simp; omega) _).setCell (p := ⟨w.heap.size + 1 + 1, 2 * k + 1, none⟩) (by simp; omega) _⟩, by simp [intOf]; omega⟩
    · obtain rfl : k = 32 := by omega
      have hsm := dig_small ds hb
      have hdl : (dig ds).length = 64 := by rw [dig_length, hl]
      have hla := lacks_any (w.heap.size + 1 + 1) (dig ds) 67 wr (by omega) (fun i hi => by
        have hi' : i < (List.map (Value.int .i64) (dig ds)).length := by simpa using hi
        rw [kl.cell, row_full ds hl, List.map_append, List.getElem?_toArray, List.getElem?_append_left hi']
        simp [hi])
      rw [hdl, lacks_short _ (by omega) hsm] at hla
      have hsb := short_bounds (dig ds) hsm
      rw [hdl] at hsb
      have HSb := hid hsb
      have HD2 := hid (set_three ds hl)
      have hfin : digits ds = dig ds ++ [short (dig ds) / 16 / 16 % 16, short (dig ds) / 16 % 16, short (dig ds) % 16] := rfl
      have HF := hid hfin
      clear hsm hdl hsb hfin
      generalize short (dig ds) = S at *
      obtain ⟨hS0, hS1⟩ := HSb.out
      go_wp2_with fail
      refine hla.mono ?_
      rintro e w1 ⟨rfl, rfl⟩
      have g66 : wr.cell? ⟨w.heap.size + 1 + 1, 66, none⟩ = some (.int .i64 0) := by rw [kl.cell]; simp [rowOf_zero ds hl 32 66]
      have g65 : wr.cell? ⟨w.heap.size + 1 + 1, 65, none⟩ = some (.int .i64 0) := by rw [kl.cell]; simp [rowOf_zero ds hl 32 65]
      have g64 : wr.cell? ⟨w.heap.size + 1 + 1, 64, none⟩ = some (.int .i64 0) := by rw [kl.cell]; simp [rowOf_zero ds hl 32 64]
      have f1 := kl.free
      have kl' := ((kl.set 66 (.int .i64 (S % 16))).set 65 (.int .i64 (S / 16 % 16))).set 64 (.int .i64 (S / 16 / 16 % 16))
      rw [List.setIfInBounds_toArray, List.setIfInBounds_toArray, List.setIfInBounds_toArray, ← List.map_set, ← List.map_set, ← List.map_set, HD2.out, ← HF.out] at kl'
      have kr' := ((kr.other ⟨w.heap.size + 1 + 1, 66, none⟩ (by simp) (.int .i64 (S % 16))).other ⟨w.heap.size + 1 + 1, 65, none⟩ (by simp) (.int .i64 (S / 16 % 16))).other ⟨w.heap.size + 1 + 1, 64, none⟩ (by simp) (.int .i64 (S / 16 / 16 % 16))
      have bel' := ((bel.setCell (p := ⟨w.heap.size + 1 + 1, 66, none⟩) (by simp; omega) (.int .i64 (S % 16))).setCell (p := ⟨w.heap.size + 1 + 1, 65, none⟩) (by simp; omega) (.int .i64 (S / 16 % 16))).setCell (p := ⟨w.heap.size + 1 + 1, 64, none⟩) (by simp; omega) (.int .i64 (S / 16 / 16 % 16))
      clear kl kr kd bel hla
      go_wp2_with fail
      have hz67 : (zeros IntKind.i64 67).size = 67 := by simp [zeros]
      have hd67 : (List.map (Value.int IntKind.i64) (digits ds)).toArray.size = 67 := by simp [digits_length ds hl]
      have Hz := hid hz67
      have Hd := hid hd67
      clear hz67 hd67
      refine wp_loop_rounds 4 ?_
      rw [rounds_succ]
      go_wp2
      rw [rounds_succ]
      go_wp2
      rw [rounds_succ]
      go_wp2
      rw [rounds_succ]
      go_wp2_with (first | (refine wpList_load_blk rfl 159 _ rfl (w.heap.size + 1 + 1) rfl _ 159 kl' _ Tryz.underlying159 rfl 67 size67 Hd.out ?_) | (refine wpList_store_blk rfl 159 _ _ rfl (w.heap.size + 1) _ rfl rfl _ 159 kr' 67 size67 Hz.out Hd.out (ints_one _ _) ?_; intro w2 hbut hk2))
      exact bodyPost_ret (v := .agg (List.map (Value.int IntKind.i64) (digits ds)).toArray) (results_blk Tryz.results123 _ (w.heap.size + 1) rfl _ 159 hk2 _ Tryz.underlying159 rfl 67 size67 Hd.out) rfl ⟨rfl, hbut.below bel' bel'.size (by omega)⟩
end Go.Proofs.YtkakoiaahgchmaaGreatDoor
namespace Go.Proofs.YtkakoiaahgchmaaGreatDoor
set_option maxRecDepth 100000
open Go.ChangeShapes Go.WideShapes Go.ChangeAt Go.RowKit
end Go.Proofs.YtkakoiaahgchmaaGreatDoor
namespace Go.Proofs.YtkakoiaahgchmaaGreatDoor
set_option maxRecDepth 100000
open Go.ChangeShapes Go.WideShapes Go.ChangeAt Go.RowKit
/-- a row of 32 numbers each, laid flat -/
theorem flat_length {ds : List (List Int)} (h : ∀ d ∈ ds, d.length = 32) : ds.flatten.length = ds.length * 32 := by
  induction ds with
  | nil => rfl
  | cons d ds ih =>
    rw [List.flatten_cons, List.length_append, ih fun x hx => h x (List.mem_cons_of_mem _ hx), h d (List.mem_cons_self ..), List.length_cons]
    omega
theorem flat_at {ds : List (List Int)} (h : ∀ d ∈ ds, d.length = 32) : ∀ (j k : Nat), j < ds.length → k < 32 → ds.flatten[j * 32 + k]? = (ds.getD j [])[k]? := by
  induction ds with
  | nil => intro j k hj; simp at hj
  | cons d ds ih =>
    intro j k hj hk
    have hd := h d (List.mem_cons_self ..)
    rw [List.flatten_cons]
    cases j with
    | zero =>
      rw [List.getElem?_append_left (by omega)]
      simp
    | succ j =>
      rw [List.getElem?_append_right (by omega), hd, show (j + 1) * 32 + k - 32 = j * 32 + k by omega, ih (fun x hx => h x (List.mem_cons_of_mem _ hx)) j k (by simpa using hj) hk]
      simp
theorem flat_set {ds : List (List Int)} (h : ∀ d ∈ ds, d.length = 32) (x : List Int) (hx : x.length = 32) : ∀ (j : Nat), j < ds.length → splice ds.flatten (j * 32) x = (ds.set j x).flatten := by
  induction ds with
  | nil => intro j hj; simp at hj
  | cons d ds ih =>
    intro j hj
    have hd := h d (List.mem_cons_self ..)
    cases j with
    | zero =>
      unfold splice
      simp [hx, hd]
    | succ j =>
      have := ih (fun x hx => h x (List.mem_cons_of_mem _ hx)) j (by simpa using hj)
      unfold splice at this ⊢
      rw [List.set_cons_succ, List.flatten_cons, List.flatten_cons, ← this]
      rw [List.take_append, List.drop_append, hd, List.take_of_length_le (by omega), show (j + 1) * 32 - 32 = j * 32 by omega, List.drop_eq_nil_of_le (by omega), List.nil_append, show (j + 1) * 32 + x.length - 32 = j * 32 + x.length by omega, List.append_assoc]
/-- the cells of a row of digests -/
def dcs (ds : List (List Int)) : Array Value := (ds.flatten.map (Value.int .u8)).toArray
theorem dcs_size {ds : List (List Int)} (h : ∀ d ∈ ds, d.length = 32) : (dcs ds).size = ds.length * 32 := by
  unfold dcs
  rw [List.size_toArray, List.length_map, flat_length h]
theorem dcs_get (ds : List (List Int)) (j : Nat) : (dcs ds)[j]? = (ds.flatten[j]?).map (Value.int .u8) := by
  unfold dcs
  rw [List.getElem?_toArray, List.getElem?_map]
theorem Dg.lens {ds : List (List Int)} (h : ∀ d ∈ ds, Dg d) : ∀ d ∈ ds, d.length = 32 := fun d hd => (h d hd).len
theorem Dg.getD {ds : List (List Int)} (h : ∀ d ∈ ds, Dg d) {j : Nat} (hj : j < ds.length) : Dg (ds.getD j []) := by
  rw [List.getD_eq_getElem?_getD, List.getElem?_eq_getElem hj]
  exact h _ (List.getElem_mem hj)
/-- Digests, in memory that was there. -/
structure DigsAt (w : World) (a : Option Addr) (len cap : Nat) (ds : List (List Int)) : Prop where
  length : ds.length = len
  le : len ≤ cap
  max : cap ≤ 9223372036854775807
  each : ∀ d ∈ ds, Dg d
  mem : (a = none ∧ len = 0 ∧ cap = 0) ∨ ∃ x o s, a = some ⟨x, o, s⟩ ∧ ∀ j, j < len → s = none ∧ x < w.heap.size ∧ w.rangeAt x (o + j * 32) ((ds.getD j []).map (Value.int .u8))
theorem rangeAt_below {w w' : World} {x o : Nat} {cs : List Value} (h : w.rangeAt x o cs) (hx : x < w.heap.size) (hb : Below w.heap.size w w') : w'.rangeAt x o cs := fun j v hv => by
  rw [hb.cell (p := ⟨x, o + j, none⟩) hx]; exact h j v hv
theorem DigsAt.below {w w' : World} {a : Option Addr} {len cap : Nat} {ds : List (List Int)} (h : DigsAt w a len cap ds) (hb : Below w.heap.size w w') : DigsAt w' a len cap ds := by
  obtain ⟨h1, h2, h3, h4, h | ⟨x, o, s, rfl, hc⟩⟩ := h
  · exact ⟨h1, h2, h3, h4, .inl h⟩
  · refine ⟨h1, h2, h3, h4, .inr ⟨x, o, s, rfl, fun j hj => ?_⟩⟩
    obtain ⟨q0, q1, q2⟩ := hc j hj
    exact ⟨q0, Nat.lt_of_lt_of_le q1 hb.size, rangeAt_below q2 q1 hb⟩
theorem DigsAt.nil (w : World) : DigsAt w none 0 0 [] := ⟨rfl, Nat.le_refl _, by omega, by simp, .inl ⟨rfl, rfl, rfl⟩⟩
theorem DigsAt.at_ {w : World} {a : Option Addr} {len cap : Nat} {ds : List (List Int)} (h : DigsAt w a len cap ds) (h0 : 0 < len) : ∃ x o, a = some ⟨x, o, none⟩ ∧ x < w.heap.size ∧ ∀ j, j < len → w.rangeAt x (o + j * 32) ((ds.getD j []).map (Value.int .u8)) := by
  obtain ⟨h1, h2, h3, h4, ⟨_, h, _⟩ | ⟨x, o, s, rfl, hc⟩⟩ := h
  · omega
  · obtain ⟨rfl, hx, _⟩ := hc 0 h0
    exact ⟨x, o, rfl, hx, fun j hj => (hc j hj).2.2⟩
theorem DigsAt.get {w : World} {a : Option Addr} {len cap : Nat} {ds : List (List Int)} (h : DigsAt w a len cap ds) {j : Nat} (hj : j < len) : Dg (ds.getD j []) := Dg.getD h.each (by rw [h.length]; exact hj)
/-- A block of digests, laid flat. -/
theorem Blk.digs {w : World} {g : Nat} {ds : List (List Int)} {T : TypeId} (h : Blk w g (dcs ds) T) (hd : ∀ d ∈ ds, Dg d) : ∀ j, j < ds.length → w.rangeAt g (j * 32) ((ds.getD j []).map (Value.int .u8)) := fun j hj k v hv => by
  have hk : k < 32 := by
    have := (List.getElem?_eq_some_iff.1 hv).1
    simp only [List.length_map, (Dg.getD hd hj).len] at this
    exact this
  rw [h.cell, dcs_get, flat_at (Dg.lens hd) j k hj hk]
  rw [List.getElem?_map] at hv
  exact hv
theorem DigsAt.of_blk {w : World} {g n cap : Nat} {ds : List (List Int)} {T : TypeId} (h : Blk w g (dcs ds) T) (hd : ∀ d ∈ ds, Dg d) (hn : ds.length = n) (hc : n ≤ cap) (hm : cap ≤ 9223372036854775807) : DigsAt w (some ⟨g, 0, none⟩) n cap ds :=
  ⟨hn, hc, hm, hd, .inr ⟨g, 0, none, rfl, fun j hj => ⟨rfl, h.lt, by rw [Nat.zero_add]; exact h.digs hd j (by omega)⟩⟩⟩
/-- A digest is stored to a row. -/
theorem Blk.set_dig {w : World} {g : Nat} {ds : List (List Int)} {T : TypeId} (h : Blk w g (dcs ds) T) (hd : ∀ d ∈ ds, Dg d) {x : List Int} (hx : Dg x) {j : Nat} (hj : j < ds.length) :
    Blk (w.setCells g (j * 32) (x.map (Value.int .u8))) g (dcs (ds.set j x)) T := by
  have hl := flat_length (Dg.lens hd)
  unfold dcs at h ⊢
  have h0 : Blk w g (([] : List Value) ++ (ds.flatten.map (Value.int .u8) ++ [])).toArray T := by simpa using h
  have h1 := Blk.setCells [] (ds.flatten.map (Value.int .u8)) [] (j * 32) (x.map (Value.int .u8)) h0 (by simp only [List.length_map, hl, hx.len]; omega)
  have e : (([] : List Value) ++ (splice (ds.flatten.map (Value.int .u8)) (j * 32) (x.map (Value.int .u8)) ++ [])) = (ds.set j x).flatten.map (Value.int .u8) := by
    rw [← flat_set (Dg.lens hd) x hx.len j hj]
    simp [splice]
  rw [e] at h1
  simpa using h1
theorem digest_cells {H : Type} {enc : TypeId × Value → H} {P : Program} {W : World} {base : Nat} {spare : Nat → Bool} {held : Bool} {n : Nat} {e q : TypeId} {cs : List Value} {x : DataW H × List MemPlace} (he : P.underlying e = some (.array 32 q)) (hq : P.underlying q = some (.int .u8))
    (ce : P.cellsOf e = 32) (cq : P.cellsOf q = 1) (h : DataW.trod enc P W base spare held n e cs = some x) : ∃ d : List Int, Dg d ∧ cs = d.map (Value.int .u8) := by
  obtain ⟨ys, m, _, _, hl, hyl, hel⟩ := DataW.trod_array he h
  rw [ce] at hl
  have key : ∀ (j : Nat), j < 32 → ∃ x : Int, cs[j]? = some (.int .u8 x) ∧ (Lit.int .u8 x).wf = true := by
    intro j hj
    have h1 := hel j hj
    have hjl : j < cs.length := by omega
    rw [cq, Nat.mul_one] at h1
    obtain ⟨y, hy⟩ : ∃ y, ys[j]? = some y := ⟨_, List.getElem?_eq_getElem (by omega)⟩
    rw [hy] at h1
    have e1 : (cs.drop j).take 1 = [cs[j]] := by
      rw [List.drop_eq_getElem_cons hjl, List.take_succ_cons, List.take_zero]
    rw [e1] at h1
    obtain ⟨a, e0, _, wa⟩ := DataW.trod_int hq h1
    simp only [List.cons.injEq, and_true] at e0
    exact ⟨a, by rw [List.getElem?_eq_getElem hjl, e0], wa⟩
  refine ⟨cs.map fun v => match v with | .int _ x => x | _ => 0, ⟨by simp; omega, ?_⟩, ?_⟩
  · intro x hx
    simp only [List.mem_map] at hx
    obtain ⟨v, hv, rfl⟩ := hx
    obtain ⟨j, hj, rfl⟩ := List.getElem_of_mem hv
    obtain ⟨x, hx, hw⟩ := key j (by omega)
    rw [List.getElem?_eq_getElem hj] at hx
    rw [Option.some.inj hx]
    exact wf_u8 hw
  · apply List.ext_getElem?
    intro j
    rcases Nat.lt_or_ge j 32 with hj | hj
    · obtain ⟨x, hx, _⟩ := key j hj
      simp [hx]
    · rw [List.getElem?_eq_none (by omega), List.getElem?_eq_none (by simp; omega)]
/-- A row of digests of the call's own. -/
structure OwnD (w : World) (base : Nat) (e : TypeId) (v : Value) (ds : List (List Int)) : Prop where
  row : w.ownsRow base e 32 v ds.length (ds.flatten.map (Value.int .u8))
  each : ∀ d ∈ ds, Dg d
theorem OwnD.nil (w : World) (base : Nat) (e : TypeId) : OwnD w base e (.slice none 0 0) [] := ⟨World.ownsRow_nil w base e 32, by simp⟩
theorem OwnD.below {w w' : World} {base : Nat} {e : TypeId} {v : Value} {ds : List (List Int)} (h : OwnD w base e v ds) (hb : Below w.heap.size w w') : OwnD w' base e v ds := ⟨owns_below h.row hb, h.each⟩
theorem OwnD.lt {w : World} {base : Nat} {e : TypeId} {v : Value} {ds : List (List Int)} (h : OwnD w base e v ds) : ∀ k, v.ownBlock = some k → base ≤ k ∧ k < w.heap.size := h.row.lt
theorem OwnD.re {w : World} {base base' : Nat} {e : TypeId} {v : Value} {ds : List (List Int)} (h : OwnD w base e v ds) (hb : base' ≤ base) : OwnD w base' e v ds := by
  obtain ⟨⟨h1, h2⟩, h3⟩ := h
  refine ⟨⟨h1, h2.imp id ?_⟩, h3⟩
  rintro ⟨g, cap, cur, rfl, hg, hh⟩
  exact ⟨g, cap, cur, rfl, Nat.le_trans hb hg, hh⟩
theorem OwnD.of_blk {w : World} {base g n : Nat} {e : TypeId} {ds : List (List Int)} (h : Blk w g (dcs ds) e) (hg : base ≤ g) (hn : ds.length = n) (hm : n ≤ 9223372036854775807) (hs : ∀ d ∈ ds, Dg d) : OwnD w base e (.slice (some ⟨g, 0, none⟩) n n) ds := by
  subst hn
  unfold dcs at h
  have hl := flat_length (Dg.lens hs)
  exact ⟨⟨by rw [List.length_map, hl], .inr ⟨g, _, _, rfl, hg, h, Nat.le_refl _, by unfold maxLen; omega, by rw [List.size_toArray, List.length_map, hl], List.take_of_length_le (by rw [List.length_map, hl]; exact Nat.le_refl _)⟩⟩, hs⟩
theorem OwnD.digs {w : World} {base : Nat} {e : TypeId} {v : Value} {ds : List (List Int)} (h : OwnD w base e v ds) : ∃ a cap, v = .slice a ds.length cap ∧ DigsAt w a ds.length cap ds ∧ (a = none ∨ ∃ g, a = some ⟨g, 0, none⟩ ∧ base ≤ g) := by
  obtain ⟨⟨h1, ⟨rfl, h2⟩ | ⟨g, cap, cur, rfl, hg, hh, hle, hmx, hsz, htk⟩⟩, h3⟩ := h
  · obtain rfl := List.eq_nil_of_length_eq_zero h2
    exact ⟨none, 0, rfl, DigsAt.nil w, .inl rfl⟩
  · refine ⟨_, cap, rfl, ⟨rfl, hle, by unfold maxLen at hmx; omega, h3, .inr ⟨g, 0, none, rfl, fun j hj => ⟨rfl, (Array.getElem?_eq_some_iff.1 hh).1, fun k v hv => ?_⟩⟩⟩, .inr ⟨g, rfl, hg⟩⟩
    have hk : k < 32 := by
      have := (List.getElem?_eq_some_iff.1 hv).1
      simp only [List.length_map, (Dg.getD h3 hj).len] at this
      exact this
    have hb : Blk w g cur e := hh
    rw [Nat.zero_add, hb.cell]
    have : (cur.toList.take (ds.length * 32))[j * 32 + k]? = some v := by
      rw [htk, List.getElem?_map, flat_at (Dg.lens h3) j k hj hk, ← List.getElem?_map]
      exact hv
    rw [List.getElem?_take_of_lt (by omega)] at this
    simpa using this
section
variable {P : Program} {w : World} {base : Nat} {t e : TypeId} {i : TypeInfo} {v z : Value} {ds : List (List Int)}
/-- One digest more. -/
theorem run_append_dig (ty : TypeId) (ht : P.underlying t = some (.slice e)) (hi : P.info? e = some i) (hz : i.zero = some z) (hzs : z.cells.size = 32) (hsize : i.size = 32) (hby : i.bytes = 32) (hown : OwnD w base e v ds)
    {b : Nat} {x : List Int} {T : TypeId} (hk : Blk w b (x.map (Value.int .u8)).toArray T) (hx : Dg x) (hb : ds.length ≤ 4000000000000) (hbase : base ≤ w.heap.size) :
    ∃ v' w', (Builtin.append_ #[t, t] ty #[v, .slice (some ⟨b, 0, none⟩) 1 1]).run P w = .ok v' w' ∧ OwnD w' base e v' (ds ++ [x]) ∧ w.grownBy w' v.ownBlock ∧ Below base w w' := by
  have hbel : ∀ {w' : World}, w.grownBy w' v.ownBlock → Below base w w' := fun hg => ⟨hg.os, hg.tape, hg.output, hg.size, fun k hk => hg.block k (by omega) (fun e => by have := (hown.lt k e.symm).1; omega)⟩
  obtain ⟨v', w', h1, h2, h3, _⟩ := run_append_own (P := P) w base t ty e i z 32 32 ht hi hz hsize hby hzs (by omega) v ds.length _ hown.row ⟨b, 0, none⟩ 1 1 (x.map (Value.int .u8)) (by simp [hx.len]) (news_blk hk) (fun u hu => by
    simp only [List.mem_map] at hu
    obtain ⟨_, _, rfl⟩ := hu
    rfl) (by unfold maxLen; omega) (by omega) hbase
  refine ⟨v', w', h1, ⟨?_, ?_⟩, h3, ?_⟩
  · have : (ds ++ [x]).flatten.map (Value.int .u8) = ds.flatten.map (Value.int .u8) ++ x.map (Value.int .u8) := by simp
    rw [this, List.length_append]
    exact h2
  · intro d hd
    rcases List.mem_append.1 hd with h | h
    · exact hown.each d h
    · simp only [List.mem_singleton] at h
      rw [h]; exact hx
  · exact hbel h3
theorem wpList_append_dig {ops : Array Oper} {rest : List Oper} {o : Oper} {A : Act} {Q : Exit → Act → World → Prop} (hgd : o.guard = none) (s x : Operand) (ho : o.op = .call { callee := .builtin .append, args := #[s, x], argTypes := #[t, t] })
    (ht : P.underlying t = some (.slice e)) (hi : P.info? e = some i) (hz : i.zero = some z) (hzs : z.cells.size = 32) (hsize : i.size = 32) (hby : i.bytes = 32) (hs : A.eval s = v) (hown : OwnD w base e v ds)
    {b : Nat} {y : List Int} {T : TypeId} (hx : A.eval x = .slice (some ⟨b, 0, none⟩) 1 1) (hk : Blk w b (y.map (Value.int .u8)).toArray T) (hy : Dg y) (hb : ds.length ≤ 4000000000000) (hbase : base ≤ w.heap.size)
    (h : ∀ v' w', OwnD w' base e v' (ds ++ [y]) → w.grownBy w' v.ownBlock → Below base w w' → wpList P ops Q rest (A.put o.dst v') w') : wpList P ops Q (o :: rest) A w :=
  wpList_plain hgd fun K hK => by
    obtain ⟨v', w', hr, h2, h3, h4⟩ := run_append_dig o.type ht hi hz hzs hsize hby hown hk hy hb hbase
    unfold Oper.wp execOp
    simp only [ho, resolve, invoke, builtin, Sem.run_bind, Sem.run_pure, Result.andThen_ok, List.map_toArray, List.map_cons, List.map_nil, hs, hx, hr, Oper.upon_value]
    exact hK _ _ (h v' w' h2 h3 h4)
end
section
variable {P : Program} {ops : Array Oper} {rest : List Oper} {op : Oper} {a : Act} {w : World} {Q : Exit → Act → World → Prop} {t e : TypeId}
/-- An element's address. -/
theorem run_indexAt_digs (ht : P.underlying t = some (.slice e)) (hs : (P.info? e).map (·.size) = some 32) (b o len cap : Nat) (k : IntKind) (i : Int) (j : Nat) (hi : i = j) (hj : j < len) (w : World) :
    (Instr.indexAt t (.slice (some ⟨b, o, none⟩) len cap) (.int k i)).run P w = .ok (.pointer (some ⟨b, o + j * 32, none⟩)) w := by
  subst hi
  obtain ⟨i0, hi0, h32⟩ := Option.map_eq_some_iff.1 hs
  have hlt : (0 : Int) ≤ j ∧ (j : Int) < len := by omega
  unfold Instr.indexAt
  simp [asIntOf, Sem.run_bind, run_underlying ht, hlt, sizeOf, typeInfo, hi0, h32, hj, Addr.add_mid]
theorem wpList_index_digs (hgd : op.guard = none) (ty : TypeId) (x ix : Operand) (ho : op.op = .indexAddr ty x ix) (ht : P.underlying ty = some (.slice e)) (hs : (P.info? e).map (·.size) = some 32) (b o len cap : Nat) (hx : a.eval x = .slice (some ⟨b, o, none⟩) len cap)
    (k : IntKind) (i : Int) (hix : a.eval ix = .int k i) (j : Nat) (hi : i = j) (hj : j < len) (h : wpList P ops Q rest (a.put op.dst (.pointer (some ⟨b, o + j * 32, none⟩))) w) : wpList P ops Q (op :: rest) a w :=
  wpList_plain hgd fun K hK => by
    unfold Oper.wp execOp
    simp only [ho, hx, hix, Sem.run_bind, Sem.run_pure, Result.andThen_ok, run_indexAt_digs ht hs b o len cap k i j hi hj, Oper.upon_value]
    exact hK _ _ h
theorem quiet_index_digs {C : World → Prop} {K : Act → Prop} (ty : TypeId) (x ix : Operand) (ho : op.op = .indexAddr ty x ix) (ht : P.underlying ty = some (.slice e)) (hs : (P.info? e).map (·.size) = some 32) (b o len cap : Nat) (hx : a.eval x = .slice (some ⟨b, o, none⟩) len cap)
    (k : IntKind) (i : Int) (hix : a.eval ix = .int k i) (j : Nat) (hi : i = j) (hj : j < len) (h : K (a.put op.dst (.pointer (some ⟨b, o + j * 32, none⟩)))) : op.quiet P a C K :=
  ⟨.pointer (some ⟨b, o + j * 32, none⟩), fun w' hw' => by
    unfold Oper.quietAt execOp
    simp only [ho, hx, hix, Sem.run_bind, Sem.run_pure, Result.andThen_ok, run_indexAt_digs ht hs b o len cap k i j hi hj]
    simp [Oper.quietUpon], h⟩
theorem quiet_load_mid {C : World → Prop} {K : Act → Prop} (ty : TypeId) (x : Operand) (ho : op.op = .load ty x) (b o : Nat) (hx : a.eval x = .pointer (some ⟨b, o, none⟩)) (cs : List Value)
    (hk : ∀ w', C w' → w'.rangeAt b o cs) (d : TypeDesc) (hu : P.underlying ty = some d) (hd : d.isRow = true) (hi : (P.info? ty).map (·.size) = some cs.length)
    (h : K (a.put op.dst (.agg cs.toArray))) : op.quiet P a C K :=
  ⟨.agg cs.toArray, fun w' hw' => by
    unfold Oper.quietAt execOp
    simp only [ho, hx, Instr.loadAt, Instr.sureAddr, Sem.run_bind, Sem.run_pure, Result.andThen_ok, run_loadVar_mid w' b o ty cs d (hk w' hw') hu hd hi]
    simp [Oper.quietUpon], h⟩
end
end Go.Proofs.YtkakoiaahgchmaaGreatDoor
namespace Go.Proofs.YtkakoiaahgchmaaGreatDoor
set_option maxRecDepth 100000
open Go.ChangeShapes Go.WideShapes Go.ChangeAt Go.RowKit
theorem results_blk2 {P : Program} {w : World} {fn : Func} {p q : Tmp} {ty : TypeId} (h : fn.results = #[.cell p ty, .cell q ty]) (tmps : Array Value) (b c : Nat) (hp : tmps.getD p undef = .pointer (some ⟨b, 0, none⟩)) (hq : tmps.getD q undef = .pointer (some ⟨c, 0, none⟩)) (cs ds : Array Value) (T : TypeId) (hk : Blk w b cs T) (hk2 : Blk w c ds T)
    (d : TypeDesc) (hu : P.underlying ty = some d) (hd : d.isRow = true) (n : Nat) (hi : (P.info? ty).map (·.size) = some n) (hs : cs.size = n) (hs2 : ds.size = n) : (results fn tmps).run P w = .ok (.tuple #[.agg cs, .agg ds]) w := by
  have hp' : tmps[p]?.getD undef = .pointer (some ⟨b, 0, none⟩) := by simpa using hp
  have hq' : tmps[q]?.getD undef = .pointer (some ⟨c, 0, none⟩) := by simpa using hq
  have hl := run_loadVar_row (P := P) w b T ty cs (0, 0) d hk hu (by cases d <;> simp_all) (by rw [hi, hs])
  have hl2 := run_loadVar_row (P := P) w c T ty ds (0, 0) d hk2 hu (by cases d <;> simp_all) (by rw [hi, hs2])
  simp [results, h, hp', hq', asAddr, hl, hl2]
/-- a text that a function hands back -/
def TextV (t : List Int) (v : Value) (w : World) : Prop := ∃ a n c, v = .slice a n c ∧ TextAt w a n c t
theorem TextV.below {t : List Int} {v : Value} {w w' : World} (h : TextV t v w) (hb : Below w.heap.size w w') : TextV t v w' := by
  obtain ⟨a, n, c, h1, h2⟩ := h
  exact ⟨a, n, c, h1, h2.below hb⟩
theorem TextV.text {t : List Int} {a : Option Addr} {n c : Nat} {w : World} (h : TextV t (.slice a n c) w) : TextAt w a n c t := by
  obtain ⟨a', n', c', h1, h2⟩ := h
  injection h1 with e1 e2 e3
  subst e1 e2 e3
  exact h2
theorem TextV.of_own {w : World} {base : Nat} {e : TypeId} {v : Value} {bs : List Int} (h : OwnB w base e v bs) : TextV bs v w := by
  obtain ⟨a, c, h1, h2, _⟩ := h.text
  exact ⟨a, _, c, h1, h2⟩
namespace FlowB
theorem store_skips {P : Program} {o : Oper} {A : Act} {w : World} (ty : TypeId) (x y : Operand) (ho : o.op = .store ty x y) (b : Nat) (cells : Array Value) (hx : A.eval x = .pointer (some ⟨b, 0, none⟩)) (hy : A.eval y = .agg cells)
    (cs : Array Value) (T : TypeId) (hk : Blk w b cs T) (n : Nat) (hi : (P.info? ty).map (·.size) = some n) (hs : cs.size = n) (hn : cells.size = n) (h1 : cells.all (·.oneCell') = true) {S : List Nat} {G : World → Prop} (hb : b ∈ S) (hG : ∀ w2, But b w w2 → Blk w2 b cells T → G w2) :
    ∃ w2, (execOp A.eval o).run P w = .ok .skip w2 ∧ ButIn S w w2 ∧ G w2 := by
  obtain ⟨w2, q1, q2, q3⟩ := exec_store_blk ty x y ho b cells hx hy cs T hk n hi hs hn h1
  exact ⟨w2, q1, ButIn.of_but q2 hb, hG w2 q2 q3⟩
end FlowB
end Go.Proofs.YtkakoiaahgchmaaGreatDoor
namespace Go.Proofs.YtkakoiaahgchmaaGreatDoor
set_option maxRecDepth 100000
open Go.ChangeShapes Go.WideShapes Go.ChangeAt Go.RowKit
theorem flat_take {ds : List (List Int)} (h : ∀ d ∈ ds, d.length = 32) : ∀ (j : Nat), ds.flatten.take (j * 32) = (ds.take j).flatten := by
  induction ds with
  | nil => intro j; simp
  | cons d ds ih =>
    intro j
    have hd := h d (List.mem_cons_self ..)
    cases j with
    | zero => simp
    | succ j =>
      rw [List.flatten_cons, List.take_succ_cons, List.flatten_cons, List.take_append, hd, List.take_of_length_le (by omega), show (j + 1) * 32 - 32 = j * 32 by omega, ih fun x hx => h x (List.mem_cons_of_mem _ hx)]
theorem flat_drop {ds : List (List Int)} (h : ∀ d ∈ ds, d.length = 32) : ∀ (j : Nat), ds.flatten.drop (j * 32) = (ds.drop j).flatten := by
  induction ds with
  | nil => intro j; simp
  | cons d ds ih =>
    intro j
    have hd := h d (List.mem_cons_self ..)
    cases j with
    | zero => simp
    | succ j =>
      rw [List.flatten_cons, List.drop_succ_cons, List.drop_append, hd, List.drop_eq_nil_of_le (by omega), List.nil_append, show (j + 1) * 32 - 32 = j * 32 by omega, ih fun x hx => h x (List.mem_cons_of_mem _ hx)]
/-- digests are laid over a part of a row -/
theorem Blk.lay_digs {w : World} {g : Nat} {ds es : List (List Int)} {T : TypeId} (h : Blk w g (dcs ds) T) (hd : ∀ d ∈ ds, Dg d) (he : ∀ d ∈ es, Dg d) {j : Nat} (hj : j + es.length ≤ ds.length) :
    Blk (w.setCells g (j * 32) (es.flatten.map (Value.int .u8))) g (dcs (ds.take j ++ (es ++ ds.drop (j + es.length)))) T := by
  have hl := flat_length (Dg.lens hd)
  have hl2 := flat_length (Dg.lens he)
  unfold dcs at h ⊢
  have h0 : Blk w g (([] : List Value) ++ (ds.flatten.map (Value.int .u8) ++ [])).toArray T := by simpa using h
  have h1 := Blk.setCells [] (ds.flatten.map (Value.int .u8)) [] (j * 32) (es.flatten.map (Value.int .u8)) h0 (by simp only [List.length_map, hl, hl2]; omega)
  have e : (([] : List Value) ++ (splice (ds.flatten.map (Value.int .u8)) (j * 32) (es.flatten.map (Value.int .u8)) ++ [])) = (ds.take j ++ (es ++ ds.drop (j + es.length))).flatten.map (Value.int .u8) := by
    unfold splice
    rw [List.flatten_append, List.flatten_append, ← flat_take (Dg.lens hd) j, ← flat_drop (Dg.lens hd) (j + es.length)]
    rw [List.length_map, hl2, List.nil_append, List.append_nil, List.map_append, List.map_append, List.map_take, List.map_drop, show j * 32 + es.length * 32 = (j + es.length) * 32 by omega]
  rw [e] at h1
  simpa using h1
/-- where a part of a row of digests begins -/
def cutD (a : Option Addr) (l cap : Nat) : Option Addr := if cap = l then a else a.map (·.add (l * 32))
theorem cutD_zero (a : Option Addr) (cap : Nat) : cutD a 0 cap = a := by
  unfold cutD
  split
  · rfl
  · cases a with
    | none => rfl
    | some a => obtain ⟨x, o, s⟩ := a; cases s <;> simp [Addr.add]
theorem DigsAt.cut {w : World} {a : Option Addr} {len cap : Nat} {ds : List (List Int)} (h : DigsAt w a len cap ds) (l hi : Nat) (hl : l ≤ hi) (hh : hi ≤ len) : DigsAt w (cutD a l cap) (hi - l) (cap - l) ((ds.drop l).take (hi - l)) := by
  obtain ⟨h1, h2, h3, h4, h5⟩ := h
  refine ⟨by simp; omega, by omega, by omega, fun x hx => h4 x (List.mem_of_mem_drop (List.mem_of_mem_take hx)), ?_⟩
  unfold cutD
  rcases h5 with ⟨rfl, rfl, rfl⟩ | ⟨x, o, s, rfl, hc⟩
  · left
    refine ⟨by split <;> rfl, by omega, by omega⟩
  · right
    split
    · exact ⟨x, o, s, rfl, fun j hj => by omega⟩
    · rcases Nat.eq_or_lt_of_le hl with rfl | hlt
      · rcases s with _ | s
        · exact ⟨x, o + l * 32, none, by rw [Option.map_some, Addr.add_mid], fun j hj => by omega⟩
        · cases ha : (⟨x, o, some s⟩ : Addr).add (l * 32) with
          | mk x' o' s' => exact ⟨x', o', s', by simp [ha], fun j hj => by omega⟩
      · obtain ⟨rfl, hx, _⟩ := hc l (by omega)
        refine ⟨x, o + l * 32, none, by rw [Option.map_some, Addr.add_mid], fun j hj => ⟨rfl, hx, ?_⟩⟩
        rw [show o + l * 32 + j * 32 = o + (l + j) * 32 by omega]
        have := (hc (l + j) (by omega)).2.2
        rw [show ((ds.drop l).take (hi - l)).getD j [] = ds.getD (l + j) [] by simp [List.getD_eq_getElem?_getD, show j < hi - l by omega]]
        exact this
section
variable {P : Program} {t e : TypeId}
theorem run_cutd_h (ht : P.underlying t = some (.slice e)) (hs : (P.info? e).map (·.size) = some 32) (a : Option Addr) (len cap : Nat) (hi : Int) (w : World) (h0 : 0 ≤ hi) (h2 : hi ≤ cap) :
    (Instr.slice t (.slice a len cap) none (some (.int .i64 hi)) none).run P w = .ok (.slice a hi.toNat cap) w := by
  have he : P.elem t = e := by simp [Program.elem, ht]
  rw [run_slice_h (w := w) t a len cap (by rw [he]; exact ht) _ hi h0 h2]
  obtain ⟨i, hi1, hi2⟩ := Option.map_eq_some_iff.1 hs
  have := cutD_zero a cap
  unfold cutD at this
  simp only [Nat.zero_mul] at this
  simp [sizeOf, typeInfo, he, hi1, hi2, sliced, this]
theorem run_cutd_l (ht : P.underlying t = some (.slice e)) (hs : (P.info? e).map (·.size) = some 32) (a : Option Addr) (len cap : Nat) (l : Int) (w : World) (h0 : 0 ≤ l) (h1 : l ≤ len) :
    (Instr.slice t (.slice a len cap) (some (.int .i64 l)) none none).run P w = .ok (.slice (cutD a l.toNat cap) (len - l.toNat) (cap - l.toNat)) w := by
  have he : P.elem t = e := by simp [Program.elem, ht]
  rw [run_slice_l (w := w) t a len cap (by rw [he]; exact ht) _ l h0 h1]
  obtain ⟨i, hi1, hi2⟩ := Option.map_eq_some_iff.1 hs
  simp [sizeOf, typeInfo, he, hi1, hi2, sliced, cutD]
/-- copy, of digests -/
theorem run_copy_digs (w : World) (dT sT ty elem : TypeId) (hu : P.underlying dT = some (.slice elem)) (hs : (P.info? elem).map (·.size) = some 32) {b : Nat} {ds es : List (List Int)} {T : TypeId} (hk : Blk w b (dcs ds) T) (hd : ∀ d ∈ ds, Dg d) (h dLen dCap : Nat) (da : Option Addr) (hda : 0 < dLen → da = some ⟨b, h * 32, none⟩)
    {a : Option Addr} {len cap : Nat} (hT : DigsAt w a len cap es) (hfit : h + dLen ≤ ds.length) : ∃ w', (Builtin.copy_ #[dT, sT] ty #[.slice da dLen dCap, .slice a len cap]).run P w = .ok (.int .i64 (Nat.min len dLen : Nat)) w' ∧ But b w w' ∧
      Blk w' b (dcs (ds.take h ++ (es.take (Nat.min len dLen) ++ ds.drop (h + Nat.min len dLen)))) T := by
  obtain ⟨i, hq, hi⟩ := Option.map_eq_some_iff.1 hs
  rcases Nat.eq_zero_or_pos (Nat.min len dLen) with h0 | h0
  · refine ⟨w, ?_, But.of (Below.refl _ _), ?_⟩
    · have hl : ∀ (x : Addr), (loadCells x 0).run P w = .ok #[] w := fun x => by simpa using run_loadCells_list (P := P) w x [] (by simp)
      cases da <;> cases a <;> simp [Builtin.copy_, run_underlying hu, Builtin.lenOf, Builtin.firstCells, sizeOf, typeInfo, hq, h0, storeCells, hl, goInt]
    · rw [h0]
      simpa using hk
  · have hle : Nat.min len dLen ≤ len := Nat.min_le_left _ _
    have hle2 : Nat.min len dLen ≤ dLen := Nat.min_le_right _ _
    obtain rfl := hda (by omega)
    obtain ⟨x, o, rfl, hx, hc⟩ := hT.at_ (by omega)
    have hea : ∀ d ∈ es.take (Nat.min len dLen), Dg d := fun d hd => hT.each d (List.mem_of_mem_take hd)
    have hel : (es.take (Nat.min len dLen)).length = Nat.min len dLen := by rw [List.length_take, hT.length]; omega
    have hfl := flat_length (Dg.lens hea)
    rw [hel] at hfl
    generalize hm : Nat.min len dLen = m at *
    have hsrc : ∀ j v, ((es.take m).flatten.map (Value.int .u8))[j]? = some v → w.cell? ((⟨x, o, none⟩ : Addr).add j) = some v := fun j v hv => by
      have hj : j < m * 32 := by
        have := (List.getElem?_eq_some_iff.1 hv).1
        rw [List.length_map, hfl] at this
        exact this
      have hjm : j / 32 < m := by omega
      have hjk : j % 32 < 32 := by omega
      have hd2 := hc (j / 32) (by omega) (j % 32) v (by
        rw [List.getElem?_map]
        rw [List.getElem?_map, show j = j / 32 * 32 + j % 32 by omega, flat_at (Dg.lens hea) _ _ (by omega) hjk] at hv
        rw [show (es.take m).getD (j / 32) [] = es.getD (j / 32) [] by simp [List.getD_eq_getElem?_getD, hjm]] at hv
        exact hv)
      rw [Addr.add_mid, show o + j = o + j / 32 * 32 + j % 32 by omega]
      exact hd2
    have hl := run_loadCells_list (P := P) w ⟨x, o, none⟩ _ hsrc
    have hst := run_storeCells_cells (P := P) b (h * 32) ((es.take m).flatten.map (Value.int .u8)) 0 w (fun j hj => by
      rw [List.length_map, hfl] at hj
      rw [hk.cell, Array.getElem?_eq_getElem (by rw [dcs_size (Dg.lens hd)]; omega)]; rfl) (fun j _ => hk.free _) (fun v hv => by
      obtain ⟨y, _, rfl⟩ := List.mem_map.1 hv
      rfl)
    rw [List.length_map, hfl] at hl
    refine ⟨w.setCells b (h * 32) ((es.take m).flatten.map (Value.int .u8)), ?_, But.setCells _ _ _ (But.of (Below.refl _ _)), ?_⟩
    · have hmin : len.min dLen = m := hm
      generalize (es.take m).flatten.map (Value.int .u8) = cs at hl hst ⊢
      simp [Builtin.copy_, run_underlying hu, Builtin.lenOf, Builtin.firstCells, sizeOf, typeInfo, hq, hi, hmin, hl, hst, goInt]
    · have := hk.lay_digs hd hea (j := h) (by omega)
      rw [hel] at this
      exact this
end
theorem wpList_copy_digs {P : Program} {ops : Array Oper} {rest : List Oper} {op : Oper} {act : Act} {w : World} {Q : Exit → Act → World → Prop} (hgd : op.guard = none) (d s : Operand) (dT sT : TypeId)
    (ho : op.op = .call { callee := .builtin .copy, args := #[d, s], argTypes := #[dT, sT] }) (elem : TypeId) (hu : P.underlying dT = some (.slice elem)) (hs : (P.info? elem).map (·.size) = some 32)
    (b h dLen dCap : Nat) (da : Option Addr) (hd : act.eval d = .slice da dLen dCap) (hda : 0 < dLen → da = some ⟨b, h * 32, none⟩) (a : Option Addr) (len cap : Nat) (hse : act.eval s = .slice a len cap) (ds es : List (List Int)) (T : TypeId) (hk : Blk w b (dcs ds) T) (hds : ∀ d ∈ ds, Dg d) (hT : DigsAt w a len cap es) (hfit : h + dLen ≤ ds.length)
    (hn : ∀ w', But b w w' → Blk w' b (dcs (ds.take h ++ (es.take (Nat.min len dLen) ++ ds.drop (h + Nat.min len dLen)))) T → wpList P ops Q rest (act.put op.dst (.int .i64 (Nat.min len dLen : Nat))) w') : wpList P ops Q (op :: rest) act w :=
  wpList_plain hgd fun K hK => by
    obtain ⟨w', hr, h1, h2⟩ := run_copy_digs (P := P) w dT sT op.type elem hu hs hk hds h dLen dCap da hda hT hfit
    unfold Oper.wp execOp
    simp only [ho, resolve, invoke, builtin, Sem.run_bind, Sem.run_pure, Result.andThen_ok, List.map_toArray, List.map_cons, List.map_nil, hd, hse, hr, Oper.upon_value]
    exact hK _ _ (hn w' h1 h2)
theorem info_dig : (Tryz.prog.info? 25).map (fun i => (i.zero, i.size, i.bytes)) = some (some (.agg (zD.map (Value.int .u8)).toArray), 32, 32) := by kernel_rfl
theorem zD_rows (n : Nat) : madeCells (Value.agg (zD.map (Value.int .u8)).toArray).cells (n * 32) = (dcs (List.replicate n zD)) := by
  unfold dcs
  apply Array.ext'
  have hz : (List.replicate n zD).flatten = List.replicate (n * 32) 0 := by
    unfold zD
    rw [List.flatten_replicate_replicate]
  rw [hz]
  apply List.ext_getElem?
  intro j
  simp only [madeCells, Array.toList_map, Array.toList_range, List.map_replicate, List.getElem?_map, List.getElem?_replicate]
  rcases Nat.lt_or_ge j (n * 32) with hj | hj
  · rw [List.getElem?_range hj, if_pos hj]
    have hm : j % 32 < 32 := Nat.mod_lt _ (by omega)
    have hsz : (zD.map (Value.int .u8)).toArray.size = 32 := by rw [List.size_toArray, List.length_map, Dg.zero.len]
    have hc : (zD.map (Value.int .u8)).toArray[j % 32]! = Value.int .u8 0 := by
      rw [getElem!_pos _ _ (by rw [hsz]; exact hm)]
      simp only [zD, List.map_replicate, List.getElem_toArray, List.getElem_replicate]
    show some ((zD.map (Value.int .u8)).toArray[j % (zD.map (Value.int .u8)).toArray.size]!) = _
    rw [hsz, hc]
  · rw [List.getElem?_eq_none (by simpa using hj), if_neg (by omega)]
    rfl
/-- a row of digests is made -/
theorem make_digs (n : Nat) (i : Int) (hi : i = n) (hn : n ≤ 500000) (w0 : World) : (Instr.makeSlice 33 (.int .i64 i) (.int .i64 i)).run Tryz.prog w0 = .ok (.slice (some ⟨w0.heap.size, 0, none⟩) n n) (w0.alloc (.cells (dcs (List.replicate n zD)) 25)) := by
  subst hi
  obtain ⟨i0, hi, hz0, hz1, hz2⟩ := info_parts info_dig
  have hr := run_makeSlice (P := Tryz.prog) w0 33 25 i0 _ Tryz.underlying33 hi hz0 .i64 .i64 n n (by omega) (by omega) (by rw [hz1]; simp; omega) (by rw [hz2]; omega) (by omega)
  rw [hz1, Int.toNat_natCast, zD_rows] at hr
  exact hr
theorem zRow (n : Nat) : ∀ d ∈ List.replicate n zD, Dg d := fun d hd => by
  rw [List.eq_of_mem_replicate hd]; exact Dg.zero
theorem zD_cells32 : (Value.agg (zD.map (Value.int .u8)).toArray).cells.size = 32 := by
  show (zD.map (Value.int .u8)).toArray.size = 32
  rw [List.size_toArray, List.length_map, Dg.zero.len]
end Go.Proofs.YtkakoiaahgchmaaGreatDoor
namespace Go.Proofs.YtkakoiaahgchmaaGreatDoor
set_option maxRecDepth 100000
open Go.ChangeShapes Go.WideShapes Go.ChangeAt Go.RowKit
@[irreducible] def joinZ (a b pub ad : List Int) : List Int :=
  hZ (atZ pub (setAd ad (ad.getD 5 0) (ad.getD 6 0) 0)) (xorD a (atZ pub (setAd ad (ad.getD 5 0) (ad.getD 6 0) 1))) (xorD b (atZ pub (setAd ad (ad.getD 5 0) (ad.getD 6 0) 2)))
theorem Dg.join (a b pub ad : List Int) : Dg (joinZ a b pub ad) := by unfold joinZ; exact Dg.h _ _ _
theorem for_gen (ad : List Int) (q : Int) (w : World) (h : Aw ad) : Calls Tryz.prog 150 #[.agg (ad.map (Value.int .u32)).toArray, .int .u32 q] w fun e w' => e = .returned (.agg ((setAd ad (ad.getD 5 0) (ad.getD 6 0) q).map (Value.int .u32)).toArray) ∧ Below w.heap.size w w' := by
  obtain ⟨a0, a1, a2, a3, a4, a5, a6, a7, rfl⟩ := h.cases
  exact for_any a0 a1 a2 a3 a4 a5 a6 a7 q w
set_option maxHeartbeats 4000000 in
theorem ljoin_any (a b pub ad : List Int) (w : World) (ha : Dg a) (hb : Dg b) (hpub : Dg pub) (had : Aw ad) (tab : ShaTab w) :
    Calls Tryz.prog 143 #[(.agg (a.map (Value.int .u8)).toArray), (.agg (b.map (Value.int .u8)).toArray), (.agg (pub.map (Value.int .u8)).toArray), (.agg (ad.map (Value.int .u32)).toArray)] w fun e w' => e = .returned (.agg ((joinZ a b pub ad).map (Value.int .u8)).toArray) ∧ Below w.heap.size w w' := by
  have HM : Hid (joinZ a b pub ad = hZ (atZ pub (setAd ad (ad.getD 5 0) (ad.getD 6 0) 0)) (xorD a (atZ pub (setAd ad (ad.getD 5 0) (ad.getD 6 0) 1))) (xorD b (atZ pub (setAd ad (ad.getD 5 0) (ad.getD 6 0) 2)))) := hid (by unfold joinZ; rfl)
  have HD := hid (Dg.join a b pub ad)
  have CF := hid (fun (q : Int) (W : World) => for_gen ad q W had)
  have hf := had.get 5
  have hs := had.get 6
  have HA0 := hid (had.set hf hs (show (0 : Int) ≤ 0 ∧ (0 : Int) < 4294967296 by omega))
  have HA1 := hid (had.set hf hs (show (0 : Int) ≤ 1 ∧ (1 : Int) < 4294967296 by omega))
  have HA2 := hid (had.set hf hs (show (0 : Int) ≤ 2 ∧ (2 : Int) < 4294967296 by omega))
  have HQ0 := hid (Dg.at_ pub (setAd ad (ad.getD 5 0) (ad.getD 6 0) 0))
  have HQ1 := hid (Dg.at_ pub (setAd ad (ad.getD 5 0) (ad.getD 6 0) 1))
  have HQ2 := hid (Dg.at_ pub (setAd ad (ad.getD 5 0) (ad.getD 6 0) 2))
  clear hf hs
  generalize ad.getD 5 0 = f at *
  generalize ad.getD 6 0 = s at *
  have b1 := (Below.refl w.heap.size w).alloc (Nat.le_refl _) (.cells (a.map (Value.int .u8)).toArray 25 (0, 0))
  have b2 := b1.alloc b1.size (.cells (b.map (Value.int .u8)).toArray 25 (0, 0))
  have b3 := b2.alloc b2.size (.cells (pub.map (Value.int .u8)).toArray 25 (0, 0))
  have b4 := b3.alloc b3.size (.cells (ad.map (Value.int .u32)).toArray 66 (0, 0))
  have b5 := b4.alloc b4.size (.cells (byteCells 32 []) 25 (0, 0))
  have Ka := hid (((((Blk.new (w := w) (n := w.heap.size) rfl (a.map (Value.int .u8)).toArray 25).old (.cells (b.map (Value.int .u8)).toArray 25 (0, 0))).old (.cells (pub.map (Value.int .u8)).toArray 25 (0, 0))).old (.cells (ad.map (Value.int .u32)).toArray 66 (0, 0))).old (.cells (byteCells 32 []) 25 (0, 0)))
  have Kb := hid ((((Blk.new (w := (w.alloc (.cells (a.map (Value.int .u8)).toArray 25 (0, 0)))) (n := w.heap.size + 1) (by simp only [World.size_alloc]) (b.map (Value.int .u8)).toArray 25).old (.cells (pub.map (Value.int .u8)).toArray 25 (0, 0))).old (.cells (ad.map (Value.int .u32)).toArray 66 (0, 0))).old (.cells (byteCells 32 []) 25 (0, 0)))
  have Kp := hid (((Blk.new (w := ((w.alloc (.cells (a.map (Value.int .u8)).toArray 25 (0, 0))).alloc (.cells (b.map (Value.int .u8)).toArray 25 (0, 0)))) (n := w.heap.size + 1 + 1) (by simp only [World.size_alloc]) (pub.map (Value.int .u8)).toArray 25).old (.cells (ad.map (Value.int .u32)).toArray 66 (0, 0))).old (.cells (byteCells 32 []) 25 (0, 0)))
  have Kad := hid ((Blk.new (w := (((w.alloc (.cells (a.map (Value.int .u8)).toArray 25 (0, 0))).alloc (.cells (b.map (Value.int .u8)).toArray 25 (0, 0))).alloc (.cells (pub.map (Value.int .u8)).toArray 25 (0, 0)))) (n := w.heap.size + 1 + 1 + 1) (by simp only [World.size_alloc]) (ad.map (Value.int .u32)).toArray 66).old (.cells (byteCells 32 []) 25 (0, 0)))
  have Kr0 := hid (Blk.new (w := ((((w.alloc (.cells (a.map (Value.int .u8)).toArray 25 (0, 0))).alloc (.cells (b.map (Value.int .u8)).toArray 25 (0, 0))).alloc (.cells (pub.map (Value.int .u8)).toArray 25 (0, 0))).alloc (.cells (ad.map (Value.int .u32)).toArray 66 (0, 0)))) (n := w.heap.size + 1 + 1 + 1 + 1) (by simp only [World.size_alloc]) (byteCells 32 []) 25)
  have Hb := hid b5
  have HzA := hid zsize
  have hbz := b5.size
  have Hbs := hid (show w.heap.size + 1 + 1 + 1 + 1 + 1 = (((((w.alloc (.cells (a.map (Value.int .u8)).toArray 25 (0, 0))).alloc (.cells (b.map (Value.int .u8)).toArray 25 (0, 0))).alloc (.cells (pub.map (Value.int .u8)).toArray 25 (0, 0))).alloc (.cells (ad.map (Value.int .u32)).toArray 66 (0, 0))).alloc (.cells (byteCells 32 []) 25 (0, 0))).heap.size by simp only [World.size_alloc])
  have Htab := hid tab
  clear b1 b2 b3 b4 b5 tab
  go_enter Tryz.func143, Tryz.ntmps143
  go_wp2_with fail
  refine wp_region_flow 5 [0, 1, 2, 3] [4] [(.b 4, [], [])] (by kernel_rfl) (by kernel_rfl) ?_
  apply Exists.intro
  refine ⟨fun w0 hb0 hF0 => ?_, ?_⟩
  · skip
    have x0 : ∀ w', (∃ x : Ext w0, w' = x.at_) → ∃ T, Blk w' (w.heap.size + 1 + 1) (pub.map (Value.int .u8)).toArray T := fun w' ⟨x, hx⟩ => ⟨_, hx ▸ (Kp.out.below hb0).below x.same⟩
    have x1 : ∀ w', (∃ x : Ext w0, w' = x.at_) → ∃ T, Blk w' (w.heap.size + 1 + 1 + 1) (ad.map (Value.int .u32)).toArray T := fun w' ⟨x, hx⟩ => ⟨_, hx ▸ (Kad.out.below hb0).below x.same⟩
    have c0 := fun e : Ext w0 => CF.out 0 e.at_
    have c1 := fun e : Ext w0 => At_any pub (setAd ad f s 0) e.at_ hpub HA0.out ((Htab.out.below (Below.on Hb.out hb0)).below e.same)
    simp only [pick, List.getElem?_toArray, List.getElem?_cons_succ, List.getElem?_cons_zero, Option.toList_some, List.cons_append, List.nil_append]
    repeat (first | (go_big_quiet_want; refine quiet_load_blk 25 _ rfl (w.heap.size + 1 + 1) rfl _ x0 _ Tryz.underlying25 rfl 32 size_digest hpub.size ?_; go_big_quiet_on; simp only [Act.put, List.setIfInBounds_toArray, List.set_cons_zero, List.set_cons_succ]) | (go_big_quiet_want; refine quiet_load_blk 66 _ rfl (w.heap.size + 1 + 1 + 1) rfl _ x1 _ Tryz.underlying66 rfl 8 sizeAdrs had.size ?_; go_big_quiet_on; simp only [Act.put, List.setIfInBounds_toArray, List.set_cons_zero, List.set_cons_succ]) | go_big_quiet_step (first | (go_at_call 150; with_reducible exact Calls.ext (c0 _)) | (go_at_call 149; with_reducible exact Calls.ext (c1 _))))
    exact wpQuiet_nil rfl
  refine AlChk.one rfl (fun b => .pointer (some ⟨b, 0, none⟩)) (.cells (byteCells 32 []) 25 (0, 0)) rfl (fun w3 hb3 hF3 => by go_simp; rfl) ?_
  refine AlChk.nil ?_
  refine Walk.blk rfl (fun b => .pointer (some ⟨b, 0, none⟩)) (.cells (byteCells 32 []) 25 (0, 0)) (by simp) ?_
  intro bw1 wz hbz_ hFz hgew1 _
  apply Exists.intro
  refine ⟨fun w4 hb4 hF4 => wpQuiet_nil rfl, ?_⟩
  refine AlChk.nil ?_
  refine Walk.fin fun w1 hw1 hFw1 _ => ?_
  simp only [List.drop_succ_cons, List.drop_zero]
  have kbw1 : Blk w1 bw1 (byteCells 32 []) 25 := hFw1.2
  have Kzw1 := hid kbw1
  have hgww1 : w.heap.size ≤ bw1 := Nat.le_trans Hb.out.size hgew1
  clear hbz_ hFz hFw1 kbw1
  have hgsw1 : w.heap.size + 1 + 1 + 1 + 1 + 1 ≤ bw1 := by rw [Hbs.out]; exact hgew1
  have hnaw1 : w.heap.size ≠ bw1 := by omega
  have hnbw1 : w.heap.size + 1 ≠ bw1 := by omega
  have hnpw1 : w.heap.size + 1 + 1 ≠ bw1 := by omega
  have hnadw1 : w.heap.size + 1 + 1 + 1 ≠ bw1 := by omega
  have hnr0w1 : w.heap.size + 1 + 1 + 1 + 1 ≠ bw1 := by omega
  have HBw1 := hid (Below.on Hb.out hw1)
  have hsw1 := HBw1.out.size
  have Kaw1 := hid (Ka.out.below hw1)
  have Kbw1 := hid (Kb.out.below hw1)
  have Kpw1 := hid (Kp.out.below hw1)
  have Kadw1 := hid (Kad.out.below hw1)
  have Kr0w1 := hid (Kr0.out.below hw1)
  clear hw1
  generalize hQ0 : atZ pub (setAd ad f s 0) = Q0 at *
  go_wp2_with (
        refine wpList_store_blk rfl 25 _ _ rfl bw1 (Q0.map (Value.int .u8)).toArray rfl rfl _ 25 Kzw1.out 32 size_digest HzA.out HQ0.out.size (ints_one _ _) ?_
        intro w2 hbw2 hkw2
        have HBw2 := hid (hbw2.below HBw1.out HBw1.out.size hgww1)
        have hsw2 := HBw2.out.size
        have Kxw2 := hid hkw2
        have Kaw2 := hid (hbw2.blk Kaw1.out hnaw1)
        have Kbw2 := hid (hbw2.blk Kbw1.out hnbw1)
        have Kpw2 := hid (hbw2.blk Kpw1.out hnpw1)
        have Kadw2 := hid (hbw2.blk Kadw1.out hnadw1)
        have Kr0w2 := hid (hbw2.blk Kr0w1.out hnr0w1)
        clear hbw2 hkw2)
  simp only [Act.put, List.setIfInBounds_toArray, List.set_cons_zero, List.set_cons_succ]
  refine wp_region_flow 5 [0, 1, 2, 3] [4] [(.b 4, [], [])] (by kernel_rfl) (by kernel_rfl) ?_
  apply Exists.intro
  refine ⟨fun w0 hb0 hF0 => ?_, ?_⟩
  · skip
    have x0 : ∀ w', (∃ x : Ext w0, w' = x.at_) → ∃ T, Blk w' (w.heap.size + 1 + 1) (pub.map (Value.int .u8)).toArray T := fun w' ⟨x, hx⟩ => ⟨_, hx ▸ (Kpw2.out.below hb0).below x.same⟩
    have x1 : ∀ w', (∃ x : Ext w0, w' = x.at_) → ∃ T, Blk w' (w.heap.size + 1 + 1 + 1) (ad.map (Value.int .u32)).toArray T := fun w' ⟨x, hx⟩ => ⟨_, hx ▸ (Kadw2.out.below hb0).below x.same⟩
    have c0 := fun e : Ext w0 => CF.out 1 e.at_
    have c1 := fun e : Ext w0 => At_any pub (setAd ad f s 1) e.at_ hpub HA1.out ((Htab.out.below (Below.on HBw2.out hb0)).below e.same)
    simp only [pick, List.getElem?_toArray, List.getElem?_cons_succ, List.getElem?_cons_zero, Option.toList_some, List.cons_append, List.nil_append]
    repeat (first | (go_big_quiet_want; refine quiet_load_blk 25 _ rfl (w.heap.size + 1 + 1) rfl _ x0 _ Tryz.underlying25 rfl 32 size_digest hpub.size ?_; go_big_quiet_on; simp only [Act.put, List.setIfInBounds_toArray, List.set_cons_zero, List.set_cons_succ]) | (go_big_quiet_want; refine quiet_load_blk 66 _ rfl (w.heap.size + 1 + 1 + 1) rfl _ x1 _ Tryz.underlying66 rfl 8 sizeAdrs had.size ?_; go_big_quiet_on; simp only [Act.put, List.setIfInBounds_toArray, List.set_cons_zero, List.set_cons_succ]) | go_big_quiet_step (first | (go_at_call 150; with_reducible exact Calls.ext (c0 _)) | (go_at_call 149; with_reducible exact Calls.ext (c1 _))))
    exact wpQuiet_nil rfl
  refine AlChk.one rfl (fun b => .pointer (some ⟨b, 0, none⟩)) (.cells (byteCells 32 []) 25 (0, 0)) rfl (fun w3 hb3 hF3 => by go_simp; rfl) ?_
  refine AlChk.nil ?_
  refine Walk.blk rfl (fun b => .pointer (some ⟨b, 0, none⟩)) (.cells (byteCells 32 []) 25 (0, 0)) (by simp) ?_
  intro bw3 wz hbz_ hFz hgew3 _
  apply Exists.intro
  refine ⟨fun w4 hb4 hF4 => wpQuiet_nil rfl, ?_⟩
  refine AlChk.nil ?_
  refine Walk.fin fun w3 hw3 hFw3 _ => ?_
  simp only [List.drop_succ_cons, List.drop_zero]
  have kbw3 : Blk w3 bw3 (byteCells 32 []) 25 := hFw3.2
  have Kzw3 := hid kbw3
  have hgww3 : w.heap.size ≤ bw3 := Nat.le_trans HBw2.out.size hgew3
  clear hbz_ hFz hFw3 kbw3
  have hnaw3 : w.heap.size ≠ bw3 := by have := Kaw2.out.lt; omega
  have hnbw3 : w.heap.size + 1 ≠ bw3 := by have := Kbw2.out.lt; omega
  have hnpw3 : w.heap.size + 1 + 1 ≠ bw3 := by have := Kpw2.out.lt; omega
  have hnadw3 : w.heap.size + 1 + 1 + 1 ≠ bw3 := by have := Kadw2.out.lt; omega
  have hnr0w3 : w.heap.size + 1 + 1 + 1 + 1 ≠ bw3 := by have := Kr0w2.out.lt; omega
  have hnxw3 : bw1 ≠ bw3 := by have := Kxw2.out.lt; omega
  have HBw3 := hid (Below.on HBw2.out hw3)
  have hsw3 := HBw3.out.size
  have Kaw3 := hid (Kaw2.out.below hw3)
  have Kbw3 := hid (Kbw2.out.below hw3)
  have Kpw3 := hid (Kpw2.out.below hw3)
  have Kadw3 := hid (Kadw2.out.below hw3)
  have Kr0w3 := hid (Kr0w2.out.below hw3)
  have Kxw3 := hid (Kxw2.out.below hw3)
  clear hw3
  generalize hQ1 : atZ pub (setAd ad f s 1) = Q1 at *
  go_wp2_with (
        refine wpList_store_blk rfl 25 _ _ rfl bw3 (Q1.map (Value.int .u8)).toArray rfl rfl _ 25 Kzw3.out 32 size_digest HzA.out HQ1.out.size (ints_one _ _) ?_
        intro w4 hbw4 hkw4
        have HBw4 := hid (hbw4.below HBw3.out HBw3.out.size hgww3)
        have hsw4 := HBw4.out.size
        have Kyw4 := hid hkw4
        have Kaw4 := hid (hbw4.blk Kaw3.out hnaw3)
        have Kbw4 := hid (hbw4.blk Kbw3.out hnbw3)
        have Kpw4 := hid (hbw4.blk Kpw3.out hnpw3)
        have Kadw4 := hid (hbw4.blk Kadw3.out hnadw3)
        have Kr0w4 := hid (hbw4.blk Kr0w3.out hnr0w3)
        have Kxw4 := hid (hbw4.blk Kxw3.out hnxw3)
        clear hbw4 hkw4)
  simp only [Act.put, List.setIfInBounds_toArray, List.set_cons_zero, List.set_cons_succ]
  refine wp_region_flow 5 [0, 1, 2, 3] [4] [(.b 4, [], [])] (by kernel_rfl) (by kernel_rfl) ?_
  apply Exists.intro
  refine ⟨fun w0 hb0 hF0 => ?_, ?_⟩
  · skip
    have x0 : ∀ w', (∃ x : Ext w0, w' = x.at_) → ∃ T, Blk w' (w.heap.size + 1 + 1) (pub.map (Value.int .u8)).toArray T := fun w' ⟨x, hx⟩ => ⟨_, hx ▸ (Kpw4.out.below hb0).below x.same⟩
    have x1 : ∀ w', (∃ x : Ext w0, w' = x.at_) → ∃ T, Blk w' (w.heap.size + 1 + 1 + 1) (ad.map (Value.int .u32)).toArray T := fun w' ⟨x, hx⟩ => ⟨_, hx ▸ (Kadw4.out.below hb0).below x.same⟩
    have c0 := fun e : Ext w0 => CF.out 2 e.at_
    have c1 := fun e : Ext w0 => At_any pub (setAd ad f s 2) e.at_ hpub HA2.out ((Htab.out.below (Below.on HBw4.out hb0)).below e.same)
    simp only [pick, List.getElem?_toArray, List.getElem?_cons_succ, List.getElem?_cons_zero, Option.toList_some, List.cons_append, List.nil_append]
    repeat (first | (go_big_quiet_want; refine quiet_load_blk 25 _ rfl (w.heap.size + 1 + 1) rfl _ x0 _ Tryz.underlying25 rfl 32 size_digest hpub.size ?_; go_big_quiet_on; simp only [Act.put, List.setIfInBounds_toArray, List.set_cons_zero, List.set_cons_succ]) | (go_big_quiet_want; refine quiet_load_blk 66 _ rfl (w.heap.size + 1 + 1 + 1) rfl _ x1 _ Tryz.underlying66 rfl 8 sizeAdrs had.size ?_; go_big_quiet_on; simp only [Act.put, List.setIfInBounds_toArray, List.set_cons_zero, List.set_cons_succ]) | go_big_quiet_step (first | (go_at_call 150; with_reducible exact Calls.ext (c0 _)) | (go_at_call 149; with_reducible exact Calls.ext (c1 _))))
    exact wpQuiet_nil rfl
  refine AlChk.one rfl (fun b => .pointer (some ⟨b, 0, none⟩)) (.cells (byteCells 32 []) 25 (0, 0)) rfl (fun w3 hb3 hF3 => by go_simp; rfl) ?_
  refine AlChk.nil ?_
  refine Walk.blk rfl (fun b => .pointer (some ⟨b, 0, none⟩)) (.cells (byteCells 32 []) 25 (0, 0)) (by simp) ?_
  intro bw5 wz hbz_ hFz hgew5 _
  apply Exists.intro
  refine ⟨fun w4 hb4 hF4 => wpQuiet_nil rfl, ?_⟩
  refine AlChk.nil ?_
  refine Walk.fin fun w5 hw5 hFw5 _ => ?_
  simp only [List.drop_succ_cons, List.drop_zero]
  have kbw5 : Blk w5 bw5 (byteCells 32 []) 25 := hFw5.2
  have Kzw5 := hid kbw5
  have hgww5 : w.heap.size ≤ bw5 := Nat.le_trans HBw4.out.size hgew5
  clear hbz_ hFz hFw5 kbw5
  have hnaw5 : w.heap.size ≠ bw5 := by have := Kaw4.out.lt; omega
  have hnbw5 : w.heap.size + 1 ≠ bw5 := by have := Kbw4.out.lt; omega
  have hnpw5 : w.heap.size + 1 + 1 ≠ bw5 := by have := Kpw4.out.lt; omega
  have hnadw5 : w.heap.size + 1 + 1 + 1 ≠ bw5 := by have := Kadw4.out.lt; omega
  have hnr0w5 : w.heap.size + 1 + 1 + 1 + 1 ≠ bw5 := by have := Kr0w4.out.lt; omega
  have hnxw5 : bw1 ≠ bw5 := by have := Kxw4.out.lt; omega
  have hnyw5 : bw3 ≠ bw5 := by have := Kyw4.out.lt; omega
  have HBw5 := hid (Below.on HBw4.out hw5)
  have hsw5 := HBw5.out.size
  have Kaw5 := hid (Kaw4.out.below hw5)
  have Kbw5 := hid (Kbw4.out.below hw5)
  have Kpw5 := hid (Kpw4.out.below hw5)
  have Kadw5 := hid (Kadw4.out.below hw5)
  have Kr0w5 := hid (Kr0w4.out.below hw5)
  have Kxw5 := hid (Kxw4.out.below hw5)
  have Kyw5 := hid (Kyw4.out.below hw5)
  clear hw5
  generalize hQ2 : atZ pub (setAd ad f s 2) = Q2 at *
  go_wp2_with (
        refine wpList_store_blk rfl 25 _ _ rfl bw5 (Q2.map (Value.int .u8)).toArray rfl rfl _ 25 Kzw5.out 32 size_digest HzA.out HQ2.out.size (ints_one _ _) ?_
        intro w6 hbw6 hkw6
        have HBw6 := hid (hbw6.below HBw5.out HBw5.out.size hgww5)
        have hsw6 := HBw6.out.size
        have Kzw6 := hid hkw6
        have Kaw6 := hid (hbw6.blk Kaw5.out hnaw5)
        have Kbw6 := hid (hbw6.blk Kbw5.out hnbw5)
        have Kpw6 := hid (hbw6.blk Kpw5.out hnpw5)
        have Kadw6 := hid (hbw6.blk Kadw5.out hnadw5)
        have Kr0w6 := hid (hbw6.blk Kr0w5.out hnr0w5)
        have Kxw6 := hid (hbw6.blk Kxw5.out hnxw5)
        have Kyw6 := hid (hbw6.blk Kyw5.out hnyw5)
        clear hbw6 hkw6)
  simp only [Act.put, List.setIfInBounds_toArray, List.set_cons_zero, List.set_cons_succ]
  refine wp_region_flow 8 (List.range 8) [] [] (by kernel_rfl) (by kernel_rfl) ?_
  apply Exists.intro
  refine ⟨fun w0 hb0 hF0 => ?_, ?_⟩
  · skip
    have x0 : ∀ w', (∃ x : Ext w0, w' = x.at_) → ∃ T, Blk w' (bw1) (Q0.map (Value.int .u8)).toArray T := fun w' ⟨x, hx⟩ => ⟨_, hx ▸ (Kxw6.out.below hb0).below x.same⟩
    have x1 : ∀ w', (∃ x : Ext w0, w' = x.at_) → ∃ T, Blk w' (w.heap.size) (a.map (Value.int .u8)).toArray T := fun w' ⟨x, hx⟩ => ⟨_, hx ▸ (Kaw6.out.below hb0).below x.same⟩
    have x2 : ∀ w', (∃ x : Ext w0, w' = x.at_) → ∃ T, Blk w' (bw3) (Q1.map (Value.int .u8)).toArray T := fun w' ⟨x, hx⟩ => ⟨_, hx ▸ (Kyw6.out.below hb0).below x.same⟩
    have x3 : ∀ w', (∃ x : Ext w0, w' = x.at_) → ∃ T, Blk w' (w.heap.size + 1) (b.map (Value.int .u8)).toArray T := fun w' ⟨x, hx⟩ => ⟨_, hx ▸ (Kbw6.out.below hb0).below x.same⟩
    have x4 : ∀ w', (∃ x : Ext w0, w' = x.at_) → ∃ T, Blk w' (bw5) (Q2.map (Value.int .u8)).toArray T := fun w' ⟨x, hx⟩ => ⟨_, hx ▸ (Kzw6.out.below hb0).below x.same⟩
    have c0 := fun e : Ext w0 => Mask_any a Q1 e.at_ ha HQ1.out
    have c1 := fun e : Ext w0 => Mask_any b Q2 e.at_ hb HQ2.out
    have c2 := fun e : Ext w0 => H_any Q0 (xorD a Q1) (xorD b Q2) e.at_ HQ0.out (ha.xor HQ1.out) (hb.xor HQ2.out) ((Htab.out.below (Below.on HBw6.out hb0)).below e.same)
    rw [← HM.out] at c2
    simp only [pick, List.range, List.range.loop, List.getElem?_toArray, List.getElem?_cons_succ, List.getElem?_cons_zero, Option.toList_some, List.cons_append, List.nil_append]
    repeat (first | (go_big_quiet_want; refine quiet_load_blk 25 _ rfl (bw1) rfl _ x0 _ Tryz.underlying25 rfl 32 size_digest HQ0.out.size ?_; go_big_quiet_on; simp only [Act.put, List.setIfInBounds_toArray, List.set_cons_zero, List.set_cons_succ]) | (go_big_quiet_want; refine quiet_load_blk 25 _ rfl (w.heap.size) rfl _ x1 _ Tryz.underlying25 rfl 32 size_digest ha.size ?_; go_big_quiet_on; simp only [Act.put, List.setIfInBounds_toArray, List.set_cons_zero, List.set_cons_succ]) | (go_big_quiet_want; refine quiet_load_blk 25 _ rfl (bw3) rfl _ x2 _ Tryz.underlying25 rfl 32 size_digest HQ1.out.size ?_; go_big_quiet_on; simp only [Act.put, List.setIfInBounds_toArray, List.set_cons_zero, List.set_cons_succ]) | (go_big_quiet_want; refine quiet_load_blk 25 _ rfl (w.heap.size + 1) rfl _ x3 _ Tryz.underlying25 rfl 32 size_digest hb.size ?_; go_big_quiet_on; simp only [Act.put, List.setIfInBounds_toArray, List.set_cons_zero, List.set_cons_succ]) | (go_big_quiet_want; refine quiet_load_blk 25 _ rfl (bw5) rfl _ x4 _ Tryz.underlying25 rfl 32 size_digest HQ2.out.size ?_; go_big_quiet_on; simp only [Act.put, List.setIfInBounds_toArray, List.set_cons_zero, List.set_cons_succ]) | go_big_quiet_step (first | (go_at_call 152; with_reducible exact Calls.ext (c0 _)) | (go_at_call 152; with_reducible exact Calls.ext (c1 _)) | (go_at_call 153; with_reducible exact Calls.ext (c2 _))))
    exact wpQuiet_nil rfl
  refine AlChk.nil ?_
  refine Walk.fin fun w7 hw7 _ _ => ?_
  simp only [List.drop_succ_cons, List.drop_zero]
  have HBw7 := hid (Below.on HBw6.out hw7)
  have hsw7 := HBw7.out.size
  have Kaw7 := hid (Kaw6.out.below hw7)
  have Kbw7 := hid (Kbw6.out.below hw7)
  have Kpw7 := hid (Kpw6.out.below hw7)
  have Kadw7 := hid (Kadw6.out.below hw7)
  have Kr0w7 := hid (Kr0w6.out.below hw7)
  have Kxw7 := hid (Kxw6.out.below hw7)
  have Kyw7 := hid (Kyw6.out.below hw7)
  have Kzw7 := hid (Kzw6.out.below hw7)
  clear hw7
  generalize hR : joinZ a b pub ad = R at *
  go_wp2_with (refine wpList_store_blk rfl 25 _ _ rfl (w.heap.size + 1 + 1 + 1 + 1) _ rfl rfl _ 25 Kr0w7.out 32 size_digest HzA.out HD.out.size (ints_one _ _) ?_; intro wr hbutr hkr)
  exact bodyPost_ret (v := (.agg (R.map (Value.int .u8)).toArray)) (results_blk Tryz.results143 _ (w.heap.size + 1 + 1 + 1 + 1) rfl _ 25 hkr _ Tryz.underlying25 rfl 32 size_digest HD.out.size) rfl ⟨by rw [hR], hbutr.below HBw7.out HBw7.out.size (by omega)⟩
end Go.Proofs.YtkakoiaahgchmaaGreatDoor
namespace Go.Proofs.YtkakoiaahgchmaaGreatDoor
set_option maxRecDepth 100000
open Go.ChangeShapes Go.WideShapes Go.ChangeAt Go.RowKit
theorem andNot_one : ∀ n : Fin 68, bits .andNot .i64 ((n.val : Nat) : Int) 1 = ((n.val - n.val % 2 : Nat) : Int) := by decide +kernel
/-- a digest is stored to a row -/
theorem wpList_store_dig {P : Program} {ops : Array Oper} {rest : List Oper} {op : Oper} {a : Act} {w : World} {Q : Exit → Act → World → Prop} (hgd : op.guard = none) (ty : TypeId) (x y : Operand) (ho : op.op = .store ty x y) (b j : Nat) (d : List Int) (hx : a.eval x = .pointer (some ⟨b, 0 + j * 32, none⟩)) (hy : a.eval y = .agg (d.map (Value.int .u8)).toArray)
    (ds : List (List Int)) (T : TypeId) (hk : Blk w b (dcs ds) T) (hds : ∀ d ∈ ds, Dg d) (hd : Dg d) (hj : j < ds.length) (hi : (P.info? ty).map (·.size) = some 32)
    (h : ∀ w', But b w w' → Blk w' b (dcs (ds.set j d)) T → wpList P ops Q rest (a.put op.dst undef) w') : wpList P ops Q (op :: rest) a w := by
  refine wpList_store_mid hgd ty x y ho b (0 + j * 32) (d.map (Value.int .u8)).toArray hx hy (fun k hk' => ⟨?_, hk.free _⟩) (by rw [hi, hd.size]) (ints_one _ _) ?_
  · rw [hd.size] at hk'
    rw [hk.cell, Array.getElem?_eq_getElem (by rw [dcs_size (Dg.lens hds)]; omega)]; rfl
  · rw [Nat.zero_add]
    exact h _ (But.setCells _ _ _ (But.of (Below.refl _ _))) (hk.set_dig hds hd hj)
def aboveZ (pub ad : List Int) (lev : Int) (ds : List (List Int)) : List (List Int) :=
  ((List.range (ds.length / 2)).map fun (i : Nat) => joinZ (ds.getD (2 * i) []) (ds.getD (2 * i + 1) []) pub (setAd ad lev i 0)) ++ ds.drop (ds.length - ds.length % 2)
theorem aboveZ_length (pub ad : List Int) (lev : Int) (ds : List (List Int)) : (aboveZ pub ad lev ds).length = (ds.length + 1) / 2 := by
  simp only [aboveZ, List.length_append, List.length_map, List.length_range, List.length_drop]
  omega
theorem aboveZ_each {pub ad : List Int} {lev : Int} {ds : List (List Int)} (h : ∀ d ∈ ds, Dg d) : ∀ d ∈ aboveZ pub ad lev ds, Dg d := fun d hd => by
  unfold aboveZ at hd
  rcases List.mem_append.1 hd with hd | hd
  · obtain ⟨i, _, rfl⟩ := List.mem_map.1 hd
    exact Dg.join _ _ _ _
  · exact h d (List.mem_of_mem_drop hd)
/-- the row, while it is filled -/
def fillZ (pub ad : List Int) (lev : Int) (ds : List (List Int)) (k : Nat) : List (List Int) :=
  ((List.range k).map fun (i : Nat) => joinZ (ds.getD (2 * i) []) (ds.getD (2 * i + 1) []) pub (setAd ad lev i 0)) ++ (List.replicate (ds.length / 2 - k) zD ++ ds.drop (ds.length - ds.length % 2))
theorem fillZ_length {pub ad : List Int} {lev : Int} {ds : List (List Int)} {k : Nat} (h : k ≤ ds.length / 2) : (fillZ pub ad lev ds k).length = (ds.length + 1) / 2 := by
  simp only [fillZ, List.length_append, List.length_map, List.length_range, List.length_drop, List.length_replicate]
  omega
theorem fillZ_each {pub ad : List Int} {lev : Int} {ds : List (List Int)} (h : ∀ d ∈ ds, Dg d) (k : Nat) : ∀ d ∈ fillZ pub ad lev ds k, Dg d := fun d hd => by
  unfold fillZ at hd
  rcases List.mem_append.1 hd with hd | hd
  · obtain ⟨i, _, rfl⟩ := List.mem_map.1 hd
    exact Dg.join _ _ _ _
  · rcases List.mem_append.1 hd with hd | hd
    · exact zRow _ d hd
    · exact h d (List.mem_of_mem_drop hd)
theorem fillZ_set {pub ad : List Int} {lev : Int} {ds : List (List Int)} {k : Nat} (h : k < ds.length / 2) : (fillZ pub ad lev ds k).set k (joinZ (ds.getD (2 * k) []) (ds.getD (2 * k + 1) []) pub (setAd ad lev k 0)) = fillZ pub ad lev ds (k + 1) := by
  unfold fillZ
  rw [List.set_append_right _ _ (by simp), show ds.length / 2 - k = (ds.length / 2 - (k + 1)) + 1 by omega, List.replicate_succ, List.range_succ, List.map_append]
  simp
theorem fillZ_zero (pub ad : List Int) (lev : Int) (ds : List (List Int)) : fillZ pub ad lev ds 0 = (List.replicate ((ds.length + 1) / 2) zD).take (ds.length / 2) ++ ((((ds.drop (ds.length - ds.length % 2)).take (ds.length % 2)).take (Nat.min (ds.length % 2) (ds.length % 2))) ++ (List.replicate ((ds.length + 1) / 2) zD).drop (ds.length / 2 + Nat.min (ds.length % 2) (ds.length % 2))) := by
  unfold fillZ
  have hm : Nat.min (ds.length % 2) (ds.length % 2) = ds.length % 2 := Nat.min_self _
  have hd : (ds.drop (ds.length - ds.length % 2)).length = ds.length % 2 := by rw [List.length_drop]; omega
  rw [hm, List.take_replicate, List.drop_replicate, List.take_take, List.take_of_length_le (by rw [hd]; omega), show (ds.length + 1) / 2 - (ds.length / 2 + ds.length % 2) = 0 by omega, show min (ds.length / 2) ((ds.length + 1) / 2) = ds.length / 2 by omega]
  simp
theorem fillZ_done (pub ad : List Int) (lev : Int) (ds : List (List Int)) : fillZ pub ad lev ds (ds.length / 2) = aboveZ pub ad lev ds := by
  unfold fillZ aboveZ
  simp
set_option maxHeartbeats 4000000 in
theorem above_any (na : Option Addr) (n nc : Nat) (ds : List (List Int)) (pub ad : List Int) (lev : Int) (w : World) (hN : DigsAt w na n nc ds) (hn : 2 ≤ n ∧ n ≤ 67) (hpub : Dg pub) (had : Aw ad) (hlev : 0 ≤ lev ∧ lev < 4294967296) (tab : ShaTab w) :
    Calls Tryz.prog 128 #[.slice na n nc, (.agg (pub.map (Value.int .u8)).toArray), (.agg (ad.map (Value.int .u32)).toArray), .int .u32 lev] w fun e w' => ∃ v, e = .returned v ∧ Below w.heap.size w w' ∧ OwnD w' w.heap.size 25 v (aboveZ pub ad lev ds) := by
  have HN := hid hN
  have hle := hN.le
  have hmx := hN.max
  have Hnl := hid hN.length
  have hand := andNot_one ⟨n, by omega⟩
  obtain ⟨hn0, hn1⟩ := hn
  clear hN
  have b1 := (Below.refl w.heap.size w).alloc (Nat.le_refl _) (.cells (pub.map (Value.int .u8)).toArray 25 (0, 0))
  have b2 := b1.alloc b1.size (.cells (ad.map (Value.int .u32)).toArray 66 (0, 0))
  have Kp := hid ((Blk.new (w := w) (n := w.heap.size) rfl (pub.map (Value.int .u8)).toArray 25).old (.cells (ad.map (Value.int .u32)).toArray 66 (0, 0)))
  have Kad := hid (Blk.new (w := (w.alloc (.cells (pub.map (Value.int .u8)).toArray 25 (0, 0)))) (n := w.heap.size + 1) (by simp only [World.size_alloc]) (ad.map (Value.int .u32)).toArray 66)
  have Hb := hid b2
  have HzA := hid zsize
  have hbz := b2.size
  have Hbs := hid (show w.heap.size + 1 + 1 = ((w.alloc (.cells (pub.map (Value.int .u8)).toArray 25 (0, 0))).alloc (.cells (ad.map (Value.int .u32)).toArray 66 (0, 0))).heap.size by simp only [World.size_alloc])
  have Htab := hid tab
  clear b1 b2 tab
  have hb2 := Hb.out
  have b3 := hb2.alloc hb2.size (.cells (dcs (List.replicate ((n + 1) / 2) zD)) 25 (0, 0))
  have Kg3 := hid (Blk.new (w := ((w.alloc (.cells (pub.map (Value.int .u8)).toArray 25 (0, 0))).alloc (.cells (ad.map (Value.int .u32)).toArray 66 (0, 0)))) (n := (w.heap.size + 1 + 1)) (by simp only [World.size_alloc]) (dcs (List.replicate ((n + 1) / 2) zD)) 25)
  have Kp3 := hid (Kp.out.old (.cells (dcs (List.replicate ((n + 1) / 2) zD)) 25 (0, 0)))
  have Ka3 := hid (Kad.out.old (.cells (dcs (List.replicate ((n + 1) / 2) zD)) 25 (0, 0)))
  have Hb3 := hid b3
  have HN3 := hid (HN.out.below b3)
  clear b3 hb2
  have hmk := fun W : World => make_digs ((n + 1) / 2) (((n : Int) + 1) / 2) (by omega) (by omega) W
  have hc1 : ∀ W : World, (Instr.slice 33 (.slice (some ⟨(w.heap.size + 1 + 1), 0, none⟩) ((n + 1) / 2) ((n + 1) / 2)) (some (.int .i64 ((n : Int) / 2))) none none).run Tryz.prog W = .ok (.slice (cutD (some ⟨(w.heap.size + 1 + 1), 0, none⟩) (n / 2) ((n + 1) / 2)) (n % 2) ((n + 1) / 2 - n / 2)) W := fun W => by
    have := run_cutd_l (P := Tryz.prog) Tryz.underlying33 size_digest (some ⟨(w.heap.size + 1 + 1), 0, none⟩) ((n + 1) / 2) ((n + 1) / 2) ((n : Int) / 2) W (by omega) (by omega)
    rw [show ((n : Int) / 2).toNat = n / 2 by omega, show (n + 1) / 2 - n / 2 = n % 2 by omega] at this
    rw [this, show (n + 1) / 2 - n / 2 = n % 2 by omega]
  have hc2 : ∀ W : World, (Instr.slice 33 (.slice na n nc) (some (.int .i64 ((n - n % 2 : Nat) : Int))) none none).run Tryz.prog W = .ok (.slice (cutD na (n - n % 2) nc) (n % 2) (nc - (n - n % 2))) W := fun W => by
    have := run_cutd_l (P := Tryz.prog) Tryz.underlying33 size_digest na n nc ((n - n % 2 : Nat) : Int) W (by omega) (by omega)
    rw [Int.toNat_natCast, show n - (n - n % 2) = n % 2 by omega] at this
    exact this
  have hda : 0 < n % 2 → cutD (some ⟨(w.heap.size + 1 + 1), 0, none⟩) (n / 2) ((n + 1) / 2) = some ⟨(w.heap.size + 1 + 1), n / 2 * 32, none⟩ := fun h => by
    unfold cutD
    rw [if_neg (by omega), Option.map_some, Addr.add_mid, Nat.zero_add]
  have hDt := HN3.out.cut (n - n % 2) n (by omega) (Nat.le_refl _)
  rw [show n - (n - n % 2) = n % 2 by omega] at hDt
  have HDt := hid hDt
  have Hda := hid hda
  clear hDt hda
  generalize hdA : cutD (some ⟨(w.heap.size + 1 + 1), 0, none⟩) (n / 2) ((n + 1) / 2) = dA at *
  generalize hsA : cutD na (n - n % 2) nc = sA at *
  clear hdA hsA
  go_enter Tryz.func128, Tryz.ntmps128
  go_wp2_with fail
  refine wp_region_flow 10 (List.range 10) [] [] (by kernel_rfl) (by kernel_rfl) ?_
  apply Exists.intro
  refine ⟨fun w0 hb0 hF0 => ?_, ?_⟩
  · simp only [pick, List.range, List.range.loop, List.getElem?_toArray, List.getElem?_cons_succ, List.getElem?_cons_zero, Option.toList_some, List.cons_append, List.nil_append]
    repeat (go_big_quiet_step (fail))
    exact wpQuiet_nil rfl
  refine AlChk.nil ?_
  refine Walk.fin fun w1 h1 _ _ => ?_
  simp only [List.drop_succ_cons, List.drop_zero]
  have Kg1 := hid (Kg3.out.below h1)
  have Kp1 := hid (Kp3.out.below h1)
  have Ka1 := hid (Ka3.out.below h1)
  have HB1 := hid (Below.on Hb3.out h1)
  have HD1 := hid (HDt.out.below h1)
  clear h1
  go_wp2_with (
    refine wpList_copy_digs rfl _ _ _ _ rfl 25 Tryz.underlying33 size_digest (w.heap.size + 1 + 1) (n / 2) (n % 2) ((n + 1) / 2 - n / 2) dA rfl Hda.out sA (n % 2) (nc - (n - n % 2)) rfl _ _ 25 Kg1.out (zRow _) HD1.out (by rw [List.length_replicate]; omega) ?_
    intro w2 hb2 hk2
    have Kg2 := hid hk2
    have HB2 := hid (hb2.below HB1.out HB1.out.size (by omega))
    have Kp2 := hid (hb2.blk Kp1.out (by omega))
    have Ka2 := hid (hb2.blk Ka1.out (by omega))
    clear hb2 hk2)
  have HF0 := hid (fillZ_zero pub ad lev ds)
  rw [Hnl.out] at HF0
  rw [← HF0.out] at Kg2
  have HE := hid HN.out.each
  go_loopw [30] (fun v wr => ∃ k : Nat, k ≤ n / 2 ∧ v = .int .i64 k ∧ Blk wr (w.heap.size + 1 + 1) (dcs (fillZ pub ad lev ds k)) 25 ∧ Blk wr (w.heap.size) (pub.map (Value.int .u8)).toArray 25 ∧ Blk wr (w.heap.size + 1) (ad.map (Value.int .u32)).toArray 66 ∧ Below w.heap.size w wr) (fun v _ => n / 2 - (intOf v).toNat)
  case atStart => exact ⟨0, Nat.zero_le _, rfl, Kg2.out, Kp2.out, Ka2.out, HB2.out⟩
  case round =>
    clear Kg2 Kp2 Ka2 HB2 Kg1 Kp1 Ka1 HB1 HD1 Kg3 Kp3 Ka3 Hb3 HDt
    obtain ⟨k, hk, rfl, kg, kp, ka, bel⟩ := hrel
    have Kg := hid kg
    have Kp := hid kp
    have Ka := hid ka
    have HB := hid bel
    clear kg kp ka bel
    by_cases hlt : k < n / 2
    · have hkl : k < ds.length / 2 := by rw [Hnl.out]; exact hlt
      have HS := hid (fillZ_set (pub := pub) (ad := ad) (lev := lev) hkl)
      have HDk := hid (HN.out.get (j := 2 * k) (by omega))
      have HDl := hid (HN.out.get (j := 2 * k + 1) (by omega))
      have HNr := HN.out.below HB.out
      obtain ⟨xs, xo, rfl, hxs, hcell⟩ := HNr.at_ (by omega)
      have Hck := hid (hcell (2 * k) (by omega))
      have Hcl := hid (hcell (2 * k + 1) (by omega))
      have HJ := hid (Dg.join (ds.getD (2 * k) []) (ds.getD (2 * k + 1) []) pub (setAd ad lev k 0))
      have HAt := hid (had.set hlev (show 0 ≤ (k : Int) ∧ (k : Int) < 4294967296 by omega) (show (0 : Int) ≤ 0 ∧ (0 : Int) < 4294967296 by omega))
      have hfl := fillZ_length (pub := pub) (ad := ad) (lev := lev) (Nat.le_of_lt hkl)
      rw [Hnl.out] at hfl
      have Hfl := hid hfl
      clear hcell HNr hfl
      generalize hX : ds.getD (2 * k) [] = X at *
      generalize hY : ds.getD (2 * k + 1) [] = Y at *
      generalize hJ : joinZ X Y pub (setAd ad lev k 0) = J at *
      go_wp2_with fail
      refine wp_region_flow 21 (List.range 21) [] [] (by kernel_rfl) (by kernel_rfl) ?_
      apply Exists.intro
      refine ⟨fun w0 hb0 hF0 => ?_, ?_⟩
      · skip
        have x0 : ∀ w', (∃ x : Ext w0, w' = x.at_) → ∃ T, Blk w' (w.heap.size) (pub.map (Value.int .u8)).toArray T := fun w' ⟨x, hx⟩ => ⟨_, hx ▸ (Kp.out.below hb0).below x.same⟩
        have x1 : ∀ w', (∃ x : Ext w0, w' = x.at_) → ∃ T, Blk w' (w.heap.size + 1) (ad.map (Value.int .u32)).toArray T := fun w' ⟨x, hx⟩ => ⟨_, hx ▸ (Ka.out.below hb0).below x.same⟩
        have x2 : ∀ w', (∃ x : Ext w0, w' = x.at_) → w'.rangeAt xs (xo + 2 * k * 32) (X.map (Value.int .u8)) := fun w' ⟨x, hx⟩ => hx ▸ rangeAt_below (rangeAt_below Hck.out hxs hb0) (Nat.lt_of_lt_of_le hxs hb0.size) x.same
        have x3 : ∀ w', (∃ x : Ext w0, w' = x.at_) → w'.rangeAt xs (xo + (2 * k + 1) * 32) (Y.map (Value.int .u8)) := fun w' ⟨x, hx⟩ => hx ▸ rangeAt_below (rangeAt_below Hcl.out hxs hb0) (Nat.lt_of_lt_of_le hxs hb0.size) x.same
        have c0 := fun e : Ext w0 => at_list ad lev k e.at_ had
        have c1 := fun e : Ext w0 => ljoin_any X Y pub (setAd ad lev k 0) e.at_ HDk.out HDl.out hpub HAt.out ((Htab.out.below (Below.on HB.out hb0)).below e.same)
        rw [hJ] at c1
        simp only [pick, List.range, List.range.loop, List.getElem?_toArray, List.getElem?_cons_succ, List.getElem?_cons_zero, Option.toList_some, List.cons_append, List.nil_append]
        repeat (first | (go_big_quiet_want; refine quiet_load_blk 25 _ rfl (w.heap.size) rfl _ x0 _ Tryz.underlying25 rfl 32 size_digest hpub.size ?_; go_big_quiet_on; simp only [Act.put, List.setIfInBounds_toArray, List.set_cons_zero, List.set_cons_succ]) | (go_big_quiet_want; refine quiet_load_blk 66 _ rfl (w.heap.size + 1) rfl _ x1 _ Tryz.underlying66 rfl 8 sizeAdrs had.size ?_; go_big_quiet_on; simp only [Act.put, List.setIfInBounds_toArray, List.set_cons_zero, List.set_cons_succ]) | (go_big_quiet_want; refine quiet_index_digs 33 _ _ rfl Tryz.underlying33 size_digest xs xo n nc rfl _ _ rfl (2 * k) (by omega) (by omega) ?_; go_big_quiet_on; simp only [Act.put, List.setIfInBounds_toArray, List.set_cons_zero, List.set_cons_succ]) | (go_big_quiet_want; refine quiet_index_digs 33 _ _ rfl Tryz.underlying33 size_digest xs xo n nc rfl _ _ rfl (2 * k + 1) (by omega) (by omega) ?_; go_big_quiet_on; simp only [Act.put, List.setIfInBounds_toArray, List.set_cons_zero, List.set_cons_succ]) | (go_big_quiet_want; refine quiet_index_digs 33 _ _ rfl Tryz.underlying33 size_digest (w.heap.size + 1 + 1) 0 ((n + 1) / 2) ((n + 1) / 2) rfl _ _ rfl k rfl (by omega) ?_; go_big_quiet_on; simp only [Act.put, List.setIfInBounds_toArray, List.set_cons_zero, List.set_cons_succ]) | (go_big_quiet_want; refine quiet_load_mid 25 _ rfl xs (xo + 2 * k * 32) rfl _ x2 _ Tryz.underlying25 rfl (by rw [List.length_map, HDk.out.len]; exact size_digest) ?_; go_big_quiet_on; simp only [Act.put, List.setIfInBounds_toArray, List.set_cons_zero, List.set_cons_succ]) | (go_big_quiet_want; refine quiet_load_mid 25 _ rfl xs (xo + (2 * k + 1) * 32) rfl _ x3 _ Tryz.underlying25 rfl (by rw [List.length_map, HDl.out.len]; exact size_digest) ?_; go_big_quiet_on; simp only [Act.put, List.setIfInBounds_toArray, List.set_cons_zero, List.set_cons_succ]) | go_big_quiet_step (first | (go_at_call 141; with_reducible exact Calls.ext (c0 _)) | (go_at_call 143; with_reducible exact Calls.ext (c1 _))))
        exact wpQuiet_nil rfl
      refine AlChk.nil ?_
      refine Walk.fin fun w5 h5 _ _ => ?_
      simp only [List.drop_succ_cons, List.drop_zero]
      have Kg5 := hid (Kg.out.below h5)
      have Kp5 := hid (Kp.out.below h5)
      have Ka5 := hid (Ka.out.below h5)
      have HB5 := hid (Below.on HB.out h5)
      clear h5
      go_wp2_with (
        refine wpList_store_dig rfl _ _ _ rfl (w.heap.size + 1 + 1) k J rfl rfl _ 25 Kg5.out (fillZ_each HE.out k) HJ.out (by rw [Hfl.out]; omega) size_digest ?_
        intro w6 hb6 hk6
        rw [HS.out] at hk6
        have H6 := hid (And.intro hk6 (And.intro (hb6.blk Kp5.out (by omega)) (And.intro (hb6.blk Ka5.out (by omega)) (hb6.below HB5.out HB5.out.size (by omega)))))
        clear hb6 hk6)
      exact ⟨⟨k + 1, by omega, by go_num, H6.out.1, H6.out.2.1, H6.out.2.2.1, H6.out.2.2.2⟩, by simp [intOf]; omega⟩
    · have hkn : k = n / 2 := by omega
      subst hkn
      have hdn := fillZ_done pub ad lev ds
      rw [Hnl.out] at hdn
      rw [hdn] at Kg
      have hal := aboveZ_length pub ad lev ds
      rw [Hnl.out] at hal
      have Hres := hid (And.intro HB.out (OwnD.of_blk (base := w.heap.size) Kg.out (by omega) hal (by omega) (aboveZ_each HE.out)))
      clear hdn hal Kg Kp Ka HB
      go_wp2_with fail
      go_ret
      exact ⟨_, rfl, Hres.out⟩
end Go.Proofs.YtkakoiaahgchmaaGreatDoor
namespace Go.Proofs.YtkakoiaahgchmaaGreatDoor
set_option maxRecDepth 100000
open Go.ChangeShapes Go.WideShapes Go.ChangeAt Go.RowKit
def compZ (pub ad : List Int) : Nat → Nat → List (List Int) → List Int
  | 0, _, ds => ds.getD 0 []
  | f + 1, lev, ds => if ds.length ≤ 1 then ds.getD 0 [] else compZ pub ad f (lev + 1) (aboveZ pub ad lev ds)
theorem compZ_one (pub ad : List Int) (f lev : Nat) {ds : List (List Int)} (h : ds.length ≤ 1) : compZ pub ad f lev ds = ds.getD 0 [] := by
  cases f with
  | zero => rfl
  | succ f => rw [compZ, if_pos h]
theorem compZ_more (pub ad : List Int) (f lev : Nat) {ds : List (List Int)} (h : 1 < ds.length) : compZ pub ad (f + 1) lev ds = compZ pub ad f (lev + 1) (aboveZ pub ad lev ds) := by
  rw [compZ, if_neg (by omega)]
theorem compZ_dg (pub ad : List Int) : ∀ (f lev : Nat) (ds : List (List Int)), (∀ d ∈ ds, Dg d) → 1 ≤ ds.length → ds.length ≤ f → Dg (compZ pub ad f lev ds)
  | 0, _, ds, h, h1, hf => by omega
  | f + 1, lev, ds, h, h1, hf => by
    by_cases hl : ds.length ≤ 1
    · rw [compZ_one _ _ _ _ hl]; exact Dg.getD h (by omega)
    · rw [compZ_more _ _ _ _ (by omega)]
      exact compZ_dg pub ad f (lev + 1) _ (aboveZ_each h) (by rw [aboveZ_length]; omega) (by rw [aboveZ_length]; omega)
set_option maxHeartbeats 4000000 in
theorem compress_good (na : Option Addr) (n nc : Nat) (ds : List (List Int)) (pub ad : List Int) (w : World) (hN : DigsAt w na n nc ds) (hn : 1 ≤ n ∧ n ≤ 67) (hpub : Dg pub) (had : Aw ad) (tab : ShaTab w) :
    Calls Tryz.prog 102 #[.slice na n nc, (.agg (pub.map (Value.int .u8)).toArray), (.agg (ad.map (Value.int .u32)).toArray)] w fun e w' => e = .returned (.tuple #[(.agg ((compZ pub ad n 0 ds).map (Value.int .u8)).toArray), .int .i64 0]) ∧ Below w.heap.size w w' := by
  have HN := hid hN
  have hle := hN.le
  have hmx := hN.max
  have Hnl := hid hN.length
  obtain ⟨hn0, hn1⟩ := hn
  clear hN
  have b1 := (Below.refl w.heap.size w).alloc (Nat.le_refl _) (.cells (pub.map (Value.int .u8)).toArray 25 (0, 0))
  have b2 := b1.alloc b1.size (.cells (ad.map (Value.int .u32)).toArray 66 (0, 0))
  have b3 := b2.alloc b2.size (.cells (byteCells 32 []) 25 (0, 0))
  have Kp := hid (((Blk.new (w := w) (n := w.heap.size) rfl (pub.map (Value.int .u8)).toArray 25).old (.cells (ad.map (Value.int .u32)).toArray 66 (0, 0))).old (.cells (byteCells 32 []) 25 (0, 0)))
  have Kad := hid ((Blk.new (w := (w.alloc (.cells (pub.map (Value.int .u8)).toArray 25 (0, 0)))) (n := w.heap.size + 1) (by simp only [World.size_alloc]) (ad.map (Value.int .u32)).toArray 66).old (.cells (byteCells 32 []) 25 (0, 0)))
  have Kr0 := hid (Blk.new (w := ((w.alloc (.cells (pub.map (Value.int .u8)).toArray 25 (0, 0))).alloc (.cells (ad.map (Value.int .u32)).toArray 66 (0, 0)))) (n := w.heap.size + 1 + 1) (by simp only [World.size_alloc]) (byteCells 32 []) 25)
  have Hb := hid b3
  have HzA := hid zsize
  have hbz := b3.size
  have Hbs := hid (show w.heap.size + 1 + 1 + 1 = (((w.alloc (.cells (pub.map (Value.int .u8)).toArray 25 (0, 0))).alloc (.cells (ad.map (Value.int .u32)).toArray 66 (0, 0))).alloc (.cells (byteCells 32 []) 25 (0, 0))).heap.size by simp only [World.size_alloc])
  have Htab := hid tab
  clear b1 b2 b3 tab
  have hb2 := Hb.out
  have b3 := hb2.alloc hb2.size (.cells (dcs (List.replicate n zD)) 25 (0, 0))
  have Kg3 := hid (Blk.new (w := (((w.alloc (.cells (pub.map (Value.int .u8)).toArray 25 (0, 0))).alloc (.cells (ad.map (Value.int .u32)).toArray 66 (0, 0))).alloc (.cells (byteCells 32 []) 25 (0, 0)))) (n := (w.heap.size + 1 + 1 + 1)) (by simp only [World.size_alloc]) (dcs (List.replicate n zD)) 25)
  have Kp3 := hid (Kp.out.old (.cells (dcs (List.replicate n zD)) 25 (0, 0)))
  have Ka3 := hid (Kad.out.old (.cells (dcs (List.replicate n zD)) 25 (0, 0)))
  have Kr3 := hid (Kr0.out.old (.cells (dcs (List.replicate n zD)) 25 (0, 0)))
  have Hb3 := hid b3
  have HN3 := hid (HN.out.below b3)
  clear b3 hb2
  have hmk := fun W : World => make_digs n n rfl (by omega) W
  have hq0 : ¬ ((n : Int) = 0) := by omega
  have hq1 : ¬ ((67 : Int) < n) := by omega
  go_enter Tryz.func102, Tryz.ntmps102
  go_wp2_with (
    refine wpList_copy_digs rfl _ _ _ _ rfl 25 Tryz.underlying33 size_digest (w.heap.size + 1 + 1 + 1) 0 n n (some ⟨(w.heap.size + 1 + 1 + 1), 0, none⟩) rfl (fun _ => rfl) na n nc rfl _ _ 25 Kg3.out (zRow _) HN3.out (by rw [List.length_replicate]; omega) ?_
    intro w2 hb2 hk2
    have Kg2 := hid hk2
    have HB2 := hid (hb2.below Hb3.out Hb3.out.size (by omega))
    have Kp2 := hid (hb2.blk Kp3.out (by omega))
    have Ka2 := hid (hb2.blk Ka3.out (by omega))
    have Kr2 := hid (hb2.blk Kr3.out (by omega))
    clear hb2 hk2)
  have hrow : (List.replicate n zD).take 0 ++ (ds.take (Nat.min n n) ++ (List.replicate n zD).drop (0 + Nat.min n n)) = ds := by
    rw [show Nat.min n n = n from Nat.min_self n, List.take_zero, List.nil_append, List.take_of_length_le (by rw [Hnl.out]; exact Nat.le_refl _), List.drop_eq_nil_of_le (by rw [List.length_replicate]; omega), List.append_nil]
  rw [hrow] at Kg2
  have HD0 := hid (DigsAt.of_blk Kg2.out HN.out.each Hnl.out (Nat.le_refl _) (by omega))
  have HR0 := hid (rfl : compZ pub ad n 0 ds = compZ pub ad n 0 ds)
  clear hrow Kg2
  go_loopw [8, 9] (fun v lv wr => ∃ (f lev m : Nat) (a : Option Addr) (c : Nat) (row : List (List Int)), v = .slice a m c ∧ lv = .int .u32 lev ∧ lev + f = n ∧ 1 ≤ m ∧ m ≤ f ∧ DigsAt wr a m c row ∧ compZ pub ad f lev row = compZ pub ad n 0 ds ∧ Blk wr (w.heap.size) (pub.map (Value.int .u8)).toArray 25 ∧ Blk wr (w.heap.size + 1) (ad.map (Value.int .u32)).toArray 66 ∧ Blk wr (w.heap.size + 1 + 1) (byteCells 32 []) 25 ∧ Below w.heap.size w wr) (fun v _ _ => match v with | .slice _ m _ => m | _ => 0)
  case atStart => exact ⟨n, 0, n, _, _, ds, rfl, rfl, by omega, by omega, Nat.le_refl _, HD0.out, rfl, Kp2.out, Ka2.out, Kr2.out, HB2.out⟩
  case round =>
    clear Kp2 Ka2 Kr2 HB2 HD0 HR0 Kg3 Kp3 Ka3 Kr3 Hb3 HN3
    obtain ⟨f, lev, m, a, c, row, rfl, rfl, hlf, hm1, hmf, hD, hR, kp, ka, kr, bel⟩ := hrel
    have HD := hid hD
    have HR := hid hR
    have Kp := hid kp
    have Ka := hid ka
    have Kr := hid kr
    have HB := hid bel
    have hml := hD.length
    have Hml := hid hml
    clear hD hR kp ka kr bel hml
    by_cases hlt : 1 < m
    · obtain ⟨f, rfl⟩ : ∃ g, f = g + 1 := ⟨f - 1, by omega⟩
      have hmi : (1 : Int) < m := by omega
      have CA := hid (fun (t : ShaTab wr) => above_any a m c row pub ad lev wr HD.out ⟨by omega, by omega⟩ hpub had ⟨by omega, by omega⟩ t)
      go_wp2_with (first | (refine wpList_load_blk rfl 25 _ rfl (w.heap.size) rfl _ 25 Kp.out _ Tryz.underlying25 rfl 32 size_digest hpub.size ?_) | (refine wpList_load_blk rfl 66 _ rfl (w.heap.size + 1) rfl _ 66 Ka.out _ Tryz.underlying66 rfl 8 sizeAdrs had.size ?_))
      refine (CA.out (Htab.out.below HB.out)).mono ?_
      rintro e w4 ⟨v, rfl, b4, o4⟩
      obtain ⟨a4, c4, rfl, hD4, _⟩ := o4.digs
      have hal := aboveZ_length pub ad lev row
      rw [Hml.out] at hal
      rw [hal] at hD4 ⊢
      have hR4 := compZ_more pub ad f lev (ds := row) (by rw [Hml.out]; exact hlt)
      rw [HR.out] at hR4
      have H4 := hid (And.intro hD4 (And.intro hR4.symm (And.intro (Kp.out.below b4) (And.intro (Ka.out.below b4) (And.intro (Kr.out.below b4) (Below.on HB.out b4))))))
      clear hD4 o4 b4 hal hR4
      go_wp2_with fail
      exact ⟨⟨f, lev + 1, (m + 1) / 2, a4, c4, _, rfl, by go_num, by omega, by omega, by omega, H4.out.1, H4.out.2.1, H4.out.2.2.1, H4.out.2.2.2.1, H4.out.2.2.2.2.1, H4.out.2.2.2.2.2⟩, by simp; omega⟩
    · have hm : m = 1 := by omega
      subst hm
      have hone := compZ_one pub ad f lev (ds := row) (by rw [Hml.out]; exact Nat.le_refl _)
      rw [HR.out] at hone
      have HX := hid (HD.out.get (j := 0) (by omega))
      obtain ⟨xs, xo, rfl, hxs, hcell⟩ := HD.out.at_ (by omega)
      have Hc := hid (hcell 0 (by omega))
      have HOne := hid hone
      clear hone hcell HD
      generalize hX : row.getD 0 [] = X at *
      go_wp2_with (first
       | (refine wpList_index_digs rfl 33 _ _ rfl Tryz.underlying33 size_digest xs xo 1 c rfl _ _ rfl 0 rfl (by omega) ?_)
       | (refine wpList_load_mid rfl 25 _ rfl xs (xo + 0 * 32) rfl _ _ Hc.out Tryz.underlying25 rfl (by rw [List.length_map, HX.out.len]; exact size_digest) ?_)
       | (refine wpList_store_blk rfl 25 _ _ rfl (w.heap.size + 1 + 1) _ rfl rfl _ 25 Kr.out 32 size_digest HzA.out HX.out.size (ints_one _ _) ?_; intro w7 hbut7 hk7))
      exact bodyPost_ret (v := .tuple #[(.agg (X.map (Value.int .u8)).toArray), .int .i64 0]) (results_blk_tmp Tryz.results102 _ (w.heap.size + 1 + 1) rfl _ rfl _ 25 hk7 _ Tryz.underlying25 rfl 32 size_digest HX.out.size) rfl ⟨by rw [HOne.out], hbut7.below HB.out HB.out.size (by omega)⟩
end Go.Proofs.YtkakoiaahgchmaaGreatDoor
namespace Go.Proofs.YtkakoiaahgchmaaGreatDoor
set_option maxRecDepth 100000
open Go.ChangeShapes Go.WideShapes Go.ChangeAt Go.RowKit
theorem fold_set : ∀ (vs : List Value) (k off : Nat) (acc : Array Value), off + k + vs.length ≤ acc.size → ((vs.zipIdx k).foldl (fun cs (x : Value × Nat) => cs.setIfInBounds (off + x.2) x.1) acc).toList = splice acc.toList (off + k) vs
  | [], k, off, acc, h => by simp [splice]
  | v :: vs, k, off, acc, h => by
    simp only [List.length_cons] at h
    rw [List.zipIdx_cons, List.foldl_cons, fold_set vs (k + 1) off _ (by rw [Array.size_setIfInBounds]; omega)]
    unfold splice
    rw [Array.toList_setIfInBounds, show off + (k + 1) = (off + k) + 1 by omega, List.drop_set_of_lt (by omega), List.length_cons, show off + k + 1 + vs.length = off + k + (vs.length + 1) by omega]
    rw [List.take_succ_eq_append_getElem (by rw [List.length_set, Array.length_toList]; omega), List.take_set_of_le (Nat.le_refl _), List.getElem_set_self]
    simp
theorem fill_dig (cells : Array Value) (ds : List (List Int)) (hc : cells = dcs ds) (hds : ∀ d ∈ ds, Dg d) (x : List Int) (hx : Dg x) (j : Nat) (hj : j < ds.length) (rest : List (Nat × Value)) :
    Instr.fill (fun i => some (i * 32, 32)) cells ((j, .agg (x.map (Value.int .u8)).toArray) :: rest) = Instr.fill (fun i => some (i * 32, 32)) (dcs (ds.set j x)) rest := by
  subst hc
  have hs := dcs_size (Dg.lens hds)
  have hv : (Value.agg (x.map (Value.int .u8)).toArray).cells = (x.map (Value.int .u8)).toArray := rfl
  have hf := fold_set (x.map (Value.int .u8)) 0 (j * 32) (dcs ds) (by rw [List.length_map, hx.len, hs]; omega)
  have he : (((x.map (Value.int .u8)).zipIdx 0).foldl (fun cs (y : Value × Nat) => cs.setIfInBounds (j * 32 + y.2) y.1) (dcs ds)) = dcs (ds.set j x) := by
    apply Array.ext'
    rw [hf, Nat.add_zero]
    unfold dcs
    rw [← flat_set (Dg.lens hds) x hx.len j hj]
    unfold splice
    simp only [List.length_map, List.map_append, List.map_take, List.map_drop]
  rw [Instr.fill]
  simp only [hv, hx.size]
  rw [if_neg (by simp only [ne_eq, not_true_eq_false, decide_false, Bool.false_or, decide_eq_true_eq, hs]; omega)]
  congr 1
  have : ((x.map (Value.int .u8)).toArray).zipIdx = (((x.map (Value.int .u8)).zipIdx 0)).toArray := by simp
  rw [this, List.foldl_toArray']
  · exact he
  · simp
section
variable {P : Program}
/-- parts put in their places, one behind the other -/
theorem run_build_digs (n : Nat) (parts : List (Nat × Value)) (ds : List (List Int)) (hn : n ≤ 1000) (h0 : 0 < n) (h : Instr.fill (fun i => some (i * 32, 32)) (dcs (List.replicate n zD)) parts = some (dcs ds)) (w : World) :
    (Instr.buildSlice 33 n parts.toArray).run Tryz.prog w = .ok (.slice (some ⟨w.heap.size, 0, none⟩) n n) (w.alloc (.cells (dcs ds) 25 (0, 0))) := by
  obtain ⟨i, hi, _, hz1, _⟩ := info_parts info_dig
  have hm := zD_rows n
  unfold madeCells at hm
  unfold Instr.buildSlice
  have hne : ¬ (n * 32 = 0) := by omega
  have hle : ¬ (16777216 < n * 32) := by omega
  have hl : (zD.map (Value.int .u8)).toArray = #[Value.int .u8 0, Value.int .u8 0, Value.int .u8 0, Value.int .u8 0, Value.int .u8 0, Value.int .u8 0, Value.int .u8 0, Value.int .u8 0, Value.int .u8 0, Value.int .u8 0, Value.int .u8 0, Value.int .u8 0, Value.int .u8 0, Value.int .u8 0, Value.int .u8 0, Value.int .u8 0, Value.int .u8 0, Value.int .u8 0, Value.int .u8 0, Value.int .u8 0, Value.int .u8 0, Value.int .u8 0, Value.int .u8 0, Value.int .u8 0, Value.int .u8 0, Value.int .u8 0, Value.int .u8 0, Value.int .u8 0, Value.int .u8 0, Value.int .u8 0, Value.int .u8 0, Value.int .u8 0] := by kernel_rfl
  rw [hl] at hm
  simp [run_underlying Tryz.underlying33, sizeOf, typeInfo, hi, hz1, hne]
  rw [if_neg hle, hm, h]
  simp [newRow]
theorem dcs_one (x : List Int) : dcs [x] = (x.map (Value.int .u8)).toArray := by simp [dcs]
theorem run_build_one {x : List Int} (hx : Dg x) (w : World) : (Instr.buildSlice 33 1 #[(0, .agg (x.map (Value.int .u8)).toArray)]).run Tryz.prog w = .ok (.slice (some ⟨w.heap.size, 0, none⟩) 1 1) (w.alloc (.cells (x.map (Value.int .u8)).toArray 25 (0, 0))) := by
  have h := run_build_digs 1 [(0, .agg (x.map (Value.int .u8)).toArray)] [x] (by omega) (by omega) (by
    rw [fill_dig _ (List.replicate 1 zD) rfl (zRow 1) x hx 0 (by simp), show (List.replicate 1 zD).set 0 x = [x] from rfl, Instr.fill]) w
  rw [dcs_one] at h
  exact h
theorem exec_build_one {o : Oper} {A : Act} {w : World} {e : Operand} (ho : o.op = .buildSlice 33 1 #[(0, e)]) {x : List Int} (he : A.eval e = .agg (x.map (Value.int .u8)).toArray) (hx : Dg x) :
    (execOp A.eval o).run Tryz.prog w = .ok (.value (.slice (some ⟨w.heap.size, 0, none⟩) 1 1)) (w.alloc (.cells (x.map (Value.int .u8)).toArray 25 (0, 0))) := by
  unfold execOp
  simp only [ho, List.map_toArray, List.map_cons, List.map_nil, he, Sem.run_bind, run_build_one hx, Result.andThen_ok, Sem.run_pure]
theorem wpList_build_one {ops : Array Oper} {rest : List Oper} {o : Oper} {A : Act} {w : World} {Q : Exit → Act → World → Prop} (hgd : o.guard = none) (e : Operand) (ho : o.op = .buildSlice 33 1 #[(0, e)]) {x : List Int} (he : A.eval e = .agg (x.map (Value.int .u8)).toArray) (hx : Dg x)
    (h : wpList Tryz.prog ops Q rest (A.put o.dst (.slice (some ⟨w.heap.size, 0, none⟩) 1 1)) (w.alloc (.cells (x.map (Value.int .u8)).toArray 25 (0, 0)))) : wpList Tryz.prog ops Q (o :: rest) A w :=
  wpList_plain hgd fun K hK => by
    unfold Oper.wp
    rw [exec_build_one ho he hx, Oper.upon_value]
    exact hK _ _ h
end
theorem guard_dig : Tryz.prog.eqGuardType Tryz.prog.depth 25 = false := by kernel_rfl
/-- two digests are compared, and the outcome is known -/
theorem quiet_cmp {op : Oper} {a : Act} {C : World → Prop} {K : Act → Prop} {bop : BinOp} {tr : TypeId} (x y : Operand) (ho : op.op = .binOp bop 25 x y tr) (xs ys : Array Value) (v : Value) (hx : a.eval x = .agg xs) (hy : a.eval y = .agg ys)
    (hr : ∀ W : World, (binOp bop 25 (.agg xs) (.agg ys)).run Tryz.prog W = .ok v W) (h : K (a.put op.dst v)) : op.quiet Tryz.prog a C K :=
  ⟨v, fun w' _ => by
    unfold Oper.quietAt execOp
    simp only [ho, hx, hy, Sem.run_bind, Sem.run_pure, Result.andThen_ok, run_eqGuard_agg w' bop 25 x y xs ys guard_dig, hr w']
    simp [Oper.quietUpon], h⟩
end Go.Proofs.YtkakoiaahgchmaaGreatDoor
namespace Go.Proofs.YtkakoiaahgchmaaGreatDoor
set_option maxRecDepth 100000
open Go.ChangeShapes Go.WideShapes Go.ChangeAt Go.RowKit
namespace FlowB
end FlowB
end Go.Proofs.YtkakoiaahgchmaaGreatDoor
namespace Go.Proofs.YtkakoiaahgchmaaGreatDoor
set_option maxRecDepth 100000
open Go.ChangeShapes Go.WideShapes Go.ChangeAt Go.RowKit
def sD : List Int := 7 :: List.replicate 31 0
def zA : List Int := List.replicate 8 0
end Go.Proofs.YtkakoiaahgchmaaGreatDoor
namespace Go.Proofs.YtkakoiaahgchmaaGreatDoor
set_option maxRecDepth 100000
open Go.RowKit
section
variable {P : Program} {ops : Array Oper} {Q : Exit → Act → World → Prop}
theorem wpOp_val {i : Nat} {o : Oper} {K : Act → World → Prop} {a : Act} {w w' : World} {v : Value} (hi : ops[i]? = some o) (hg : o.guard = none) (hr : (execOp a.eval o).run P w = .ok (.value v) w') (h : K (a.put o.dst v) w') : wpOp P ops Q i K a w := by
  unfold wpOp
  simp only [hi]
  rw [if_pos (by unfold Region.wanted; rw [hg])]
  left
  unfold Oper.wp
  rw [hr, Oper.upon_value]
  exact h
theorem wpOp_skips {i : Nat} {o : Oper} {K : Act → World → Prop} {a : Act} {w w' : World} (hi : ops[i]? = some o) (hg : o.guard = none) (hd : o.dst = none) (hr : (execOp a.eval o).run P w = .ok .skip w') (h : K a w') : wpOp P ops Q i K a w := by
  unfold wpOp
  simp only [hi]
  rw [if_pos (by unfold Region.wanted; rw [hg])]
  left
  unfold Oper.wp
  rw [hr]
  show K (a.put o.dst undef) w'
  rw [hd]
  exact h
/-- What a load of a whole variable comes to. -/
theorem exec_load_blk {o : Oper} {A : Act} {w : World} (ty : TypeId) (x : Operand) (ho : o.op = .load ty x) (b : Nat) (hx : A.eval x = .pointer (some ⟨b, 0, none⟩)) (cs : Array Value) (T : TypeId) (hb : Blk w b cs T) (d : TypeDesc) (hu : P.underlying ty = some d) (hd : d.isRow = true) (n : Nat) (hi : (P.info? ty).map (·.size) = some n) (hs : cs.size = n) :
    (execOp A.eval o).run P w = .ok (.value (.agg cs)) w := by
  unfold execOp
  simp only [ho, hx, Instr.loadAt, Instr.sureAddr, Sem.run_bind, Sem.run_pure, Result.andThen_ok, run_loadVar_mid w b 0 ty cs.toList d hb.rangeAt hu hd (by rw [hi]; simp [hs])]
end
def pl (l : List Nat) : Array Bool := l.foldl (fun x i => x.setIfInBounds i true) (Array.replicate 6 false)
/-- Two loads, two variables, two stores; the second load may come up behind the first store. -/
def pairB (l : List Oper) : Bool :=
  Region.noSelect l.toArray && l.length == 6 && Region.free .any l.toArray (pl []) 0 && Region.free .any l.toArray (pl [0]) 1 &&
  (Region.ready .any l.toArray (pl [])).contains 0 && (Region.ready .any l.toArray (pl [0])).contains 1 && Region.ready .any l.toArray (pl [0, 1]) == [2, 3] &&
  Region.ready .any l.toArray (pl [0, 1, 2]) == [3] && Region.ready .any l.toArray (pl [0, 1, 3]) == [2] &&
  [[0, 1, 2, 3], [0, 1, 3, 2]].all fun m => Region.ready .any l.toArray (pl m) == [4] && Region.ready .any l.toArray (pl (m ++ [4])) == [5] && Region.ready .any l.toArray (pl (m ++ [4, 5])) == []
def pairF (a : Act) (o0 o1 o2 o3 : Oper) (X Y : Array Value) (b c : Nat) : Act :=
  (((a.put o0.dst (.agg X)).put o1.dst (.agg Y)).put o2.dst (.pointer (some ⟨b, 0, none⟩))).put o3.dst (.pointer (some ⟨c, 0, none⟩))
theorem wp_pair {P : Program} {id : Nat} {Q : Exit → Act → World → Prop} {a : Act} {w : World} {l : List Oper} (hm : P.follows .mixedOrders = true) (hB : pairB l = true) (hQ : ∀ c (a : Act) d v w, Q (.panic c) (a.put d v) w → Q (.panic c) a w)
    (o0 o1 o2 o3 o4 o5 : Oper) (h0 : l[0]? = some o0) (h1 : l[1]? = some o1) (h2 : l[2]? = some o2) (h3 : l[3]? = some o3) (h4 : l[4]? = some o4) (h5 : l[5]? = some o5) (ty : TypeId) (x y p4 q4 p5 q5 : Operand)
    (e0 : o0.op = .load ty x) (e1 : o1.op = .load ty y) (e4 : o4.op = .store ty p4 q4) (e5 : o5.op = .store ty p5 q5)
    (g0 : o0.guard = none) (g1 : o1.guard = none) (g2 : o2.guard = none) (g3 : o3.guard = none) (g4 : o4.guard = none) (g5 : o5.guard = none) (n4 : o4.dst = none) (n5 : o5.dst = none) (hne : ∀ d, o2.dst = some d → o3.dst ≠ some d)
    (bx bz : Nat) (X Y : Array Value) (hx : a.eval x = .pointer (some ⟨bx, 0, none⟩)) (hy : (a.put o0.dst (.agg X)).eval y = .pointer (some ⟨bz, 0, none⟩)) (T1 T2 : TypeId) (kx : Blk w bx X T1) (ky : Blk w bz Y T2)
    (d : TypeDesc) (hu : P.underlying ty = some d) (hd : d.isRow = true) (n : Nat) (hi : (P.info? ty).map (·.size) = some n) (sX : X.size = n) (sY : Y.size = n) (cX : X.all (·.oneCell') = true) (cY : Y.all (·.oneCell') = true)
    (Z : Array Value) (sZ : Z.size = n)
    (a2 : ∀ (A : Act) W, (execOp A.eval o2).run P W = .ok (.value (.pointer (some ⟨W.heap.size, 0, none⟩))) (W.alloc (.cells Z ty (0, 0))))
    (a3 : ∀ (A : Act) W, (execOp A.eval o3).run P W = .ok (.value (.pointer (some ⟨W.heap.size, 0, none⟩))) (W.alloc (.cells Z ty (0, 0))))
    (hev : ∀ b c, (pairF a o0 o1 o2 o3 X Y b c).eval p4 = .pointer (some ⟨b, 0, none⟩) ∧ (pairF a o0 o1 o2 o3 X Y b c).eval q4 = .agg X ∧ (pairF a o0 o1 o2 o3 X Y b c).eval p5 = .pointer (some ⟨c, 0, none⟩) ∧ (pairF a o0 o1 o2 o3 X Y b c).eval q5 = .agg Y)
    (hfin : ∀ b c w', Below w.heap.size w w' → w.heap.size ≤ b → w.heap.size ≤ c → b ≠ c → Blk w' b X ty → Blk w' c Y ty → wpList P l.toArray Q [] (pairF a o0 o1 o2 o3 X Y b c) w') : (Code.region id l.toArray true).wp P Q a w := by
  unfold pairB at hB
  simp only [Bool.and_eq_true, beq_iff_eq, List.all_cons, List.all_nil, Bool.and_true] at hB
  obtain ⟨⟨⟨⟨⟨⟨⟨⟨⟨hs, hl⟩, f0⟩, f1⟩, r0⟩, r1⟩, r01⟩, r012⟩, r013⟩, ⟨⟨rA, rA4⟩, rA5⟩, ⟨rB, rB4⟩, rB5⟩ := hB
  have size6 : l.toArray.size = 6 := by simpa using hl
  refine wp_region_held (S := fun W => Below w.heap.size w W) hm ?_
  rw [size6]
  have h0' : l.toArray[0]? = some o0 := by simpa using h0
  have h1' : l.toArray[1]? = some o1 := by simpa using h1
  have h2' : l.toArray[2]? = some o2 := by simpa using h2
  have h3' : l.toArray[3]? = some o3 := by simpa using h3
  have h4' : l.toArray[4]? = some o4 := by simpa using h4
  have h5' : l.toArray[5]? = some o5 := by simpa using h5
  have hw : ∀ (o : Oper) (A : Act), o.guard = none → Region.wanted o (yielded l.toArray A.tmps) = true := fun o A hg => by unfold Region.wanted; rw [hg]
  have tail : ∀ L b c W, Region.ready .any l.toArray L = [4] → Region.ready .any l.toArray (L.setIfInBounds 4 true) = [5] → Region.ready .any l.toArray ((L.setIfInBounds 4 true).setIfInBounds 5 true) = [] → Below w.heap.size w W → w.heap.size ≤ b → w.heap.size ≤ c → b ≠ c → Blk W b Z ty → Blk W c Z ty →
      wpAnyH P .any l.toArray Q (fun W => Below w.heap.size w W) 2 L (pairF a o0 o1 o2 o3 X Y b c) W := by
    intro L b c W q4' q5' q6' hW hb hc hbc kb kc
    obtain ⟨v1, v2, v3, v4⟩ := hev b c
    refine wpAnyH_all (rs := [4]) q4' (by simp) ?_
    intro i hi'
    obtain rfl : i = 4 := by simpa using hi'
    obtain ⟨w1, s1, s2, s3⟩ := FlowB.exec_store_blk ty p4 q4 e4 b X v1 v2 Z ty kb n hi sZ sX cX
    have hW1 := s2.below hW hW.size hb
    have kc1 := s2.blk kc (Ne.symm hbc)
    refine wpOp_skips h4' g4 n4 s1 ⟨hW1, ?_⟩
    refine wpAnyH_all (rs := [5]) q5' (by simp) ?_
    intro i hi'
    obtain rfl : i = 5 := by simpa using hi'
    obtain ⟨w2, s4, s5, s6⟩ := FlowB.exec_store_blk ty p5 q5 e5 c Y v3 v4 Z ty kc1 n hi sZ sY cY
    have hW2 := s5.below hW1 hW1.size hc
    refine wpOp_skips h5' g5 n5 s4 ⟨hW2, ?_⟩
    exact wpAnyH_done q6' (hfin b c w2 hW2 hb hc hbc (s5.blk s3 hbc) s6) _
  have hS0 : Below w.heap.size w w.drew := (Below.refl _ _).drew
  refine wpAnyH_take (i := 0) (oi := o0) (v := .agg X) h0' hs f0 r0 (fun c a w h => hQ c a _ _ w h) (.inl ⟨hw _ _ g0, fun W hW => exec_load_blk ty x e0 bx hx X T1 (kx.below hW) d hu hd n hi sX⟩) hS0 ?_
  refine wpAnyH_take (i := 1) (oi := o1) (v := .agg Y) h1' hs f1 r1 (fun c a w h => hQ c a _ _ w h) (.inl ⟨hw _ _ g1, fun W hW => exec_load_blk ty y e1 bz hy Y T2 (ky.below hW) d hu hd n hi sY⟩) hS0 ?_
  refine wpAnyH_all (rs := [2, 3]) r01 (by simp) ?_
  intro i hi'
  have hdr : w.drew.heap.size = w.heap.size := rfl
  have b1 : Below w.heap.size w (w.drew.alloc (.cells Z ty (0, 0))) := hS0.alloc hS0.size _
  have b2 : Below w.heap.size w ((w.drew.alloc (.cells Z ty (0, 0))).alloc (.cells Z ty (0, 0))) := b1.alloc b1.size _
  have k1 : Blk ((w.drew.alloc (.cells Z ty (0, 0))).alloc (.cells Z ty (0, 0))) w.heap.size Z ty := (Blk.new rfl Z ty).old _
  have k2 : Blk ((w.drew.alloc (.cells Z ty (0, 0))).alloc (.cells Z ty (0, 0))) (w.drew.alloc (.cells Z ty (0, 0))).heap.size Z ty := Blk.new rfl Z ty
  have hsz : (w.drew.alloc (.cells Z ty (0, 0))).heap.size = w.heap.size + 1 := by rw [World.size_alloc, hdr]
  have hi'' : i = 2 ∨ i = 3 := by simpa using hi'
  rcases hi'' with rfl | rfl
  · refine wpOp_val h2' g2 (a2 _ _) ⟨b1, ?_⟩
    refine wpAnyH_all (rs := [3]) r012 (by simp) ?_
    intro i hi'
    obtain rfl : i = 3 := by simpa using hi'
    refine wpOp_val h3' g3 (a3 _ _) ⟨b2, ?_⟩
    exact tail _ w.heap.size (w.drew.alloc (.cells Z ty (0, 0))).heap.size _ rA rA4 rA5 b2 (Nat.le_refl _) (by omega) (by omega) k1 k2
  · refine wpOp_val h3' g3 (a3 _ _) ⟨b1, ?_⟩
    refine wpAnyH_all (rs := [2]) r013 (by simp) ?_
    intro i hi'
    obtain rfl : i = 2 := by simpa using hi'
    refine wpOp_val h2' g2 (a2 _ _) ⟨b2, ?_⟩
    have := tail _ (w.drew.alloc (.cells Z ty (0, 0))).heap.size w.heap.size _ rB rB4 rB5 b2 (by omega) (Nat.le_refl _) (by omega) k2 k1
    unfold pairF at this
    rw [Act.put_comm _ _ _ hne] at this
    exact this
end Go.Proofs.YtkakoiaahgchmaaGreatDoor
namespace Go.Proofs.YtkakoiaahgchmaaGreatDoor
set_option maxRecDepth 100000
open Go.ChangeShapes Go.WideShapes Go.ChangeAt Go.RowKit
/-- May there be so many levels, and such a leaf? -/
def rightZ (n i : Int) : Bool := decide (1 ≤ n ∧ n ≤ 4 ∧ 0 ≤ i ∧ i < 2 ^ n.toNat)
set_option maxHeartbeats 4000000 in
theorem tright_any (n i : Int) (w : World) :
    Calls Tryz.prog 130 #[.int .i64 n, .int .i64 i] w fun e w' => e = .returned (.bool (rightZ n i)) ∧ w' = w := by
  by_cases h1 : 1 ≤ n
  · by_cases h2 : n ≤ 4
    · rcases (show n = 1 ∨ n = 2 ∨ n = 3 ∨ n = 4 by omega) with rfl | rfl | rfl | rfl
      · by_cases h3 : 0 ≤ i
        · by_cases h4 : i < 2
          · have h4b : ¬ 2 ≤ i := by omega
            go_enter Tryz.func130, Tryz.ntmps130
            go_wp2
            go_returns
            exact ⟨by simp [rightZ, *] <;> omega, rfl⟩
          · have h4b : 2 ≤ i := by omega
            go_enter Tryz.func130, Tryz.ntmps130
            go_wp2
            go_returns
            exact ⟨by simp [rightZ, *] <;> omega, rfl⟩
        · have h3b : i < 0 := by omega
          go_enter Tryz.func130, Tryz.ntmps130
          go_wp2
          go_returns
          exact ⟨by simp [rightZ, *] <;> omega, rfl⟩
      · by_cases h3 : 0 ≤ i
        · by_cases h4 : i < 4
          · have h4b : ¬ 4 ≤ i := by omega
            go_enter Tryz.func130, Tryz.ntmps130
            go_wp2
            go_returns
            exact ⟨by simp [rightZ, *] <;> omega, rfl⟩
          · have h4b : 4 ≤ i := by omega
            go_enter Tryz.func130, Tryz.ntmps130
            go_wp2
            go_returns
            exact ⟨by simp [rightZ, *] <;> omega, rfl⟩
        · have h3b : i < 0 := by omega
          go_enter Tryz.func130, Tryz.ntmps130
          go_wp2
          go_returns
          exact ⟨by simp [rightZ, *] <;> omega, rfl⟩
      · by_cases h3 : 0 ≤ i
        · by_cases h4 : i < 8
          · have h4b : ¬ 8 ≤ i := by omega
            go_enter Tryz.func130, Tryz.ntmps130
            go_wp2
            go_returns
            exact ⟨by simp [rightZ, *] <;> omega, rfl⟩
          · have h4b : 8 ≤ i := by omega
            go_enter Tryz.func130, Tryz.ntmps130
            go_wp2
            go_returns
            exact ⟨by simp [rightZ, *] <;> omega, rfl⟩
        · have h3b : i < 0 := by omega
          go_enter Tryz.func130, Tryz.ntmps130
          go_wp2
          go_returns
          exact ⟨by simp [rightZ, *] <;> omega, rfl⟩
      · by_cases h3 : 0 ≤ i
        · by_cases h4 : i < 16
          · have h4b : ¬ 16 ≤ i := by omega
            go_enter Tryz.func130, Tryz.ntmps130
            go_wp2
            go_returns
            exact ⟨by simp [rightZ, *] <;> omega, rfl⟩
          · have h4b : 16 ≤ i := by omega
            go_enter Tryz.func130, Tryz.ntmps130
            go_wp2
            go_returns
            exact ⟨by simp [rightZ, *] <;> omega, rfl⟩
        · have h3b : i < 0 := by omega
          go_enter Tryz.func130, Tryz.ntmps130
          go_wp2
          go_returns
          exact ⟨by simp [rightZ, *] <;> omega, rfl⟩
    · have h2b : 4 < n := by omega
      go_enter Tryz.func130, Tryz.ntmps130
      go_wp2
      go_returns
      exact ⟨by simp [rightZ, *] <;> omega, rfl⟩
  · have h1b : n < 1 := by omega
    go_enter Tryz.func130, Tryz.ntmps130
    go_wp2
    go_returns
    exact ⟨by simp [rightZ, *] <;> omega, rfl⟩
/-- A tree's address. -/
def treeZ (la tr : Int) : List Int := [la, tr / 4294967296, tr % 4294967296, 2, 0, 0, 0, 0]
theorem Aw.tree {la tr : Int} (hl : 0 ≤ la ∧ la < 4294967296) (ht : 0 ≤ tr ∧ tr < 18446744073709551616) : Aw (treeZ la tr) := ⟨rfl, fun x hx => by
  simp only [treeZ, List.mem_cons, List.not_mem_nil, or_false] at hx
  omega⟩
theorem tree_list (la tr : Int) (w : World) (h0 : 0 ≤ tr) (h1 : tr < 18446744073709551616) :
    Calls Tryz.prog 131 #[.int .u32 la, .int .u64 tr] w fun e w' => e = .returned (.agg ((treeZ la tr).map (Value.int .u32)).toArray) ∧ Below w.heap.size w w' := tree_any la tr w h0 h1
set_option maxHeartbeats 4000000 in
theorem tjoin_any (da db pub ad : List Int) (lev num : Int) (w : World) (hda : Dg da) (hdb : Dg db) (hpub : Dg pub) (had : Aw ad) (hl : 0 ≤ lev ∧ lev < 4294967296) (hn : 0 ≤ num ∧ num < 4294967296) (tab : ShaTab w) :
    Calls Tryz.prog 132 #[(.agg (da.map (Value.int .u8)).toArray), (.agg (db.map (Value.int .u8)).toArray), (.agg (pub.map (Value.int .u8)).toArray), (.agg (ad.map (Value.int .u32)).toArray), .int .i64 lev, .int .i64 num] w fun e w' => e = .returned (.agg ((joinZ da db pub (setAd ad lev num 0)).map (Value.int .u8)).toArray) ∧ Below w.heap.size w w' := by
  have HJ := hid (Dg.join da db pub (setAd ad lev num 0))
  have HA := hid (had.set (f := lev) (s := num) (p := 0) hl hn (by omega))
  have J1 := hid (fun (W : World) (t : ShaTab W) => ljoin_any da db pub (setAd ad lev num 0) W hda hdb hpub HA.out t)
  generalize (joinZ da db pub (setAd ad lev num 0)) = J at *
  have b1 := (Below.refl w.heap.size w).alloc (Nat.le_refl _) (.cells (da.map (Value.int .u8)).toArray 25 (0, 0))
  have b2 := b1.alloc b1.size (.cells (db.map (Value.int .u8)).toArray 25 (0, 0))
  have b3 := b2.alloc b2.size (.cells (pub.map (Value.int .u8)).toArray 25 (0, 0))
  have b4 := b3.alloc b3.size (.cells (ad.map (Value.int .u32)).toArray 66 (0, 0))
  have b5 := b4.alloc b4.size (.cells (byteCells 32 []) 25 (0, 0))
  have Ka := hid (((((Blk.new (w := w) (n := w.heap.size) rfl (da.map (Value.int .u8)).toArray 25).old (.cells (db.map (Value.int .u8)).toArray 25 (0, 0))).old (.cells (pub.map (Value.int .u8)).toArray 25 (0, 0))).old (.cells (ad.map (Value.int .u32)).toArray 66 (0, 0))).old (.cells (byteCells 32 []) 25 (0, 0)))
  have Kb := hid ((((Blk.new (w := (w.alloc (.cells (da.map (Value.int .u8)).toArray 25 (0, 0)))) (n := w.heap.size + 1) (by simp only [World.size_alloc]) (db.map (Value.int .u8)).toArray 25).old (.cells (pub.map (Value.int .u8)).toArray 25 (0, 0))).old (.cells (ad.map (Value.int .u32)).toArray 66 (0, 0))).old (.cells (byteCells 32 []) 25 (0, 0)))
  have Kp := hid (((Blk.new (w := ((w.alloc (.cells (da.map (Value.int .u8)).toArray 25 (0, 0))).alloc (.cells (db.map (Value.int .u8)).toArray 25 (0, 0)))) (n := w.heap.size + 1 + 1) (by simp only [World.size_alloc]) (pub.map (Value.int .u8)).toArray 25).old (.cells (ad.map (Value.int .u32)).toArray 66 (0, 0))).old (.cells (byteCells 32 []) 25 (0, 0)))
  have Kad := hid ((Blk.new (w := (((w.alloc (.cells (da.map (Value.int .u8)).toArray 25 (0, 0))).alloc (.cells (db.map (Value.int .u8)).toArray 25 (0, 0))).alloc (.cells (pub.map (Value.int .u8)).toArray 25 (0, 0)))) (n := w.heap.size + 1 + 1 + 1) (by simp only [World.size_alloc]) (ad.map (Value.int .u32)).toArray 66).old (.cells (byteCells 32 []) 25 (0, 0)))
  have Kr0 := hid (Blk.new (w := ((((w.alloc (.cells (da.map (Value.int .u8)).toArray 25 (0, 0))).alloc (.cells (db.map (Value.int .u8)).toArray 25 (0, 0))).alloc (.cells (pub.map (Value.int .u8)).toArray 25 (0, 0))).alloc (.cells (ad.map (Value.int .u32)).toArray 66 (0, 0)))) (n := w.heap.size + 1 + 1 + 1 + 1) (by simp only [World.size_alloc]) (byteCells 32 []) 25)
  have Hb := hid b5
  have HzA := hid zsize
  have hbz := b5.size
  have Hbs := hid (show w.heap.size + 1 + 1 + 1 + 1 + 1 = (((((w.alloc (.cells (da.map (Value.int .u8)).toArray 25 (0, 0))).alloc (.cells (db.map (Value.int .u8)).toArray 25 (0, 0))).alloc (.cells (pub.map (Value.int .u8)).toArray 25 (0, 0))).alloc (.cells (ad.map (Value.int .u32)).toArray 66 (0, 0))).alloc (.cells (byteCells 32 []) 25 (0, 0))).heap.size by simp only [World.size_alloc])
  have Htab := hid tab
  clear b1 b2 b3 b4 b5 tab
  go_enter Tryz.func132, Tryz.ntmps132
  go_wp2_with fail
  refine wp_region_flow 10 (List.range 10) [] [] (by kernel_rfl) (by kernel_rfl) ?_
  apply Exists.intro
  refine ⟨fun w0 hb0 hF0 => ?_, ?_⟩
  · skip
    have x0 : ∀ w', (∃ x : Ext w0, w' = x.at_) → ∃ T, Blk w' (w.heap.size) (da.map (Value.int .u8)).toArray T := fun w' ⟨x, hx⟩ => ⟨_, hx ▸ (Ka.out.below hb0).below x.same⟩
    have x1 : ∀ w', (∃ x : Ext w0, w' = x.at_) → ∃ T, Blk w' (w.heap.size + 1) (db.map (Value.int .u8)).toArray T := fun w' ⟨x, hx⟩ => ⟨_, hx ▸ (Kb.out.below hb0).below x.same⟩
    have x2 : ∀ w', (∃ x : Ext w0, w' = x.at_) → ∃ T, Blk w' (w.heap.size + 1 + 1) (pub.map (Value.int .u8)).toArray T := fun w' ⟨x, hx⟩ => ⟨_, hx ▸ (Kp.out.below hb0).below x.same⟩
    have x3 : ∀ w', (∃ x : Ext w0, w' = x.at_) → ∃ T, Blk w' (w.heap.size + 1 + 1 + 1) (ad.map (Value.int .u32)).toArray T := fun w' ⟨x, hx⟩ => ⟨_, hx ▸ (Kad.out.below hb0).below x.same⟩
    have c0 := fun e : Ext w0 => at_list ad lev num e.at_ had
    have c1 := fun e : Ext w0 => J1.out e.at_ ((Htab.out.below (Below.on Hb.out hb0)).below e.same)
    simp only [pick, List.range, List.range.loop, List.getElem?_toArray, List.getElem?_cons_succ, List.getElem?_cons_zero, Option.toList_some, List.cons_append, List.nil_append]
    repeat (first | (go_big_quiet_want; refine quiet_load_blk 25 _ rfl (w.heap.size) rfl _ x0 _ Tryz.underlying25 rfl 32 size_digest hda.size ?_; go_big_quiet_on; simp only [Act.put, List.setIfInBounds_toArray, List.set_cons_zero, List.set_cons_succ]) | (go_big_quiet_want; refine quiet_load_blk 25 _ rfl (w.heap.size + 1) rfl _ x1 _ Tryz.underlying25 rfl 32 size_digest hdb.size ?_; go_big_quiet_on; simp only [Act.put, List.setIfInBounds_toArray, List.set_cons_zero, List.set_cons_succ]) | (go_big_quiet_want; refine quiet_load_blk 25 _ rfl (w.heap.size + 1 + 1) rfl _ x2 _ Tryz.underlying25 rfl 32 size_digest hpub.size ?_; go_big_quiet_on; simp only [Act.put, List.setIfInBounds_toArray, List.set_cons_zero, List.set_cons_succ]) | (go_big_quiet_want; refine quiet_load_blk 66 _ rfl (w.heap.size + 1 + 1 + 1) rfl _ x3 _ Tryz.underlying66 rfl 8 sizeAdrs had.size ?_; go_big_quiet_on; simp only [Act.put, List.setIfInBounds_toArray, List.set_cons_zero, List.set_cons_succ]) | go_big_quiet_step (first | (go_at_call 141; with_reducible exact Calls.ext (c0 _)) | (go_at_call 143; with_reducible exact Calls.ext (c1 _))))
    exact wpQuiet_nil rfl
  refine AlChk.nil ?_
  refine Walk.fin fun w1 hw1 _ _ => ?_
  simp only [List.drop_succ_cons, List.drop_zero]
  have HBw1 := hid (Below.on Hb.out hw1)
  have hsw1 := HBw1.out.size
  have Kaw1 := hid (Ka.out.below hw1)
  have Kbw1 := hid (Kb.out.below hw1)
  have Kpw1 := hid (Kp.out.below hw1)
  have Kadw1 := hid (Kad.out.below hw1)
  have Kr0w1 := hid (Kr0.out.below hw1)
  clear hw1
  go_wp2_with (
      refine wpList_store_blk rfl 25 _ _ rfl (w.heap.size + 1 + 1 + 1 + 1) (J.map (Value.int .u8)).toArray rfl rfl _ 25 Kr0w1.out 32 size_digest HzA.out HJ.out.size (ints_one _ _) ?_
      intro w9 hb9 hk9
      have HB9 := hid (hb9.below HBw1.out HBw1.out.size (by omega))
      have HK9 := hid hk9
      clear hb9 hk9)
  exact bodyPost_ret (v := (.agg (J.map (Value.int .u8)).toArray)) (results_blk Tryz.results132 _ (w.heap.size + 1 + 1 + 1 + 1) rfl _ 25 HK9.out _ Tryz.underlying25 rfl 32 size_digest HJ.out.size) rfl ⟨rfl, HB9.out⟩
end Go.Proofs.YtkakoiaahgchmaaGreatDoor
namespace Go.Proofs.YtkakoiaahgchmaaGreatDoor
set_option maxRecDepth 100000
open Go.ChangeShapes Go.WideShapes Go.ChangeAt Go.RowKit
theorem tright_b (n i : Int) (b : Bool) (hb : rightZ n i = b) (w : World) : Calls Tryz.prog 130 #[.int .i64 n, .int .i64 i] w fun e w' => e = .returned (.bool b) ∧ Below w.heap.size w w' :=
  (tright_any n i w).mono fun e w' h => by
    obtain ⟨rfl, rfl⟩ := h
    exact ⟨by rw [hb], Below.refl _ _⟩
/-- One step up. -/
def climbS (pub ad : List Int) (i : Int) (lev : Nat) (x s : List Int) : List Int :=
  if i / 2 ^ lev % 2 = 1 then joinZ s x pub (setAd ad lev (i / 2 ^ lev / 2) 0) else joinZ x s pub (setAd ad lev (i / 2 ^ lev / 2) 0)
def climbZ (pub ad : List Int) (i : Int) (way : List (List Int)) (x : List Int) : Nat → List Int
  | 0 => x
  | k + 1 => climbS pub ad i k (climbZ pub ad i way x k) (way.getD k [])
theorem Dg.climb {pub ad : List Int} {i : Int} {way : List (List Int)} {x : List Int} (hx : Dg x) : ∀ k, Dg (climbZ pub ad i way x k)
  | 0 => hx
  | k + 1 => by
    unfold climbZ climbS
    split
    · exact Dg.join _ _ _ _
    · exact Dg.join _ _ _ _
set_option maxHeartbeats 4000000 in
theorem climb_good (dx pub : List Int) (na : Option Addr) (n nc : Nat) (way : List (List Int)) (i la tr : Int) (w : World) (hx : Dg dx) (hpub : Dg pub) (hN : DigsAt w na n nc way) (hla : 0 ≤ la ∧ la < 4294967296) (htr : 0 ≤ tr ∧ tr < 18446744073709551616) (hr : rightZ n i = true) (tab : ShaTab w) :
    Calls Tryz.prog 104 #[(.agg (dx.map (Value.int .u8)).toArray), .slice na n nc, .int .i64 i, (.agg (pub.map (Value.int .u8)).toArray), .int .u32 la, .int .u64 tr] w fun e w' => e = .returned (.tuple #[(.agg ((climbZ pub (treeZ la tr) i way dx n).map (Value.int .u8)).toArray), .int .i64 0]) ∧ Below w.heap.size w w' := by
  have HAd := hid (Aw.tree hla htr)
  have HN := hid hN
  have hle := hN.le
  have hmx := hN.max
  have hr2 := hr
  simp only [rightZ, decide_eq_true_eq] at hr2
  have b1 := (Below.refl w.heap.size w).alloc (Nat.le_refl _) (.cells (dx.map (Value.int .u8)).toArray 25 (0, 0))
  have b2 := b1.alloc b1.size (.cells (pub.map (Value.int .u8)).toArray 25 (0, 0))
  have b3 := b2.alloc b2.size (.cells (byteCells 32 []) 25 (0, 0))
  have Kx := hid (((Blk.new (w := w) (n := w.heap.size) rfl (dx.map (Value.int .u8)).toArray 25).old (.cells (pub.map (Value.int .u8)).toArray 25 (0, 0))).old (.cells (byteCells 32 []) 25 (0, 0)))
  have Kp := hid ((Blk.new (w := (w.alloc (.cells (dx.map (Value.int .u8)).toArray 25 (0, 0)))) (n := w.heap.size + 1) (by simp only [World.size_alloc]) (pub.map (Value.int .u8)).toArray 25).old (.cells (byteCells 32 []) 25 (0, 0)))
  have Kr0 := hid (Blk.new (w := ((w.alloc (.cells (dx.map (Value.int .u8)).toArray 25 (0, 0))).alloc (.cells (pub.map (Value.int .u8)).toArray 25 (0, 0)))) (n := w.heap.size + 1 + 1) (by simp only [World.size_alloc]) (byteCells 32 []) 25)
  have Hb := hid b3
  have HzA := hid zsize
  have hbz := b3.size
  have Hbs := hid (show w.heap.size + 1 + 1 + 1 = (((w.alloc (.cells (dx.map (Value.int .u8)).toArray 25 (0, 0))).alloc (.cells (pub.map (Value.int .u8)).toArray 25 (0, 0))).alloc (.cells (byteCells 32 []) 25 (0, 0))).heap.size by simp only [World.size_alloc])
  have Htab := hid tab
  clear b1 b2 b3 tab
  go_enter Tryz.func104, Tryz.ntmps104
  go_wp2_with fail
  refine (tright_b (n : Int) i true hr _).mono ?_
  rintro e w1 ⟨rfl, bw1⟩
  have HBw1 := hid (Below.on Hb.out bw1)
  have hsw1 := HBw1.out.size
  have Kxw1 := hid (Kx.out.below bw1)
  have Kpw1 := hid (Kp.out.below bw1)
  have Kr0w1 := hid (Kr0.out.below bw1)
  clear bw1
  go_wp2_with fail
  refine (tree_list la tr _ htr.1 htr.2).mono ?_
  rintro e w2 ⟨rfl, bw2⟩
  have HBw2 := hid (Below.on HBw1.out bw2)
  have hsw2 := HBw2.out.size
  have Kxw2 := hid (Kxw1.out.below bw2)
  have Kpw2 := hid (Kpw1.out.below bw2)
  have Kr0w2 := hid (Kr0w1.out.below bw2)
  clear bw2
  go_wp2_with (
      refine wpList_store_blk rfl 66 _ _ rfl (w2.heap.size) ((treeZ la tr).map (Value.int .u32)).toArray rfl rfl _ 66 (Blk.new rfl #[.int .u32 0, .int .u32 0, .int .u32 0, .int .u32 0, .int .u32 0, .int .u32 0, .int .u32 0, .int .u32 0] _) 8 sizeAdrs rfl HAd.out.size (ints_one _ _) ?_
      intro w3 hbw3 hkw3
      have HBw3 := hid (hbw3.below (HBw2.out.alloc HBw2.out.size _) (by simp only [World.size_alloc]; omega) (by have := HBw2.out.size; omega))
      have hsw3 := HBw3.out.size
      have Kadw3 := hid hkw3
      have Kxw3 := hid (hbw3.blk (Kxw2.out.old _) (by have := Kxw2.out.lt; omega))
      have Kpw3 := hid (hbw3.blk (Kpw2.out.old _) (by have := Kpw2.out.lt; omega))
      have Kr0w3 := hid (hbw3.blk (Kr0w2.out.old _) (by have := Kr0w2.out.lt; omega))
      clear hbw3 hkw3)
  have Hga := hid (show w.heap.size + 1 + 1 < w2.heap.size from Kr0w2.out.lt)
  have hga := Hga.out
  generalize w2.heap.size = ga at *
  go_loopw [31] (fun c wr => ∃ k : Nat, k ≤ n ∧ c = .int .i64 k ∧ Blk wr (w.heap.size) ((climbZ pub (treeZ la tr) i way dx k).map (Value.int .u8)).toArray 25 ∧ Blk wr (w.heap.size + 1) (pub.map (Value.int .u8)).toArray 25 ∧ Blk wr (w.heap.size + 1 + 1) (byteCells 32 []) 25 ∧ Blk wr ga ((treeZ la tr).map (Value.int .u32)).toArray 66 ∧ Below w.heap.size w wr) (fun c _ => n - (intOf c).toNat)
  case atStart => exact ⟨0, Nat.zero_le _, rfl, Kxw3.out, Kpw3.out, Kr0w3.out, Kadw3.out, HBw3.out⟩
  case round =>
    obtain ⟨k, hk, rfl, kx, kp, kr, ka, bel⟩ := hrel
    have Kxwr := hid kx
    have Kpwr := hid kp
    have Kr0wr := hid kr
    have Kadwr := hid ka
    have HBwr := hid bel
    have hswr := bel.size
    clear kx kp kr ka bel
    by_cases hlt : k < n
    · skip
      have HX := hid (Dg.climb (pub := pub) (ad := treeZ la tr) (i := i) (way := way) hx k)
      have HS := hid (HN.out.get hlt)
      have hc0 : (k : Int) < n := by omega
      have hk16 : (k : Int) ≤ 64 := by omega
      have HNr := HN.out.below HBwr.out
      obtain ⟨xs, xo, rfl, hxs, hcell⟩ := HNr.at_ (by omega)
      have Hc := hid (hcell k hlt)
      have Hst := hid (show (climbZ pub (treeZ la tr) i way dx (k + 1)) = climbS pub (treeZ la tr) i k (climbZ pub (treeZ la tr) i way dx k) (way.getD k []) from rfl)
      clear hcell HNr
      generalize way.getD k [] = s at *
      generalize hX2 : (climbZ pub (treeZ la tr) i way dx (k + 1)) = x2 at *
      generalize (climbZ pub (treeZ la tr) i way dx k) = x1 at *
      go_wp2_with (first
         | (refine wpList_index_digs rfl 33 _ _ rfl Tryz.underlying33 size_digest xs xo n nc rfl _ _ rfl k rfl hlt ?_)
         | (refine wpList_load_mid rfl 25 _ rfl xs (xo + k * 32) rfl _ _ Hc.out Tryz.underlying25 rfl (by rw [List.length_map, HS.out.len]; exact size_digest) ?_)
         | (
            refine wpList_store_blk rfl 25 _ _ rfl (wr.heap.size) (s.map (Value.int .u8)).toArray rfl rfl _ 25 (Blk.new rfl (byteCells 32 []) _) 32 size_digest HzA.out HS.out.size (ints_one _ _) ?_
            intro w21 hbw21 hkw21
            have HBw21 := hid (hbw21.below (HBwr.out.alloc HBwr.out.size _) (by simp only [World.size_alloc]; omega) (by have := HBwr.out.size; omega))
            have hsw21 := HBw21.out.size
            have Ksw21 := hid hkw21
            have Kxw21 := hid (hbw21.blk (Kxwr.out.old _) (by have := Kxwr.out.lt; omega))
            have Kpw21 := hid (hbw21.blk (Kpwr.out.old _) (by have := Kpwr.out.lt; omega))
            have Kr0w21 := hid (hbw21.blk (Kr0wr.out.old _) (by have := Kr0wr.out.lt; omega))
            have Kadw21 := hid (hbw21.blk (Kadwr.out.old _) (by have := Kadwr.out.lt; omega))
            clear hbw21 hkw21))
      have hlx := Kxw21.out.lt
      have hlp := Kpw21.out.lt
      have hlr0 := Kr0w21.out.lt
      have hlad := Kadw21.out.lt
      have hls := Ksw21.out.lt
      have hq16 : 0 ≤ i / 2 ^ k ∧ i / 2 ^ k < 16 := by
        have hp : (0 : Int) < 2 ^ k := Int.pow_pos (by omega)
        have h16 : i < 16 := by
          rcases (show n = 1 ∨ n = 2 ∨ n = 3 ∨ n = 4 by omega) with rfl | rfl | rfl | rfl <;> simp at hr2 <;> omega
        exact ⟨Int.ediv_nonneg (by omega) (by omega), Int.lt_of_le_of_lt (Int.ediv_le_self _ (by omega)) h16⟩
      generalize hq : i / 2 ^ k = q at *
      refine wp_pair (by kernel_rfl) (by kernel_rfl) (fun _ _ d _ _ h => by cases d <;> exact h) _ _ _ _ _ _ rfl rfl rfl rfl rfl rfl 25 _ _ _ _ _ _ rfl rfl rfl rfl rfl rfl rfl rfl rfl rfl rfl rfl (by simp) (w.heap.size) (wr.heap.size) (x1.map (Value.int .u8)).toArray (s.map (Value.int .u8)).toArray rfl rfl _ _ Kxw21.out Ksw21.out _ Tryz.underlying25 rfl 32 size_digest HX.out.size HS.out.size (ints_one _ _) (ints_one _ _) (byteCells 32 []) HzA.out (fun A W => by go_simp; rfl) (fun A W => by go_simp; rfl) (fun b c => ⟨rfl, rfl, rfl, rfl⟩) ?_
      intro gb gc w22 hb22 hgb hgc hbc kb kc
      simp only [pairF, Act.put, List.setIfInBounds_toArray, List.set_cons_zero, List.set_cons_succ]
      have HBw22 := hid (Below.on HBw21.out hb22)
      have hsw22 := HBw22.out.size
      have Kxw22 := hid (Kxw21.out.below hb22)
      have Kpw22 := hid (Kpw21.out.below hb22)
      have Kr0w22 := hid (Kr0w21.out.below hb22)
      have Kadw22 := hid (Kadw21.out.below hb22)
      have Ksw22 := hid (Ksw21.out.below hb22)
      have Klw22 := hid kb
      have Krw22 := hid kc
      clear hb22 kb kc
      by_cases hodd : q % 2 = 1
      · skip
        go_wp2_with fail
        refine FlowB.wp_region_butIn [gb, gc] (fun wz => Blk wz (gb) (x1.map (Value.int .u8)).toArray 25 ∧ Blk wz (gc) (s.map (Value.int .u8)).toArray 25) 4 [0, 1] [] [(.c 2, [], []), (.c 3, [], [])] (by kernel_rfl) (by kernel_rfl) ⟨Klw22.out, Krw22.out⟩ (fun _ _ h hb => ⟨h.1.below hb, h.2.below hb⟩) ?_
        apply Exists.intro
        refine ⟨fun w0 hb0 hF0 => ?_, ?_⟩
        · skip
          have x0 : ∀ w', (∃ x : Ext w0, w' = x.at_) → ∃ T, Blk w' (wr.heap.size) (s.map (Value.int .u8)).toArray T := fun w' ⟨x, hx⟩ => ⟨_, hx ▸ (hb0.blk Ksw22.out (by simp only [List.mem_cons, List.not_mem_nil, or_false]; omega)).below x.same⟩
          have x1 : ∀ w', (∃ x : Ext w0, w' = x.at_) → ∃ T, Blk w' (w.heap.size) (x1.map (Value.int .u8)).toArray T := fun w' ⟨x, hx⟩ => ⟨_, hx ▸ (hb0.blk Kxw22.out (by simp only [List.mem_cons, List.not_mem_nil, or_false]; omega)).below x.same⟩
          simp only [pick, List.getElem?_toArray, List.getElem?_cons_succ, List.getElem?_cons_zero, Option.toList_some, List.cons_append, List.nil_append]
          repeat (first | (go_big_quiet_want; refine quiet_load_blk 25 _ rfl (wr.heap.size) rfl _ x0 _ Tryz.underlying25 rfl 32 size_digest HS.out.size ?_; go_big_quiet_on; simp only [Act.put, List.setIfInBounds_toArray, List.set_cons_zero, List.set_cons_succ]) | (go_big_quiet_want; refine quiet_load_blk 25 _ rfl (w.heap.size) rfl _ x1 _ Tryz.underlying25 rfl 32 size_digest HX.out.size ?_; go_big_quiet_on; simp only [Act.put, List.setIfInBounds_toArray, List.set_cons_zero, List.set_cons_succ]) | go_big_quiet_step (fail))
          exact wpQuiet_nil rfl
        refine FlowB.AlChk.nil ?_
        refine FlowB.Walk.skips rfl (fun wz => Blk wz (gb) (s.map (Value.int .u8)).toArray 25 ∧ Blk wz (gc) (s.map (Value.int .u8)).toArray 25) (fun _ _ h hb => ⟨h.1.below hb, h.2.below hb⟩) rfl (fun w1 hb1 hF1 hG1 => ?_) ?_
        · exact FlowB.store_skips 25 _ _ rfl (gb) (s.map (Value.int .u8)).toArray rfl rfl _ 25 hG1.1 32 size_digest HX.out.size HS.out.size (ints_one _ _) (by simp) (fun w2 h2 h3 => ⟨h3, h2.blk hG1.2 (by omega)⟩)
        intro w1 hb1 hF1
        apply Exists.intro
        refine ⟨fun w2 hb2 hF2 => wpQuiet_nil rfl, ?_⟩
        refine FlowB.AlChk.nil ?_
        refine FlowB.Walk.skips rfl (fun wz => Blk wz (gb) (s.map (Value.int .u8)).toArray 25 ∧ Blk wz (gc) (x1.map (Value.int .u8)).toArray 25) (fun _ _ h hb => ⟨h.1.below hb, h.2.below hb⟩) rfl (fun w1 hb1 hF1 hG1 => ?_) ?_
        · exact FlowB.store_skips 25 _ _ rfl (gc) (x1.map (Value.int .u8)).toArray rfl rfl _ 25 hG1.2 32 size_digest HS.out.size HX.out.size (ints_one _ _) (by simp) (fun w2 h2 h3 => ⟨h2.blk hG1.1 (by omega), h3⟩)
        intro w1 hb1 hF1
        apply Exists.intro
        refine ⟨fun w2 hb2 hF2 => wpQuiet_nil rfl, ?_⟩
        refine FlowB.AlChk.nil ?_
        refine FlowB.Walk.fin fun w22 hw22 _ hGw22 => ?_
        simp only [List.drop_succ_cons, List.drop_zero]
        have HBw22 := hid (hw22.below HBw22.out HBw22.out.size (by simp only [List.mem_cons, List.not_mem_nil, or_false, forall_eq_or_imp, forall_eq]; omega))
        have HGw22 := hid hGw22
        have Kxw22 := hid (hw22.blk Kxw22.out (by simp only [List.mem_cons, List.not_mem_nil, or_false]; have := Kxw22.out.lt; omega))
        have Kpw22 := hid (hw22.blk Kpw22.out (by simp only [List.mem_cons, List.not_mem_nil, or_false]; have := Kpw22.out.lt; omega))
        have Kr0w22 := hid (hw22.blk Kr0w22.out (by simp only [List.mem_cons, List.not_mem_nil, or_false]; have := Kr0w22.out.lt; omega))
        have Kadw22 := hid (hw22.blk Kadw22.out (by simp only [List.mem_cons, List.not_mem_nil, or_false]; have := Kadw22.out.lt; omega))
        have Ksw22 := hid (hw22.blk Ksw22.out (by simp only [List.mem_cons, List.not_mem_nil, or_false]; have := Ksw22.out.lt; omega))
        have Klw22 := hid HGw22.out.1
        have Krw22 := hid HGw22.out.2
        clear hw22 hGw22
        simp only [Act.put]
        have hx2 : x2 = joinZ s x1 pub (setAd (treeZ la tr) k (q / 2) 0) := by
          rw [Hst.out]
          unfold climbS
          rw [hq, if_pos hodd]
        have HX2 := hid (show Dg x2 by rw [hx2]; exact Dg.join _ _ _ _)
        have C := hid (show ∀ W : World, ShaTab W → Calls Tryz.prog 132 #[(.agg (s.map (Value.int .u8)).toArray), (.agg (x1.map (Value.int .u8)).toArray), (.agg (pub.map (Value.int .u8)).toArray), (.agg ((treeZ la tr).map (Value.int .u32)).toArray), .int .i64 k, .int .i64 (q / 2)] W (fun e w' => e = .returned (.agg (x2.map (Value.int .u8)).toArray) ∧ Below W.heap.size W w') from fun W t => by
          rw [hx2]
          exact tjoin_any s x1 pub (treeZ la tr) k (q / 2) W HS.out HX.out hpub HAd.out (by omega) (by omega) t)
        clear hx2
        go_wp2_with (first
           | (refine wpList_load_blk rfl 25 _ rfl (gb) rfl _ 25 Klw22.out _ Tryz.underlying25 rfl 32 size_digest HS.out.size ?_)
           | (refine wpList_load_blk rfl 25 _ rfl (gc) rfl _ 25 Krw22.out _ Tryz.underlying25 rfl 32 size_digest HX.out.size ?_)
           | (refine wpList_load_blk rfl 25 _ rfl (w.heap.size + 1) rfl _ 25 Kpw22.out _ Tryz.underlying25 rfl 32 size_digest hpub.size ?_)
           | (refine wpList_load_blk rfl 66 _ rfl (ga) rfl _ 66 Kadw22.out _ Tryz.underlying66 rfl 8 sizeAdrs HAd.out.size ?_))
        refine (C.out _ (Htab.out.below HBw22.out)).mono ?_
        rintro e w23 ⟨rfl, bw23⟩
        have HBw23 := hid (Below.on HBw22.out bw23)
        have hsw23 := HBw23.out.size
        have Kxw23 := hid (Kxw22.out.below bw23)
        have Kpw23 := hid (Kpw22.out.below bw23)
        have Kr0w23 := hid (Kr0w22.out.below bw23)
        have Kadw23 := hid (Kadw22.out.below bw23)
        have Ksw23 := hid (Ksw22.out.below bw23)
        have Klw23 := hid (Klw22.out.below bw23)
        have Krw23 := hid (Krw22.out.below bw23)
        clear bw23
        go_wp2_with (
            refine wpList_store_blk rfl 25 _ _ rfl (w.heap.size) (x2.map (Value.int .u8)).toArray rfl rfl _ 25 Kxw23.out 32 size_digest HX.out.size HX2.out.size (ints_one _ _) ?_
            intro w30 hb30 hk30
            have HBw30 := hid (hb30.below HBw23.out HBw23.out.size (by omega))
            have Kxw30 := hid hk30
            have Kpw30 := hid (hb30.blk Kpw23.out (by omega))
            have Kr0w30 := hid (hb30.blk Kr0w23.out (by omega))
            have Kadw30 := hid (hb30.blk Kadw23.out (by omega))
            clear hb30 hk30)
        exact ⟨⟨k + 1, by omega, by first | rfl | simp, by rw [hX2]; exact Kxw30.out, Kpw30.out, Kr0w30.out, Kadw30.out, HBw30.out⟩, by simp [intOf]; omega⟩
      · skip
        have hx2 : x2 = joinZ x1 s pub (setAd (treeZ la tr) k (q / 2) 0) := by
          rw [Hst.out]
          unfold climbS
          rw [hq, if_neg hodd]
        have HX2 := hid (show Dg x2 by rw [hx2]; exact Dg.join _ _ _ _)
        have C := hid (show ∀ W : World, ShaTab W → Calls Tryz.prog 132 #[(.agg (x1.map (Value.int .u8)).toArray), (.agg (s.map (Value.int .u8)).toArray), (.agg (pub.map (Value.int .u8)).toArray), (.agg ((treeZ la tr).map (Value.int .u32)).toArray), .int .i64 k, .int .i64 (q / 2)] W (fun e w' => e = .returned (.agg (x2.map (Value.int .u8)).toArray) ∧ Below W.heap.size W w') from fun W t => by
          rw [hx2]
          exact tjoin_any x1 s pub (treeZ la tr) k (q / 2) W HX.out HS.out hpub HAd.out (by omega) (by omega) t)
        clear hx2
        go_wp2_with (first
           | (refine wpList_load_blk rfl 25 _ rfl (gb) rfl _ 25 Klw22.out _ Tryz.underlying25 rfl 32 size_digest HX.out.size ?_)
           | (refine wpList_load_blk rfl 25 _ rfl (gc) rfl _ 25 Krw22.out _ Tryz.underlying25 rfl 32 size_digest HS.out.size ?_)
           | (refine wpList_load_blk rfl 25 _ rfl (w.heap.size + 1) rfl _ 25 Kpw22.out _ Tryz.underlying25 rfl 32 size_digest hpub.size ?_)
           | (refine wpList_load_blk rfl 66 _ rfl (ga) rfl _ 66 Kadw22.out _ Tryz.underlying66 rfl 8 sizeAdrs HAd.out.size ?_))
        refine (C.out _ (Htab.out.below HBw22.out)).mono ?_
        rintro e w22 ⟨rfl, bw22⟩
        have HBw22 := hid (Below.on HBw22.out bw22)
        have hsw22 := HBw22.out.size
        have Kxw22 := hid (Kxw22.out.below bw22)
        have Kpw22 := hid (Kpw22.out.below bw22)
        have Kr0w22 := hid (Kr0w22.out.below bw22)
        have Kadw22 := hid (Kadw22.out.below bw22)
        have Ksw22 := hid (Ksw22.out.below bw22)
        have Klw22 := hid (Klw22.out.below bw22)
        have Krw22 := hid (Krw22.out.below bw22)
        clear bw22
        go_wp2_with (
            refine wpList_store_blk rfl 25 _ _ rfl (w.heap.size) (x2.map (Value.int .u8)).toArray rfl rfl _ 25 Kxw22.out 32 size_digest HX.out.size HX2.out.size (ints_one _ _) ?_
            intro w30 hb30 hk30
            have HBw30 := hid (hb30.below HBw22.out HBw22.out.size (by omega))
            have Kxw30 := hid hk30
            have Kpw30 := hid (hb30.blk Kpw22.out (by omega))
            have Kr0w30 := hid (hb30.blk Kr0w22.out (by omega))
            have Kadw30 := hid (hb30.blk Kadw22.out (by omega))
            clear hb30 hk30)
        exact ⟨⟨k + 1, by omega, by first | rfl | simp, by rw [hX2]; exact Kxw30.out, Kpw30.out, Kr0w30.out, Kadw30.out, HBw30.out⟩, by simp [intOf]; omega⟩
    · skip
      have hkn : k = n := by omega
      subst hkn
      have HX := hid (Dg.climb (pub := pub) (ad := treeZ la tr) (i := i) (way := way) hx k)
      generalize hX1 : (climbZ pub (treeZ la tr) i way dx k) = x1 at *
      go_wp2_with (first
         | (refine wpList_load_blk rfl 25 _ rfl (w.heap.size) rfl _ 25 Kxwr.out _ Tryz.underlying25 rfl 32 size_digest HX.out.size ?_)
         | (
          refine wpList_store_blk rfl 25 _ _ rfl (w.heap.size + 1 + 1) (x1.map (Value.int .u8)).toArray rfl rfl _ 25 Kr0wr.out 32 size_digest HzA.out HX.out.size (ints_one _ _) ?_
          intro w9 hb9 hk9
          have HB9 := hid (hb9.below HBwr.out HBwr.out.size (by omega))
          have HK9 := hid hk9
          clear hb9 hk9))
      exact bodyPost_ret (v := .tuple #[(.agg (x1.map (Value.int .u8)).toArray), .int .i64 0]) (results_blk_tmp Tryz.results104 _ (w.heap.size + 1 + 1) rfl _ rfl _ 25 HK9.out _ Tryz.underlying25 rfl 32 size_digest HX.out.size) rfl ⟨by rw [hX1], HB9.out⟩
end Go.Proofs.YtkakoiaahgchmaaGreatDoor
namespace Go.Proofs.YtkakoiaahgchmaaGreatDoor
set_option maxRecDepth 100000
open Go.ChangeShapes Go.WideShapes Go.ChangeAt Go.RowKit
end Go.Proofs.YtkakoiaahgchmaaGreatDoor
namespace Go.Proofs.YtkakoiaahgchmaaGreatDoor
set_option maxRecDepth 100000
open Go.ChangeShapes Go.WideShapes Go.ChangeAt Go.RowKit
section
variable {P : Program} {w : World}
end
def d1 : List Int := 1 :: List.replicate 31 0
def d2 : List Int := 2 :: List.replicate 31 0
end Go.Proofs.YtkakoiaahgchmaaGreatDoor
namespace Go.Proofs.YtkakoiaahgchmaaGreatDoor
set_option maxRecDepth 100000
open Go.ChangeShapes Go.WideShapes Go.ChangeAt Go.RowKit
end Go.Proofs.YtkakoiaahgchmaaGreatDoor
