/-
  Keyed, Keyed2, Keyed3: one text.
-/
import Derived.Test.YtjkfbeillmeomaaGreatDoorSZMDig
import Derived.Test.YtjkfbeillmeomaaGreatDoorSZMNum
import Derived.Test.YtjkfbeillmeomaaGreatDoorSZNFlow
import Derived.Test.YtjkfbeillmeomaaGreatDoorSZMAdrs
import Derived.Test.YtjkfbeillmeomaaGreatDoorSZMMac
namespace Go.Proofs.YtjkfbeillmeomaaGreatDoor
set_option maxRecDepth 100000
open Go.ChangeShapes Go.WideShapes Go.ChangeAt Go.RowKit
/-- a digest's bytes -/
structure Dg (xs : List Int) : Prop where
  len : xs.length = 32
  small : ∀ x ∈ xs, 0 ≤ x ∧ x < 256
@[irreducible] def fZ (key m : List Int) : List Int := sumZ (be 32 0 ++ (key ++ m))
@[irreducible] def hZ (key a b : List Int) : List Int := sumZ (be 32 1 ++ (key ++ (a ++ b)))
@[irreducible] def prfZ (key m : List Int) : List Int := sumZ (be 32 3 ++ (key ++ m))
@[irreducible] def msgZ (r root : List Int) (index : Int) (m : List Int) : List Int := sumZ (be 32 2 ++ (r ++ (root ++ (be 32 index ++ m))))
theorem Dg.sum (bs : List Int) : Dg (sumZ bs) := ⟨sumZ_length _, sumZ_small _⟩
theorem Dg.f (a b : List Int) : Dg (fZ a b) := by unfold fZ; exact Dg.sum _
theorem Dg.h (a b c : List Int) : Dg (hZ a b c) := by unfold hZ; exact Dg.sum _
theorem Dg.prf (a b : List Int) : Dg (prfZ a b) := by unfold prfZ; exact Dg.sum _
theorem Dg.msg (a b : List Int) (i : Int) (c : List Int) : Dg (msgZ a b i c) := by unfold msgZ; exact Dg.sum _
theorem wide_any (n : Int) (w : World) (h0 : 0 ≤ n) (h1 : n < 18446744073709551616) :
    Calls Tryz.prog 35 #[.int .u64 n] w fun e w' => ∃ g, w.heap.size ≤ g ∧ e = .returned (.slice (some ⟨g, 0, none⟩) 32 32) ∧ Below w.heap.size w w' ∧ Blk w' g ((be 32 n).map (Value.int .u8)).toArray 5 := by
  go_enter Tryz.func35, Tryz.ntmps35
  go_wp2_with fail
  refine (number_any n 32 32 _ h0 h1 (by decide)).mono ?_
  rintro e w1 ⟨g, hg, rfl, b1, k1⟩
  have H := hid (And.intro b1 k1)
  clear b1 k1
  go_wp2_with fail
  go_ret
  exact ⟨g, hg, rfl, H.out⟩
/-- what 'wide' hands back -/
def WideAt (n : Int) (v : Value) (w : World) : Prop := ∃ g, v = .slice (some ⟨g, 0, none⟩) 32 32 ∧ Blk w g ((be 32 n).map (Value.int .u8)).toArray 5
theorem WideAt.below {n : Int} {v : Value} {w w' : World} (h : WideAt n v w) (hb : Below w.heap.size w w') : WideAt n v w' := by
  obtain ⟨g, h1, h2⟩ := h
  exact ⟨g, h1, h2.below hb⟩
theorem WideAt.text {n : Int} {g : Nat} {w : World} (h : WideAt n (.slice (some ⟨g, 0, none⟩) 32 32) w) : TextAt w (some ⟨g, 0, none⟩) 32 32 (be 32 n) := by
  obtain ⟨g', h1, h2⟩ := h
  injection h1 with h1
  injection h1 with h1
  injection h1 with h1
  subst h1
  exact TextAt.of_ints h2 (be_length 32 n) (by omega) (be_small 32 n)
theorem Dg.text {xs : List Int} (h : Dg xs) {w : World} {g : Nat} {T : TypeId} (k : Blk w g (xs.map (Value.int .u8)).toArray T) : TextAt w (some ⟨g, 0, none⟩) 32 32 xs := TextAt.of_ints k h.len (by omega) h.small
theorem Dg.size {xs : List Int} (h : Dg xs) : ((xs.map (Value.int .u8)).toArray).size = 32 := dsize h.len
set_option maxHeartbeats 2000000 in
theorem F_any (key m : List Int) (w : World) (hkey : Dg key) (hm : Dg m) (tab : ShaTab w) :
    Calls Tryz.prog 99 #[.agg (key.map (Value.int .u8)).toArray, .agg (m.map (Value.int .u8)).toArray] w fun e w' => e = .returned (.agg ((fZ key m).map (Value.int .u8)).toArray) ∧ Below w.heap.size w w' := by
  have HM : Hid (fZ key m = sumZ (be 32 0 ++ (key ++ m))) := hid (by unfold fZ; rfl)
  have HD := hid (Dg.f key m)
  have b1 := (Below.refl w.heap.size w).alloc (Nat.le_refl _) (.cells (key.map (Value.int .u8)).toArray 25 (0, 0))
  have b2 := b1.alloc b1.size (.cells (m.map (Value.int .u8)).toArray 25 (0, 0))
  have bz := b2.alloc b2.size (.cells (byteCells 32 []) 25 (0, 0))
  have K0 := hid (((Blk.new (w := w) (n := w.heap.size) rfl (key.map (Value.int .u8)).toArray 25).old (.cells (m.map (Value.int .u8)).toArray 25 (0, 0))).old (.cells (byteCells 32 []) 25 (0, 0)))
  have K1 := hid ((Blk.new (w := (w.alloc (.cells (key.map (Value.int .u8)).toArray 25 (0, 0)))) (n := w.heap.size + 1) (by simp only [World.size_alloc]) (m.map (Value.int .u8)).toArray 25).old (.cells (byteCells 32 []) 25 (0, 0)))
  have Kr := hid (Blk.new (w := ((w.alloc (.cells (key.map (Value.int .u8)).toArray 25 (0, 0))).alloc (.cells (m.map (Value.int .u8)).toArray 25 (0, 0)))) (n := w.heap.size + 1 + 1) (by simp only [World.size_alloc]) (byteCells 32 []) 25)
  have Hb := hid bz
  have Htab := hid (tab.below bz)
  have HzA := hid zsize
  have hbz := bz.size
  clear tab bz
  clear b2
  clear b1
  go_enter Tryz.func99, Tryz.ntmps99
  go_wp2_with fail
  refine wp_region_flow 5 [1, 2] [] [(.c 0, [], [3]), (.b 3, [4], [])] (by kernel_rfl) (by kernel_rfl) ?_
  apply Exists.intro
  refine ⟨fun w0 hb0 hF0 => ?_, ?_⟩
  · simp only [pick, List.getElem?_toArray, List.getElem?_cons_succ, List.getElem?_cons_zero, Option.toList_some, List.cons_append, List.nil_append]
    repeat (go_big_quiet_step (fail))
    exact wpQuiet_nil rfl
  refine AlChk.nil ?_
  refine Walk.call rfl 35 #[.int .u64 0] (WideAt 0) (fun v w' w'' h k => h.below k) rfl (fun w1 hb1 hF1 => ⟨by go_simp, ?_⟩) ?_
  · refine (wide_any 0 w1 (by omega) (by omega)).mono ?_
    rintro e w2 ⟨g, hg, rfl, b2, k2⟩
    exact ⟨_, rfl, b2, g, rfl, k2⟩
  rintro v w1 hb1 hF1 ⟨gw, rfl, _⟩
  apply Exists.intro
  refine ⟨fun w2 hb2 hF2 => wpQuiet_nil rfl, ?_⟩
  refine AlChk.one rfl (fun b => .slice (some ⟨b, 0, none⟩) 3 3) (.cells #[.slice (some ⟨gw, 0, none⟩) 32 32, .slice (some ⟨w.heap.size, 0, none⟩) 32 32, .slice (some ⟨w.heap.size + 1, 0, none⟩) 32 32] 44 (0, 0)) rfl (fun w2 hb2 hF2 => by go_simp) ?_
  refine AlChk.nil ?_
  refine Walk.blk rfl (fun b => .slice (some ⟨b, 0, none⟩) 3 3) (.cells #[.slice (some ⟨gw, 0, none⟩) 32 32, .slice (some ⟨w.heap.size, 0, none⟩) 32 32, .slice (some ⟨w.heap.size + 1, 0, none⟩) 32 32] 44 (0, 0)) (by simp) ?_
  intro b9 w2 hb2 hF2 hge9 _
  apply Exists.intro
  refine ⟨fun w3 hb3 hF3 => ?_, ?_⟩
  · have k9 : Blk w3 b9 #[.slice (some ⟨gw, 0, none⟩) 32 32, .slice (some ⟨w.heap.size, 0, none⟩) 32 32, .slice (some ⟨w.heap.size + 1, 0, none⟩) 32 32] 44 := hF3.2
    have hW := hF3.1.2
    have hs := fun e : Ext w3 => sum_any (some ⟨b9, 0, none⟩) 3 3 [be 32 0, key, m] e.at_ (TextsAt.of_blk (k9.below e.same) rfl (Nat.le_refl _) (by omega) fun j hj => by
      match j, hj with
      | 0, _ => exact ⟨_, _, _, rfl, (hW.below e.same).text⟩
      | 1, _ => exact ⟨_, _, _, rfl, hkey.text ((K0.out.below hb3).below e.same)⟩
      | 2, _ => exact ⟨_, _, _, rfl, hm.text ((K1.out.below hb3).below e.same)⟩) (by simp only [sumLen, List.map_cons, List.map_nil, List.sum_cons, List.sum_nil, be_length, hkey.len, hm.len]; omega) ((Htab.out.below hb3).below e.same)
    rw [show ([be 32 0, key, m] : List (List Int)).flatten = be 32 0 ++ (key ++ m) by simp, ← HM.out] at hs
    simp only [pick, List.getElem?_toArray, List.getElem?_cons_succ, List.getElem?_cons_zero, Option.toList_some, List.cons_append, List.nil_append, Act.put, List.setIfInBounds_toArray, List.set_cons_zero, List.set_cons_succ]
    repeat (go_big_quiet_step (first | (go_at_call 34; exact Calls.ext (hs _))))
    exact wpQuiet_nil rfl
  refine AlChk.nil ?_
  refine Walk.fin fun w4 h4 _ _ => ?_
  simp only [List.drop_succ_cons, List.drop_zero]
  have Hr4 := hid (Kr.out.below h4)
  have Hb4 := hid (Below.on Hb.out h4)
  clear h4
  go_wp2_with (refine wpList_store_blk rfl 25 _ _ rfl (w.heap.size + 1 + 1) _ rfl rfl _ 25 Hr4.out 32 size_digest HzA.out HD.out.size (ints_one _ _) ?_; intro w5 hbut5 hk5)
  exact bodyPost_ret (v := .agg ((fZ key m).map (Value.int .u8)).toArray) (results_blk Tryz.results99 _ (w.heap.size + 1 + 1) rfl _ 25 hk5 _ Tryz.underlying25 rfl 32 size_digest HD.out.size) rfl ⟨rfl, hbut5.below Hb4.out Hb4.out.size (by omega)⟩
set_option maxHeartbeats 2000000 in
theorem H_any (key a b : List Int) (w : World) (hkey : Dg key) (ha : Dg a) (hb : Dg b) (tab : ShaTab w) :
    Calls Tryz.prog 103 #[.agg (key.map (Value.int .u8)).toArray, .agg (a.map (Value.int .u8)).toArray, .agg (b.map (Value.int .u8)).toArray] w fun e w' => e = .returned (.agg ((hZ key a b).map (Value.int .u8)).toArray) ∧ Below w.heap.size w w' := by
  have HM : Hid (hZ key a b = sumZ (be 32 1 ++ (key ++ (a ++ b)))) := hid (by unfold hZ; rfl)
  have HD := hid (Dg.h key a b)
  have b1 := (Below.refl w.heap.size w).alloc (Nat.le_refl _) (.cells (key.map (Value.int .u8)).toArray 25 (0, 0))
  have b2 := b1.alloc b1.size (.cells (a.map (Value.int .u8)).toArray 25 (0, 0))
  have b3 := b2.alloc b2.size (.cells (b.map (Value.int .u8)).toArray 25 (0, 0))
  have bz := b3.alloc b3.size (.cells (byteCells 32 []) 25 (0, 0))
  have K0 := hid ((((Blk.new (w := w) (n := w.heap.size) rfl (key.map (Value.int .u8)).toArray 25).old (.cells (a.map (Value.int .u8)).toArray 25 (0, 0))).old (.cells (b.map (Value.int .u8)).toArray 25 (0, 0))).old (.cells (byteCells 32 []) 25 (0, 0)))
  have K1 := hid (((Blk.new (w := (w.alloc (.cells (key.map (Value.int .u8)).toArray 25 (0, 0)))) (n := w.heap.size + 1) (by simp only [World.size_alloc]) (a.map (Value.int .u8)).toArray 25).old (.cells (b.map (Value.int .u8)).toArray 25 (0, 0))).old (.cells (byteCells 32 []) 25 (0, 0)))
  have K2 := hid ((Blk.new (w := ((w.alloc (.cells (key.map (Value.int .u8)).toArray 25 (0, 0))).alloc (.cells (a.map (Value.int .u8)).toArray 25 (0, 0)))) (n := w.heap.size + 1 + 1) (by simp only [World.size_alloc]) (b.map (Value.int .u8)).toArray 25).old (.cells (byteCells 32 []) 25 (0, 0)))
  have Kr := hid (Blk.new (w := (((w.alloc (.cells (key.map (Value.int .u8)).toArray 25 (0, 0))).alloc (.cells (a.map (Value.int .u8)).toArray 25 (0, 0))).alloc (.cells (b.map (Value.int .u8)).toArray 25 (0, 0)))) (n := w.heap.size + 1 + 1 + 1) (by simp only [World.size_alloc]) (byteCells 32 []) 25)
  have Hb := hid bz
  have Htab := hid (tab.below bz)
  have HzA := hid zsize
  have hbz := bz.size
  clear tab bz
  clear b3
  clear b2
  clear b1
  go_enter Tryz.func103, Tryz.ntmps103
  go_wp2_with fail
  refine wp_region_flow 6 [1, 2, 3] [] [(.c 0, [], [4]), (.b 4, [5], [])] (by kernel_rfl) (by kernel_rfl) ?_
  apply Exists.intro
  refine ⟨fun w0 hb0 hF0 => ?_, ?_⟩
  · simp only [pick, List.getElem?_toArray, List.getElem?_cons_succ, List.getElem?_cons_zero, Option.toList_some, List.cons_append, List.nil_append]
    repeat (go_big_quiet_step (fail))
    exact wpQuiet_nil rfl
  refine AlChk.nil ?_
  refine Walk.call rfl 35 #[.int .u64 1] (WideAt 1) (fun v w' w'' h k => h.below k) rfl (fun w1 hb1 hF1 => ⟨by go_simp, ?_⟩) ?_
  · refine (wide_any 1 w1 (by omega) (by omega)).mono ?_
    rintro e w2 ⟨g, hg, rfl, b2, k2⟩
    exact ⟨_, rfl, b2, g, rfl, k2⟩
  rintro v w1 hb1 hF1 ⟨gw, rfl, _⟩
  apply Exists.intro
  refine ⟨fun w2 hb2 hF2 => wpQuiet_nil rfl, ?_⟩
  refine AlChk.one rfl (fun b => .slice (some ⟨b, 0, none⟩) 4 4) (.cells #[.slice (some ⟨gw, 0, none⟩) 32 32, .slice (some ⟨w.heap.size, 0, none⟩) 32 32, .slice (some ⟨w.heap.size + 1, 0, none⟩) 32 32, .slice (some ⟨w.heap.size + 1 + 1, 0, none⟩) 32 32] 44 (0, 0)) rfl (fun w2 hb2 hF2 => by go_simp) ?_
  refine AlChk.nil ?_
  refine Walk.blk rfl (fun b => .slice (some ⟨b, 0, none⟩) 4 4) (.cells #[.slice (some ⟨gw, 0, none⟩) 32 32, .slice (some ⟨w.heap.size, 0, none⟩) 32 32, .slice (some ⟨w.heap.size + 1, 0, none⟩) 32 32, .slice (some ⟨w.heap.size + 1 + 1, 0, none⟩) 32 32] 44 (0, 0)) (by simp) ?_
  intro b9 w2 hb2 hF2 hge9 _
  apply Exists.intro
  refine ⟨fun w3 hb3 hF3 => ?_, ?_⟩
  · have k9 : Blk w3 b9 #[.slice (some ⟨gw, 0, none⟩) 32 32, .slice (some ⟨w.heap.size, 0, none⟩) 32 32, .slice (some ⟨w.heap.size + 1, 0, none⟩) 32 32, .slice (some ⟨w.heap.size + 1 + 1, 0, none⟩) 32 32] 44 := hF3.2
    have hW := hF3.1.2
    have hs := fun e : Ext w3 => sum_any (some ⟨b9, 0, none⟩) 4 4 [be 32 1, key, a, b] e.at_ (TextsAt.of_blk (k9.below e.same) rfl (Nat.le_refl _) (by omega) fun j hj => by
      match j, hj with
      | 0, _ => exact ⟨_, _, _, rfl, (hW.below e.same).text⟩
      | 1, _ => exact ⟨_, _, _, rfl, hkey.text ((K0.out.below hb3).below e.same)⟩
      | 2, _ => exact ⟨_, _, _, rfl, ha.text ((K1.out.below hb3).below e.same)⟩
      | 3, _ => exact ⟨_, _, _, rfl, hb.text ((K2.out.below hb3).below e.same)⟩) (by simp only [sumLen, List.map_cons, List.map_nil, List.sum_cons, List.sum_nil, be_length, hkey.len, ha.len, hb.len]; omega) ((Htab.out.below hb3).below e.same)
    rw [show ([be 32 1, key, a, b] : List (List Int)).flatten = be 32 1 ++ (key ++ (a ++ b)) by simp, ← HM.out] at hs
    simp only [pick, List.getElem?_toArray, List.getElem?_cons_succ, List.getElem?_cons_zero, Option.toList_some, List.cons_append, List.nil_append, Act.put, List.setIfInBounds_toArray, List.set_cons_zero, List.set_cons_succ]
    repeat (go_big_quiet_step (first | (go_at_call 34; exact Calls.ext (hs _))))
    exact wpQuiet_nil rfl
  refine AlChk.nil ?_
  refine Walk.fin fun w4 h4 _ _ => ?_
  simp only [List.drop_succ_cons, List.drop_zero]
  have Hr4 := hid (Kr.out.below h4)
  have Hb4 := hid (Below.on Hb.out h4)
  clear h4
  go_wp2_with (refine wpList_store_blk rfl 25 _ _ rfl (w.heap.size + 1 + 1 + 1) _ rfl rfl _ 25 Hr4.out 32 size_digest HzA.out HD.out.size (ints_one _ _) ?_; intro w5 hbut5 hk5)
  exact bodyPost_ret (v := .agg ((hZ key a b).map (Value.int .u8)).toArray) (results_blk Tryz.results103 _ (w.heap.size + 1 + 1 + 1) rfl _ 25 hk5 _ Tryz.underlying25 rfl 32 size_digest HD.out.size) rfl ⟨rfl, hbut5.below Hb4.out Hb4.out.size (by omega)⟩
set_option maxHeartbeats 2000000 in
theorem Prf_any (key m : List Int) (ta : Option Addr) (tn tc : Nat) (w : World) (hkey : Dg key) (hT : TextAt w ta tn tc m) (hn : tn < 1000000000000000000) (tab : ShaTab w) :
    Calls Tryz.prog 18 #[.agg (key.map (Value.int .u8)).toArray, .slice ta tn tc] w fun e w' => e = .returned (.agg ((prfZ key m).map (Value.int .u8)).toArray) ∧ Below w.heap.size w w' := by
  have HM : Hid (prfZ key m = sumZ (be 32 3 ++ (key ++ m))) := hid (by unfold prfZ; rfl)
  have HD := hid (Dg.prf key m)
  have b1 := (Below.refl w.heap.size w).alloc (Nat.le_refl _) (.cells (key.map (Value.int .u8)).toArray 25 (0, 0))
  have bz := b1.alloc b1.size (.cells (byteCells 32 []) 25 (0, 0))
  have K0 := hid ((Blk.new (w := w) (n := w.heap.size) rfl (key.map (Value.int .u8)).toArray 25).old (.cells (byteCells 32 []) 25 (0, 0)))
  have Kr := hid (Blk.new (w := (w.alloc (.cells (key.map (Value.int .u8)).toArray 25 (0, 0)))) (n := w.heap.size + 1) (by simp only [World.size_alloc]) (byteCells 32 []) 25)
  have Hb := hid bz
  have Htab := hid (tab.below bz)
  have HzA := hid zsize
  have hle := hT.le
  have hmx := hT.max
  have HTx := hid (hT.below bz)
  have Hml := hid hT.length
  have hbz := bz.size
  clear tab bz hT
  clear b1
  go_enter Tryz.func18, Tryz.ntmps18
  go_wp2_with fail
  refine wp_region_flow 5 [1, 2] [] [(.c 0, [], [3]), (.b 3, [4], [])] (by kernel_rfl) (by kernel_rfl) ?_
  apply Exists.intro
  refine ⟨fun w0 hb0 hF0 => ?_, ?_⟩
  · simp only [pick, List.getElem?_toArray, List.getElem?_cons_succ, List.getElem?_cons_zero, Option.toList_some, List.cons_append, List.nil_append]
    repeat (go_big_quiet_step (fail))
    exact wpQuiet_nil rfl
  refine AlChk.nil ?_
  refine Walk.call rfl 35 #[.int .u64 3] (WideAt 3) (fun v w' w'' h k => h.below k) rfl (fun w1 hb1 hF1 => ⟨by go_simp, ?_⟩) ?_
  · refine (wide_any 3 w1 (by omega) (by omega)).mono ?_
    rintro e w2 ⟨g, hg, rfl, b2, k2⟩
    exact ⟨_, rfl, b2, g, rfl, k2⟩
  rintro v w1 hb1 hF1 ⟨gw, rfl, _⟩
  apply Exists.intro
  refine ⟨fun w2 hb2 hF2 => wpQuiet_nil rfl, ?_⟩
  refine AlChk.one rfl (fun b => .slice (some ⟨b, 0, none⟩) 3 3) (.cells #[.slice (some ⟨gw, 0, none⟩) 32 32, .slice (some ⟨w.heap.size, 0, none⟩) 32 32, .slice ta tn tc] 44 (0, 0)) rfl (fun w2 hb2 hF2 => by go_simp) ?_
  refine AlChk.nil ?_
  refine Walk.blk rfl (fun b => .slice (some ⟨b, 0, none⟩) 3 3) (.cells #[.slice (some ⟨gw, 0, none⟩) 32 32, .slice (some ⟨w.heap.size, 0, none⟩) 32 32, .slice ta tn tc] 44 (0, 0)) (by simp) ?_
  intro b9 w2 hb2 hF2 hge9 _
  apply Exists.intro
  refine ⟨fun w3 hb3 hF3 => ?_, ?_⟩
  · have k9 : Blk w3 b9 #[.slice (some ⟨gw, 0, none⟩) 32 32, .slice (some ⟨w.heap.size, 0, none⟩) 32 32, .slice ta tn tc] 44 := hF3.2
    have hW := hF3.1.2
    have hs := fun e : Ext w3 => sum_any (some ⟨b9, 0, none⟩) 3 3 [be 32 3, key, m] e.at_ (TextsAt.of_blk (k9.below e.same) rfl (Nat.le_refl _) (by omega) fun j hj => by
      match j, hj with
      | 0, _ => exact ⟨_, _, _, rfl, (hW.below e.same).text⟩
      | 1, _ => exact ⟨_, _, _, rfl, hkey.text ((K0.out.below hb3).below e.same)⟩
      | 2, _ => exact ⟨_, _, _, rfl, (HTx.out.below hb3).below e.same⟩) (by simp only [sumLen, List.map_cons, List.map_nil, List.sum_cons, List.sum_nil, be_length, hkey.len, Hml.out]; omega) ((Htab.out.below hb3).below e.same)
    rw [show ([be 32 3, key, m] : List (List Int)).flatten = be 32 3 ++ (key ++ m) by simp, ← HM.out] at hs
    simp only [pick, List.getElem?_toArray, List.getElem?_cons_succ, List.getElem?_cons_zero, Option.toList_some, List.cons_append, List.nil_append, Act.put, List.setIfInBounds_toArray, List.set_cons_zero, List.set_cons_succ]
    repeat (go_big_quiet_step (first | (go_at_call 34; exact Calls.ext (hs _))))
    exact wpQuiet_nil rfl
  refine AlChk.nil ?_
  refine Walk.fin fun w4 h4 _ _ => ?_
  simp only [List.drop_succ_cons, List.drop_zero]
  have Hr4 := hid (Kr.out.below h4)
  have Hb4 := hid (Below.on Hb.out h4)
  clear h4
  go_wp2_with (refine wpList_store_blk rfl 25 _ _ rfl (w.heap.size + 1) _ rfl rfl _ 25 Hr4.out 32 size_digest HzA.out HD.out.size (ints_one _ _) ?_; intro w5 hbut5 hk5)
  exact bodyPost_ret (v := .agg ((prfZ key m).map (Value.int .u8)).toArray) (results_blk Tryz.results18 _ (w.heap.size + 1) rfl _ 25 hk5 _ Tryz.underlying25 rfl 32 size_digest HD.out.size) rfl ⟨rfl, hbut5.below Hb4.out Hb4.out.size (by omega)⟩
end Go.Proofs.YtjkfbeillmeomaaGreatDoor
namespace Go.Proofs.YtjkfbeillmeomaaGreatDoor
set_option maxRecDepth 100000
open Go.ChangeShapes Go.WideShapes Go.ChangeAt Go.RowKit
/-- an address's words -/
structure Aw (xs : List Int) : Prop where
  len : xs.length = 8
  small : ∀ x ∈ xs, 0 ≤ x ∧ x < 4294967296
theorem Aw.size {xs : List Int} (h : Aw xs) : ((xs.map (Value.int .u32)).toArray).size = 8 := by simp [h.len]
@[irreducible] def atZ (key ad : List Int) : List Int := prfZ key (wordBytes ad)
theorem Dg.at_ (a b : List Int) : Dg (atZ a b) := by unfold atZ; exact Dg.prf _ _
/-- what 'adrs.Bytes' hands back -/
def BytesAt (ad : List Int) (v : Value) (w : World) : Prop := ∃ g cap, v = .slice (some ⟨g, 0, none⟩) 32 cap ∧ 32 ≤ cap ∧ cap ≤ 9223372036854775807 ∧ Row8 w g (wordBytes ad)
theorem BytesAt.below {ad : List Int} {v : Value} {w w' : World} (h : BytesAt ad v w) (hb : Below w.heap.size w w') : BytesAt ad v w' := by
  obtain ⟨g, c, h1, h2, h3, h4⟩ := h
  exact ⟨g, c, h1, h2, h3, h4.below hb⟩
theorem BytesAt.text {ad : List Int} (hl : ad.length = 8) {a : Option Addr} {n c : Nat} {w : World} (h : BytesAt ad (.slice a n c) w) : TextAt w a n c (wordBytes ad) := by
  obtain ⟨g', c', h1, h2, h3, h4⟩ := h
  injection h1 with e1 e2 e3
  subst e1 e2 e3
  exact TextAt.of_row h4 (by rw [wordBytes_length, hl]) h2 h3 (wordBytes_small _)
set_option maxHeartbeats 2000000 in
theorem At_any (key ad : List Int) (w : World) (hkey : Dg key) (ha : Aw ad) (tab : ShaTab w) :
    Calls Tryz.prog 63 #[.agg (key.map (Value.int .u8)).toArray, .agg (ad.map (Value.int .u32)).toArray] w fun e w' => e = .returned (.agg ((atZ key ad).map (Value.int .u8)).toArray) ∧ Below w.heap.size w w' := by
  have HM : Hid (atZ key ad = prfZ key (wordBytes ad)) := hid (by unfold atZ; rfl)
  have HD := hid (Dg.at_ key ad)
  have b1 := (Below.refl w.heap.size w).alloc (Nat.le_refl _) (.cells (key.map (Value.int .u8)).toArray 25 (0, 0))
  have b2 := b1.alloc b1.size (.cells (ad.map (Value.int .u32)).toArray 73 (0, 0))
  have bz := b2.alloc b2.size (.cells (byteCells 32 []) 25 (0, 0))
  have K0 := hid (((Blk.new (w := w) (n := w.heap.size) rfl (key.map (Value.int .u8)).toArray 25).old (.cells (ad.map (Value.int .u32)).toArray 73 (0, 0))).old (.cells (byteCells 32 []) 25 (0, 0)))
  have K1 := hid ((Blk.new (w := (w.alloc (.cells (key.map (Value.int .u8)).toArray 25 (0, 0)))) (n := w.heap.size + 1) (by simp only [World.size_alloc]) (ad.map (Value.int .u32)).toArray 73).old (.cells (byteCells 32 []) 25 (0, 0)))
  have Kr := hid (Blk.new (w := ((w.alloc (.cells (key.map (Value.int .u8)).toArray 25 (0, 0))).alloc (.cells (ad.map (Value.int .u32)).toArray 73 (0, 0)))) (n := w.heap.size + 1 + 1) (by simp only [World.size_alloc]) (byteCells 32 []) 25)
  have Hb := hid bz
  have Htab := hid (tab.below bz)
  have HzA := hid zsize
  have hbz := bz.size
  clear tab bz b2 b1
  go_enter Tryz.func63, Tryz.ntmps63
  go_wp2_with fail
  refine wp_region_flow 4 [0, 1] [] [(.c 2, [3], [])] (by kernel_rfl) (by kernel_rfl) ?_
  apply Exists.intro
  refine ⟨fun w0 hb0 hF0 => ?_, ?_⟩
  · have x0 : ∀ w', (∃ x : Ext w0, w' = x.at_) → ∃ T, Blk w' w.heap.size (key.map (Value.int .u8)).toArray T := fun w' ⟨x, hx⟩ => ⟨_, hx ▸ (K0.out.below hb0).below x.same⟩
    have x1 : ∀ w', (∃ x : Ext w0, w' = x.at_) → ∃ T, Blk w' (w.heap.size + 1) (ad.map (Value.int .u32)).toArray T := fun w' ⟨x, hx⟩ => ⟨_, hx ▸ (K1.out.below hb0).below x.same⟩
    simp only [pick, List.getElem?_toArray, List.getElem?_cons_succ, List.getElem?_cons_zero, Option.toList_some, List.cons_append, List.nil_append]
    repeat (first | (go_big_quiet_want; refine quiet_load_blk 25 _ rfl w.heap.size rfl _ x0 _ Tryz.underlying25 rfl 32 size_digest hkey.size ?_; go_big_quiet_on; simp only [Act.put, List.setIfInBounds_toArray, List.set_cons_zero, List.set_cons_succ]) | (go_big_quiet_want; refine quiet_load_blk 73 _ rfl (w.heap.size + 1) rfl _ x1 _ Tryz.underlying73 rfl 8 sizeAdrs ha.size ?_; go_big_quiet_on; simp only [Act.put, List.setIfInBounds_toArray, List.set_cons_zero, List.set_cons_succ]) | go_big_quiet_step (fail))
    exact wpQuiet_nil rfl
  refine AlChk.nil ?_
  refine Walk.call rfl 83 #[.agg (ad.map (Value.int .u32)).toArray] (BytesAt ad) (fun v w' w'' h k => h.below k) rfl (fun w1 hb1 hF1 => ⟨by go_simp, ?_⟩) ?_
  · refine (adrs_bytes ad ha.len ha.small w1).mono ?_
    rintro e w2 ⟨g, cap, h1, h2, hg, rfl, b2, k2⟩
    exact ⟨_, rfl, b2, g, cap, rfl, h1, h2, k2⟩
  rintro v w1 hb1 hF1 ⟨g, cap, rfl, _, _, _⟩
  apply Exists.intro
  refine ⟨fun w3 hb3 hF3 => ?_, ?_⟩
  · have hs := fun e : Ext w3 => Prf_any key (wordBytes ad) _ 32 cap e.at_ hkey ((hF3.2.below e.same).text ha.len) (by omega) ((Htab.out.below hb3).below e.same)
    rw [← HM.out] at hs
    simp only [pick, List.getElem?_toArray, List.getElem?_cons_succ, List.getElem?_cons_zero, Option.toList_some, List.cons_append, List.nil_append, Act.put, List.setIfInBounds_toArray, List.set_cons_zero, List.set_cons_succ]
    repeat (go_big_quiet_step (first | (go_at_call 18; exact Calls.ext (hs _))))
    exact wpQuiet_nil rfl
  refine AlChk.nil ?_
  refine Walk.fin fun w4 h4 _ _ => ?_
  simp only [List.drop_succ_cons, List.drop_zero]
  have Hr4 := hid (Kr.out.below h4)
  have Hb4 := hid (Below.on Hb.out h4)
  clear h4
  go_wp2_with (refine wpList_store_blk rfl 25 _ _ rfl (w.heap.size + 1 + 1) _ rfl rfl _ 25 Hr4.out 32 size_digest HzA.out HD.out.size (ints_one _ _) ?_; intro w5 hbut5 hk5)
  exact bodyPost_ret (v := .agg ((atZ key ad).map (Value.int .u8)).toArray) (results_blk Tryz.results63 _ (w.heap.size + 1 + 1) rfl _ 25 hk5 _ Tryz.underlying25 rfl 32 size_digest HD.out.size) rfl ⟨rfl, hbut5.below Hb4.out Hb4.out.size (by omega)⟩
/-- byte by byte exclusive-ored -/
def xorD (a b : List Int) : List Int := a.zipWith xorZ b
theorem Dg.xor {a b : List Int} (ha : Dg a) (hb : Dg b) : Dg (xorD a b) := ⟨by simp [xorD, ha.len, hb.len], fun x hx => by
  unfold xorD at hx
  rw [List.zipWith_eq_zipWith_take_min] at hx
  obtain ⟨i, hi, rfl⟩ := List.getElem_of_mem hx
  simp only [List.getElem_zipWith]
  exact xorZ_small (ha.small _ (List.mem_of_mem_take (List.getElem_mem _))) (hb.small _ (List.mem_of_mem_take (List.getElem_mem _)))⟩
theorem xorD_step {a b : List Int} (ha : a.length = 32) (hb : b.length = 32) (k : Nat) (hk : k < 32) : ((xorD a b).take k ++ a.drop k).set k (xorZ (a.getD k 0) (b.getD k 0)) = (xorD a b).take (k + 1) ++ a.drop (k + 1) := by
  have hl : k < (xorD a b).length := by simp [xorD, ha, hb, hk]
  rw [List.set_append_right _ _ (by simp; omega), List.take_succ_eq_append_getElem hl, List.append_assoc]
  congr 1
  rw [show k - ((xorD a b).take k).length = 0 by simp; omega, List.drop_eq_getElem_cons (by omega), List.set_cons_zero]
  simp [xorD, List.getD_eq_getElem?_getD, show k < a.length by omega, show k < b.length by omega]
set_option maxHeartbeats 2000000 in
theorem Mask_any (a b : List Int) (w : World) (ha : Dg a) (hb : Dg b) :
    Calls Tryz.prog 100 #[.agg (a.map (Value.int .u8)).toArray, .agg (b.map (Value.int .u8)).toArray] w fun e w' => e = .returned (.agg ((xorD a b).map (Value.int .u8)).toArray) ∧ Below w.heap.size w w' := by
  have HD := hid (ha.xor hb)
  have b1 := (Below.refl w.heap.size w).alloc (Nat.le_refl _) (.cells (a.map (Value.int .u8)).toArray 25 (0, 0))
  have b2 := b1.alloc b1.size (.cells (b.map (Value.int .u8)).toArray 25 (0, 0))
  have bz := b2.alloc b2.size (.cells (byteCells 32 []) 25 (0, 0))
  have K0 := hid (((Blk.new (w := w) (n := w.heap.size) rfl (a.map (Value.int .u8)).toArray 25).old (.cells (b.map (Value.int .u8)).toArray 25 (0, 0))).old (.cells (byteCells 32 []) 25 (0, 0)))
  have K1 := hid ((Blk.new (w := (w.alloc (.cells (a.map (Value.int .u8)).toArray 25 (0, 0)))) (n := w.heap.size + 1) (by simp only [World.size_alloc]) (b.map (Value.int .u8)).toArray 25).old (.cells (byteCells 32 []) 25 (0, 0)))
  have Kr := hid (Blk.new (w := ((w.alloc (.cells (a.map (Value.int .u8)).toArray 25 (0, 0))).alloc (.cells (b.map (Value.int .u8)).toArray 25 (0, 0)))) (n := w.heap.size + 1 + 1) (by simp only [World.size_alloc]) (byteCells 32 []) 25)
  have Hb := hid bz
  have HzA := hid zsize
  have hbz := bz.size
  have hix := fun (k : Nat) (hk : k < 32) (W : World) => run_index_ints (P := Tryz.prog) (t := 25) (e := 5) (n := 32) (k' := .i64) Tryz.underlying25 Tryz.underlying5 rfl rfl b hb.len k hk W
  have Hix := hid hix
  clear bz b2 b1 hix
  go_enter Tryz.func100, Tryz.ntmps100
  go_wp2_with (refine wpList_load_blk rfl 25 _ rfl (w.heap.size + 1) rfl _ 25 K1.out _ Tryz.underlying25 rfl 32 size_digest hb.size ?_)
  go_loopw [8] (fun v wr => ∃ k : Nat, k ≤ 32 ∧ v = .int .i64 k ∧ Blk wr w.heap.size (((xorD a b).take k ++ a.drop k).map (Value.int .u8)).toArray 25 ∧ Blk wr (w.heap.size + 1 + 1) (byteCells 32 []) 25 ∧ Below w.heap.size w wr) (fun v _ => 32 - (intOf v).toNat)
  case atStart => exact ⟨0, Nat.zero_le _, rfl, (by rw [List.take_zero, List.nil_append, List.drop_zero]; exact K0.out), Kr.out, Hb.out⟩
  case round =>
    clear K0 K1 Kr Hb
    obtain ⟨k, hk, rfl, kA, kR, bel⟩ := hrel
    by_cases hlt : k < 32
    · have hi := fun W => Hix.out k hlt W
      have hxa : 0 ≤ a.getD k 0 ∧ a.getD k 0 < 256 := ha.small _ (by rw [List.getD_eq_getElem?_getD, List.getElem?_eq_getElem (by rw [ha.len]; omega)]; exact List.getElem_mem _)
      have hxb : 0 ≤ b.getD k 0 ∧ b.getD k 0 < 256 := hb.small _ (by rw [List.getD_eq_getElem?_getD, List.getElem?_eq_getElem (by rw [hb.len]; omega)]; exact List.getElem_mem _)
      have hxor := bits_xorZ hxa hxb
      have Hst := hid (xorD_step ha.len hb.len k hlt)
      have hc : wr.cell? ⟨w.heap.size, k, none⟩ = some (.int .u8 (a.getD k 0)) := by
        rw [kA.cell]
        have h1 : ((xorD a b).take k).length = k := by simp [xorD, ha.len, hb.len]; omega
        have h2 : k < a.length := by rw [ha.len]; omega
        rw [List.getElem?_toArray, List.getElem?_map, List.getElem?_append_right (by omega), h1, Nat.sub_self, List.getElem?_drop, Nat.add_zero, List.getD_eq_getElem?_getD, List.getElem?_eq_getElem h2]
        rfl
      have fr := kA.free
      have hlt2 := kA.lt
      have HkA := hid kA
      have HkR := hid kR
      have Hbel := hid bel
      obtain ⟨hxa0, hxa1⟩ := hxa
      obtain ⟨hxb0, hxb1⟩ := hxb
      generalize a.getD k 0 = x at *
      generalize b.getD k 0 = y at *
      clear kA kR bel
      go_wp2_with fail
      refine ⟨⟨k + 1, by omega, by go_num, ?_, HkR.out.other ⟨w.heap.size, k, none⟩ (show w.heap.size ≠ w.heap.size + 1 + 1 by omega) _, Hbel.out.setCell (p := ⟨w.heap.size, k, none⟩) (Nat.le_refl _) _⟩, by simp [intOf]; omega⟩
      have h1 := HkA.out.set k (.int .u8 (xorZ x y))
      rw [List.setIfInBounds_toArray, ← List.map_set, Hst.out] at h1
      exact h1
    · have h32 : k = 32 := by omega
      have kF : Blk wr w.heap.size ((xorD a b).map (Value.int .u8)).toArray 25 := by
        rw [h32, List.take_of_length_le (by simp [xorD, ha.len, hb.len]), List.drop_eq_nil_of_le (by rw [ha.len]; omega), List.append_nil] at kA
        exact kA
      have HkF := hid kF
      have HkR := hid kR
      have Hbel := hid bel
      have H32 := hid h32
      clear kA kR bel kF h32
      go_wp2_with (first | (refine wpList_load_blk rfl 25 _ rfl w.heap.size rfl _ 25 HkF.out _ Tryz.underlying25 rfl 32 size_digest HD.out.size ?_) | (refine wpList_store_blk rfl 25 _ _ rfl (w.heap.size + 1 + 1) _ rfl rfl _ 25 HkR.out 32 size_digest HzA.out HD.out.size (ints_one _ _) ?_; intro w5 hbut5 hk5))
      exact bodyPost_ret (v := .agg ((xorD a b).map (Value.int .u8)).toArray) (results_blk Tryz.results100 _ (w.heap.size + 1 + 1) rfl _ 25 hk5 _ Tryz.underlying25 rfl 32 size_digest HD.out.size) rfl ⟨rfl, hbut5.below Hbel.out Hbel.out.size (by omega)⟩
end Go.Proofs.YtjkfbeillmeomaaGreatDoor
namespace Go.Proofs.YtjkfbeillmeomaaGreatDoor
set_option maxRecDepth 100000
open Go.ChangeShapes Go.WideShapes Go.ChangeAt Go.RowKit
set_option maxHeartbeats 4000000 in
theorem Message_any (r root : List Int) (index : Int) (a : Option Addr) (len cap : Nat) (ts : List (List Int)) (w : World) (hr : Dg r) (hroot : Dg root) (hi0 : 0 ≤ index) (hi1 : index < 18446744073709551616) (hT : TextsAt w a len cap ts) (hln : len ≤ 4000000000000) (hsl : sumLen ts < 1000000000000000000) (tab : ShaTab w) :
    Calls Tryz.prog 20 #[.agg (r.map (Value.int .u8)).toArray, .agg (root.map (Value.int .u8)).toArray, .int .u64 index, .slice a len cap] w fun e w' => e = .returned (.agg ((msgZ r root index ts.flatten).map (Value.int .u8)).toArray) ∧ Below w.heap.size w w' := by
  have HM : Hid (msgZ r root index ts.flatten = sumZ (be 32 2 ++ (r ++ (root ++ (be 32 index ++ ts.flatten))))) := hid (by unfold msgZ; rfl)
  have HD := hid (Dg.msg r root index ts.flatten)
  obtain ⟨i1, hi, hz1, hs1, hy1⟩ := info_parts info_text
  have b1 := (Below.refl w.heap.size w).alloc (Nat.le_refl _) (.cells (r.map (Value.int .u8)).toArray 25 (0, 0))
  have b2 := b1.alloc b1.size (.cells (root.map (Value.int .u8)).toArray 25 (0, 0))
  have bz := b2.alloc b2.size (.cells (byteCells 32 []) 25 (0, 0))
  have K0 := hid (((Blk.new (w := w) (n := w.heap.size) rfl (r.map (Value.int .u8)).toArray 25).old (.cells (root.map (Value.int .u8)).toArray 25 (0, 0))).old (.cells (byteCells 32 []) 25 (0, 0)))
  have K1 := hid ((Blk.new (w := (w.alloc (.cells (r.map (Value.int .u8)).toArray 25 (0, 0)))) (n := w.heap.size + 1) (by simp only [World.size_alloc]) (root.map (Value.int .u8)).toArray 25).old (.cells (byteCells 32 []) 25 (0, 0)))
  have Kr := hid (Blk.new (w := ((w.alloc (.cells (r.map (Value.int .u8)).toArray 25 (0, 0))).alloc (.cells (root.map (Value.int .u8)).toArray 25 (0, 0)))) (n := w.heap.size + 1 + 1) (by simp only [World.size_alloc]) (byteCells 32 []) 25)
  have Hb := hid bz
  have Htab := hid tab
  have hbs : w.heap.size + 1 + 1 + 1 = ((((w.alloc (.cells (r.map (Value.int .u8)).toArray 25 (0, 0))).alloc (.cells (root.map (Value.int .u8)).toArray 25 (0, 0)))).alloc (.cells (byteCells 32 []) 25 (0, 0))).heap.size := by simp only [World.size_alloc]
  have Hbs := hid hbs
  have HzA := hid zsize
  have HT := hid hT
  have hle := hT.le
  have hmx := hT.max
  have Hl1 := hid hT.length
  have hbz := bz.size
  clear tab bz b2 b1 hT hbs
  go_enter Tryz.func20, Tryz.ntmps20
  go_wp2_with fail
  refine wp_region_flow 6 [1, 2, 3] [] [(.c 0, [], []), (.c 4, [], [5]), (.b 5, [], [])] (by kernel_rfl) (by kernel_rfl) ?_
  apply Exists.intro
  refine ⟨fun w0 hb0 hF0 => ?_, ?_⟩
  · simp only [pick, List.getElem?_toArray, List.getElem?_cons_succ, List.getElem?_cons_zero, Option.toList_some, List.cons_append, List.nil_append]
    repeat (go_big_quiet_step (fail))
    exact wpQuiet_nil rfl
  refine AlChk.nil ?_
  refine Walk.call rfl 35 #[.int .u64 2] (WideAt 2) (fun v w' w'' h k => h.below k) rfl (fun w1 hb1 hF1 => ⟨by go_simp, ?_⟩) ?_
  · refine (wide_any 2 w1 (by omega) (by omega)).mono ?_
    rintro e w2 ⟨g, hg, rfl, b2, k2⟩
    exact ⟨_, rfl, b2, g, rfl, k2⟩
  rintro v w1 hb1 hF1 ⟨gw, rfl, _⟩
  apply Exists.intro
  refine ⟨fun w2 hb2 hF2 => wpQuiet_nil rfl, ?_⟩
  refine AlChk.nil ?_
  refine Walk.call rfl 35 #[.int .u64 index] (WideAt index) (fun v w' w'' h k => h.below k) rfl (fun w1 hb1 hF1 => ⟨by go_simp, ?_⟩) ?_
  · refine (wide_any index w1 hi0 hi1).mono ?_
    rintro e w2 ⟨g, hg, rfl, b2, k2⟩
    exact ⟨_, rfl, b2, g, rfl, k2⟩
  rintro v w2 hb2 hF2 ⟨gi, rfl, _⟩
  apply Exists.intro
  refine ⟨fun w3 hb3 hF3 => wpQuiet_nil rfl, ?_⟩
  refine AlChk.one rfl (fun b => .slice (some ⟨b, 0, none⟩) 4 4) (.cells #[.slice (some ⟨gw, 0, none⟩) 32 32, .slice (some ⟨w.heap.size, 0, none⟩) 32 32, .slice (some ⟨w.heap.size + 1, 0, none⟩) 32 32, .slice (some ⟨gi, 0, none⟩) 32 32] 44 (0, 0)) rfl (fun w3 hb3 hF3 => by go_simp) ?_
  refine AlChk.nil ?_
  refine Walk.blk rfl (fun b => .slice (some ⟨b, 0, none⟩) 4 4) (.cells #[.slice (some ⟨gw, 0, none⟩) 32 32, .slice (some ⟨w.heap.size, 0, none⟩) 32 32, .slice (some ⟨w.heap.size + 1, 0, none⟩) 32 32, .slice (some ⟨gi, 0, none⟩) 32 32] 44 (0, 0)) (by simp) ?_
  intro b9 w3 hb3 hF3 hge9 _
  apply Exists.intro
  refine ⟨fun w4 hb4 hF4 => wpQuiet_nil rfl, ?_⟩
  refine AlChk.nil ?_
  refine Walk.fin fun w4 h4 hF4 _ => ?_
  simp only [List.drop_succ_cons, List.drop_zero]
  have hW2 := hF4.1.1.2
  have hWi := hF4.1.2
  have k9 : Blk w4 b9 #[.slice (some ⟨gw, 0, none⟩) 32 32, .slice (some ⟨w.heap.size, 0, none⟩) 32 32, .slice (some ⟨w.heap.size + 1, 0, none⟩) 32 32, .slice (some ⟨gi, 0, none⟩) 32 32] 44 := hF4.2
  have kw : Blk w4 gw ((be 32 2).map (Value.int .u8)).toArray 5 := by
    obtain ⟨g', e1, e2⟩ := hW2
    cases e1
    exact e2
  have ki : Blk w4 gi ((be 32 index).map (Value.int .u8)).toArray 5 := by
    obtain ⟨g', e1, e2⟩ := hWi
    cases e1
    exact e2
  have k0 := K0.out.below h4
  have k1 := K1.out.below h4
  have own : OwnM w4 (w.heap.size + 1 + 1 + 1) 44 (.slice (some ⟨b9, 0, none⟩) 4 4) [be 32 2, r, root, be 32 index] :=
    OwnM.of_blk (vs := [_, _, _, _]) k9 (by rw [Hbs.out]; exact hge9) rfl rfl (by omega) fun j hj => by
      match j, hj with
      | 0, _ => exact ⟨_, _, _, rfl, hW2.text, fun _ p hp => by cases hp; exact kw.apart k9 (by decide)⟩
      | 1, _ => exact ⟨_, _, _, rfl, hr.text k0, fun _ p hp => by cases hp; exact k0.apart k9 (by decide)⟩
      | 2, _ => exact ⟨_, _, _, rfl, hroot.text k1, fun _ p hp => by cases hp; exact k1.apart k9 (by decide)⟩
      | 3, _ => exact ⟨_, _, _, rfl, hWi.text, fun _ p hp => by cases hp; exact ki.apart k9 (by decide)⟩
  have Hown := hid own
  have Hr4 := hid (Kr.out.below h4)
  have Hb4 := hid (Below.on Hb.out h4)
  have hsz4 : w.heap.size + 1 + 1 + 1 ≤ w4.heap.size := by rw [Hbs.out]; exact h4.size
  clear h4 hF4 hW2 hWi k9 kw ki k0 k1 own Kr K0 K1
  go_wp2_with (at_builtin; refine wpList_append_texts_m rfl _ _ rfl Tryz.underlying30 hi hz1 hs1 hy1 rfl Hown.out rfl HT.out Hb4.out (by omega) (by simp only [List.length_cons, List.length_nil]; omega) hsz4 ?_)
  intro v5 w5 own5 b5
  obtain ⟨a5, c5, rfl, hT5⟩ := own5.texts
  rw [show (be 32 2 :: r :: root :: be 32 index :: ts).length = len + 4 by simp [Hl1.out]] at hT5 ⊢
  have HT5 := hid hT5
  have Hb5 := hid (Hb4.out.trans (b5.mono (by omega)))
  have Hr5 := hid (Hr4.out.belowB (by omega) b5)
  clear own5 hT5 Hown b5
  go_wp2_with fail
  refine (sum_any a5 (len + 4) c5 _ w5 HT5.out (by simp only [sumLen, List.map_cons, List.sum_cons, be_length, hr.len, hroot.len]; unfold sumLen at hsl; omega) (Htab.out.below Hb5.out)).mono ?_
  rintro e w6 ⟨rfl, b6⟩
  rw [show (be 32 2 :: r :: root :: be 32 index :: ts).flatten = be 32 2 ++ (r ++ (root ++ (be 32 index ++ ts.flatten))) by simp, ← HM.out]
  have Hb6 := hid (Below.on Hb5.out b6)
  have Hr6 := hid (Hr5.out.below b6)
  clear b6 HT5
  go_wp2_with (refine wpList_store_blk rfl 25 _ _ rfl (w.heap.size + 1 + 1) _ rfl rfl _ 25 Hr6.out 32 size_digest HzA.out HD.out.size (ints_one _ _) ?_; intro w7 hbut7 hk7)
  exact bodyPost_ret (v := .agg ((msgZ r root index ts.flatten).map (Value.int .u8)).toArray) (results_blk Tryz.results20 _ (w.heap.size + 1 + 1) rfl _ 25 hk7 _ Tryz.underlying25 rfl 32 size_digest HD.out.size) rfl ⟨rfl, hbut7.below Hb6.out Hb6.out.size (by omega)⟩
end Go.Proofs.YtjkfbeillmeomaaGreatDoor
