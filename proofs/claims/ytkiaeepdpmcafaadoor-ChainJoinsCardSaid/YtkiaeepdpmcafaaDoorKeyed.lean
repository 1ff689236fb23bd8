/-
  Contracts of keyed: wide, F, H, Prf, Message.
-/
import Derived.Test.YtkiaeepdpmcafaaDoorDig
import Derived.Test.YtkiaeepdpmcafaaDoorMacFacts
import Derived.Test.YtkiaeepdpmcafaaDoorNumber
import Derived.Test.YtkiaeepdpmcafaaDoorFlow
namespace Go.Proofs.YtkiaeepdpmcafaaDoor
open Go.ChangeShapes Go.WideShapes Go.ChangeAt Go.RowKit

/-- a digest's bytes -/
structure Dg (xs : List Int) : Prop where
  len : xs.length = 32
  small : ∀ x ∈ xs, 0 ≤ x ∧ x < 256
@[irreducible] def fZ (key m : List Int) : List Int := sumZ (be 32 0 ++ (key ++ m))
@[irreducible] def hZ (key a b : List Int) : List Int := sumZ (be 32 1 ++ (key ++ (a ++ b)))
@[irreducible] def prfZ (key m : List Int) : List Int := sumZ (be 32 3 ++ (key ++ m))
@[irreducible] def msgZ (r root : List Int) (index : Int) (m : List Int) : List Int := sumZ (be 32 2 ++ (r ++ (root ++ (be 32 index ++ m))))
theorem Dg.sum (bs : List Int) : Dg (sumZ bs) := ⟨sumZ_length _, sumZ_small _⟩
theorem Dg.f (a b : List Int) : Dg (fZ a b) := by unfold fZ; exact Dg.sum _
theorem Dg.h (a b c : List Int) : Dg (hZ a b c) := by unfold hZ; exact Dg.sum _
theorem Dg.prf (a b : List Int) : Dg (prfZ a b) := by unfold prfZ; exact Dg.sum _
theorem Dg.msg (a b : List Int) (i : Int) (c : List Int) : Dg (msgZ a b i c) := by unfold msgZ; exact Dg.sum _

theorem wide_any (n : Int) (w : World) (h0 : 0 ≤ n) (h1 : n < 18446744073709551616) :
    Calls Tryd.prog 48 #[.int .u64 n] w fun e w' => ∃ g, w.heap.size ≤ g ∧ e = .returned (.slice (some ⟨g, 0, none⟩) 32 32) ∧ Below w.heap.size w w' ∧ Blk w' g ((be 32 n).map (Value.int .u8)).toArray 5 := by
  go_enter Tryd.func48, Tryd.ntmps48
  go_wp2_with fail
  refine (number_any n 32 32 _ h0 h1 (by decide)).mono ?_
  rintro e w1 ⟨g, hg, rfl, b1, k1⟩
  have H := hid (And.intro b1 k1)
  clear b1 k1
  go_wp2_with fail
  go_ret
  exact ⟨g, hg, rfl, H.out⟩

/-- what 'wide' hands back -/
def WideAt (n : Int) (v : Value) (w : World) : Prop := ∃ g, v = .slice (some ⟨g, 0, none⟩) 32 32 ∧ Blk w g ((be 32 n).map (Value.int .u8)).toArray 5
theorem WideAt.below {n : Int} {v : Value} {w w' : World} (h : WideAt n v w) (hb : Below w.heap.size w w') : WideAt n v w' := by
  obtain ⟨g, h1, h2⟩ := h
  exact ⟨g, h1, h2.below hb⟩
theorem WideAt.text {n : Int} {g : Nat} {w : World} (h : WideAt n (.slice (some ⟨g, 0, none⟩) 32 32) w) : TextAt w (some ⟨g, 0, none⟩) 32 32 (be 32 n) := by
  obtain ⟨g', h1, h2⟩ := h
  injection h1 with h1
  injection h1 with h1
  injection h1 with h1
  subst h1
  exact TextAt.of_ints h2 (be_length 32 n) (by omega) (be_small 32 n)
theorem Dg.text {xs : List Int} (h : Dg xs) {w : World} {g : Nat} {T : TypeId} (k : Blk w g (xs.map (Value.int .u8)).toArray T) : TextAt w (some ⟨g, 0, none⟩) 32 32 xs := TextAt.of_ints k h.len (by omega) h.small
theorem Dg.size {xs : List Int} (h : Dg xs) : ((xs.map (Value.int .u8)).toArray).size = 32 := dsize h.len

set_option maxHeartbeats 2000000 in
set_option maxRecDepth 100000 in
theorem F_any (key m : List Int) (w : World) (hkey : Dg key) (hm : Dg m) (tab : ShaTab w) :
    Calls Tryd.prog 25 #[.agg (key.map (Value.int .u8)).toArray, .agg (m.map (Value.int .u8)).toArray] w fun e w' => e = .returned (.agg ((fZ key m).map (Value.int .u8)).toArray) ∧ Below w.heap.size w w' := by
  have HM : Hid (fZ key m = sumZ (be 32 0 ++ (key ++ m))) := hid (by unfold fZ; rfl)
  have HD := hid (Dg.f key m)
  have b1 := (Below.refl w.heap.size w).alloc (Nat.le_refl _) (.cells (key.map (Value.int .u8)).toArray 26 (0, 0))
  have b2 := b1.alloc b1.size (.cells (m.map (Value.int .u8)).toArray 26 (0, 0))
  have bz := b2.alloc b2.size (.cells (byteCells 32 []) 26 (0, 0))
  have K0 := hid (((Blk.new (w := w) (n := w.heap.size) rfl (key.map (Value.int .u8)).toArray 26).old (.cells (m.map (Value.int .u8)).toArray 26 (0, 0))).old (.cells (byteCells 32 []) 26 (0, 0)))
  have K1 := hid ((Blk.new (w := (w.alloc (.cells (key.map (Value.int .u8)).toArray 26 (0, 0)))) (n := w.heap.size + 1) (by simp only [World.size_alloc]) (m.map (Value.int .u8)).toArray 26).old (.cells (byteCells 32 []) 26 (0, 0)))
  have Kr := hid (Blk.new (w := ((w.alloc (.cells (key.map (Value.int .u8)).toArray 26 (0, 0))).alloc (.cells (m.map (Value.int .u8)).toArray 26 (0, 0)))) (n := w.heap.size + 1 + 1) (by simp only [World.size_alloc]) (byteCells 32 []) 26)
  have Hb := hid bz
  have Htab := hid (tab.below bz)
  have HzA := hid zsize
  have hbz := bz.size
  clear tab bz
  clear b2
  clear b1
  go_enter Tryd.func25, Tryd.ntmps25
  go_wp2_with fail
  refine wp_region_flow 5 [1, 2] [] [(.c 0, [], [3]), (.b 3, [4], [])] (by kernel_rfl) (by kernel_rfl) ?_
  apply Exists.intro
  refine ⟨fun w0 hb0 hF0 => ?_, ?_⟩
  · simp only [pick, List.getElem?_toArray, List.getElem?_cons_succ, List.getElem?_cons_zero, Option.toList_some, List.cons_append, List.nil_append]
    repeat (go_big_quiet_step (fail))
    exact wpQuiet_nil rfl
  refine AlChk.nil ?_
  refine Walk.call rfl 48 #[.int .u64 0] (WideAt 0) (fun v w' w'' h k => h.below k) rfl (fun w1 hb1 hF1 => ⟨by go_simp, ?_⟩) ?_
  · refine (wide_any 0 w1 (by omega) (by omega)).mono ?_
    rintro e w2 ⟨g, hg, rfl, b2, k2⟩
    exact ⟨_, rfl, b2, g, rfl, k2⟩
  rintro v w1 hb1 hF1 ⟨gw, rfl, _⟩
  apply Exists.intro
  refine ⟨fun w2 hb2 hF2 => wpQuiet_nil rfl, ?_⟩
  refine AlChk.one rfl (fun b => .slice (some ⟨b, 0, none⟩) 3 3) (.cells #[.slice (some ⟨gw, 0, none⟩) 32 32, .slice (some ⟨w.heap.size, 0, none⟩) 32 32, .slice (some ⟨w.heap.size + 1, 0, none⟩) 32 32] 29 (0, 0)) rfl (fun w2 hb2 hF2 => by go_simp) ?_
  refine AlChk.nil ?_
  refine Walk.blk rfl (fun b => .slice (some ⟨b, 0, none⟩) 3 3) (.cells #[.slice (some ⟨gw, 0, none⟩) 32 32, .slice (some ⟨w.heap.size, 0, none⟩) 32 32, .slice (some ⟨w.heap.size + 1, 0, none⟩) 32 32] 29 (0, 0)) (by simp) ?_
  intro b9 w2 hb2 hF2 hge9 _
  apply Exists.intro
  refine ⟨fun w3 hb3 hF3 => ?_, ?_⟩
  · have k9 : Blk w3 b9 #[.slice (some ⟨gw, 0, none⟩) 32 32, .slice (some ⟨w.heap.size, 0, none⟩) 32 32, .slice (some ⟨w.heap.size + 1, 0, none⟩) 32 32] 29 := hF3.2
    have hW := hF3.1.2
    have hs := fun e : Ext w3 => sum_any (some ⟨b9, 0, none⟩) 3 3 [be 32 0, key, m] e.at_ (TextsAt.of_blk (k9.below e.same) rfl (Nat.le_refl _) (by omega) fun j hj => by
      match j, hj with
      | 0, _ => exact ⟨_, _, _, rfl, (hW.below e.same).text⟩
      | 1, _ => exact ⟨_, _, _, rfl, hkey.text ((K0.out.below hb3).below e.same)⟩
      | 2, _ => exact ⟨_, _, _, rfl, hm.text ((K1.out.below hb3).below e.same)⟩) (by simp only [sumLen, List.map_cons, List.map_nil, List.sum_cons, List.sum_nil, be_length, hkey.len, hm.len]; omega) ((Htab.out.below hb3).below e.same)
    rw [show ([be 32 0, key, m] : List (List Int)).flatten = be 32 0 ++ (key ++ m) by simp, ← HM.out] at hs
    simp only [pick, List.getElem?_toArray, List.getElem?_cons_succ, List.getElem?_cons_zero, Option.toList_some, List.cons_append, List.nil_append, Act.put, List.setIfInBounds_toArray, List.set_cons_zero, List.set_cons_succ]
    repeat (go_big_quiet_step (first | (go_at_call 14; exact Calls.ext (hs _))))
    exact wpQuiet_nil rfl
  refine AlChk.nil ?_
  refine Walk.fin fun w4 h4 _ _ => ?_
  simp only [List.drop_succ_cons, List.drop_zero]
  have Hr4 := hid (Kr.out.below h4)
  have Hb4 := hid (Below.on Hb.out h4)
  clear h4
  go_wp2_with (refine wpList_store_blk rfl 26 _ _ rfl (w.heap.size + 1 + 1) _ rfl rfl _ 26 Hr4.out 32 size_digest HzA.out HD.out.size (ints_one _ _) ?_; intro w5 hbut5 hk5)
  exact bodyPost_ret (v := .agg ((fZ key m).map (Value.int .u8)).toArray) (results_blk Tryd.results25 _ (w.heap.size + 1 + 1) rfl _ 26 hk5 _ Tryd.underlying26 rfl 32 size_digest HD.out.size) rfl ⟨rfl, hbut5.below Hb4.out Hb4.out.size (by omega)⟩

set_option maxHeartbeats 2000000 in
set_option maxRecDepth 100000 in
theorem H_any (key a b : List Int) (w : World) (hkey : Dg key) (ha : Dg a) (hb : Dg b) (tab : ShaTab w) :
    Calls Tryd.prog 27 #[.agg (key.map (Value.int .u8)).toArray, .agg (a.map (Value.int .u8)).toArray, .agg (b.map (Value.int .u8)).toArray] w fun e w' => e = .returned (.agg ((hZ key a b).map (Value.int .u8)).toArray) ∧ Below w.heap.size w w' := by
  have HM : Hid (hZ key a b = sumZ (be 32 1 ++ (key ++ (a ++ b)))) := hid (by unfold hZ; rfl)
  have HD := hid (Dg.h key a b)
  have b1 := (Below.refl w.heap.size w).alloc (Nat.le_refl _) (.cells (key.map (Value.int .u8)).toArray 26 (0, 0))
  have b2 := b1.alloc b1.size (.cells (a.map (Value.int .u8)).toArray 26 (0, 0))
  have b3 := b2.alloc b2.size (.cells (b.map (Value.int .u8)).toArray 26 (0, 0))
  have bz := b3.alloc b3.size (.cells (byteCells 32 []) 26 (0, 0))
  have K0 := hid ((((Blk.new (w := w) (n := w.heap.size) rfl (key.map (Value.int .u8)).toArray 26).old (.cells (a.map (Value.int .u8)).toArray 26 (0, 0))).old (.cells (b.map (Value.int .u8)).toArray 26 (0, 0))).old (.cells (byteCells 32 []) 26 (0, 0)))
  have K1 := hid (((Blk.new (w := (w.alloc (.cells (key.map (Value.int .u8)).toArray 26 (0, 0)))) (n := w.heap.size + 1) (by simp only [World.size_alloc]) (a.map (Value.int .u8)).toArray 26).old (.cells (b.map (Value.int .u8)).toArray 26 (0, 0))).old (.cells (byteCells 32 []) 26 (0, 0)))
  have K2 := hid ((Blk.new (w := ((w.alloc (.cells (key.map (Value.int .u8)).toArray 26 (0, 0))).alloc (.cells (a.map (Value.int .u8)).toArray 26 (0, 0)))) (n := w.heap.size + 1 + 1) (by simp only [World.size_alloc]) (b.map (Value.int .u8)).toArray 26).old (.cells (byteCells 32 []) 26 (0, 0)))
  have Kr := hid (Blk.new (w := (((w.alloc (.cells (key.map (Value.int .u8)).toArray 26 (0, 0))).alloc (.cells (a.map (Value.int .u8)).toArray 26 (0, 0))).alloc (.cells (b.map (Value.int .u8)).toArray 26 (0, 0)))) (n := w.heap.size + 1 + 1 + 1) (by simp only [World.size_alloc]) (byteCells 32 []) 26)
  have Hb := hid bz
  have Htab := hid (tab.below bz)
  have HzA := hid zsize
  have hbz := bz.size
  clear tab bz
  clear b3
  clear b2
  clear b1
  go_enter Tryd.func27, Tryd.ntmps27
  go_wp2_with fail
  refine wp_region_flow 6 [1, 2, 3] [] [(.c 0, [], [4]), (.b 4, [5], [])] (by kernel_rfl) (by kernel_rfl) ?_
  apply Exists.intro
  refine ⟨fun w0 hb0 hF0 => ?_, ?_⟩
  · simp only [pick, List.getElem?_toArray, List.getElem?_cons_succ, List.getElem?_cons_zero, Option.toList_some, List.cons_append, List.nil_append]
    repeat (go_big_quiet_step (fail))
    exact wpQuiet_nil rfl
  refine AlChk.nil ?_
  refine Walk.call rfl 48 #[.int .u64 1] (WideAt 1) (fun v w' w'' h k => h.below k) rfl (fun w1 hb1 hF1 => ⟨by go_simp, ?_⟩) ?_
  · refine (wide_any 1 w1 (by omega) (by omega)).mono ?_
    rintro e w2 ⟨g, hg, rfl, b2, k2⟩
    exact ⟨_, rfl, b2, g, rfl, k2⟩
  rintro v w1 hb1 hF1 ⟨gw, rfl, _⟩
  apply Exists.intro
  refine ⟨fun w2 hb2 hF2 => wpQuiet_nil rfl, ?_⟩
  refine AlChk.one rfl (fun b => .slice (some ⟨b, 0, none⟩) 4 4) (.cells #[.slice (some ⟨gw, 0, none⟩) 32 32, .slice (some ⟨w.heap.size, 0, none⟩) 32 32, .slice (some ⟨w.heap.size + 1, 0, none⟩) 32 32, .slice (some ⟨w.heap.size + 1 + 1, 0, none⟩) 32 32] 29 (0, 0)) rfl (fun w2 hb2 hF2 => by go_simp) ?_
  refine AlChk.nil ?_
  refine Walk.blk rfl (fun b => .slice (some ⟨b, 0, none⟩) 4 4) (.cells #[.slice (some ⟨gw, 0, none⟩) 32 32, .slice (some ⟨w.heap.size, 0, none⟩) 32 32, .slice (some ⟨w.heap.size + 1, 0, none⟩) 32 32, .slice (some ⟨w.heap.size + 1 + 1, 0, none⟩) 32 32] 29 (0, 0)) (by simp) ?_
  intro b9 w2 hb2 hF2 hge9 _
  apply Exists.intro
  refine ⟨fun w3 hb3 hF3 => ?_, ?_⟩
  · have k9 : Blk w3 b9 #[.slice (some ⟨gw, 0, none⟩) 32 32, .slice (some ⟨w.heap.size, 0, none⟩) 32 32, .slice (some ⟨w.heap.size + 1, 0, none⟩) 32 32, .slice (some ⟨w.heap.size + 1 + 1, 0, none⟩) 32 32] 29 := hF3.2
    have hW := hF3.1.2
    have hs := fun e : Ext w3 => sum_any (some ⟨b9, 0, none⟩) 4 4 [be 32 1, key, a, b] e.at_ (TextsAt.of_blk (k9.below e.same) rfl (Nat.le_refl _) (by omega) fun j hj => by
      match j, hj with
      | 0, _ => exact ⟨_, _, _, rfl, (hW.below e.same).text⟩
      | 1, _ => exact ⟨_, _, _, rfl, hkey.text ((K0.out.below hb3).below e.same)⟩
      | 2, _ => exact ⟨_, _, _, rfl, ha.text ((K1.out.below hb3).below e.same)⟩
      | 3, _ => exact ⟨_, _, _, rfl, hb.text ((K2.out.below hb3).below e.same)⟩) (by simp only [sumLen, List.map_cons, List.map_nil, List.sum_cons, List.sum_nil, be_length, hkey.len, ha.len, hb.len]; omega) ((Htab.out.below hb3).below e.same)
    rw [show ([be 32 1, key, a, b] : List (List Int)).flatten = be 32 1 ++ (key ++ (a ++ b)) by simp, ← HM.out] at hs
    simp only [pick, List.getElem?_toArray, List.getElem?_cons_succ, List.getElem?_cons_zero, Option.toList_some, List.cons_append, List.nil_append, Act.put, List.setIfInBounds_toArray, List.set_cons_zero, List.set_cons_succ]
    repeat (go_big_quiet_step (first | (go_at_call 14; exact Calls.ext (hs _))))
    exact wpQuiet_nil rfl
  refine AlChk.nil ?_
  refine Walk.fin fun w4 h4 _ _ => ?_
  simp only [List.drop_succ_cons, List.drop_zero]
  have Hr4 := hid (Kr.out.below h4)
  have Hb4 := hid (Below.on Hb.out h4)
  clear h4
  go_wp2_with (refine wpList_store_blk rfl 26 _ _ rfl (w.heap.size + 1 + 1 + 1) _ rfl rfl _ 26 Hr4.out 32 size_digest HzA.out HD.out.size (ints_one _ _) ?_; intro w5 hbut5 hk5)
  exact bodyPost_ret (v := .agg ((hZ key a b).map (Value.int .u8)).toArray) (results_blk Tryd.results27 _ (w.heap.size + 1 + 1 + 1) rfl _ 26 hk5 _ Tryd.underlying26 rfl 32 size_digest HD.out.size) rfl ⟨rfl, hbut5.below Hb4.out Hb4.out.size (by omega)⟩

set_option maxHeartbeats 2000000 in
set_option maxRecDepth 100000 in
theorem Prf_any (key m : List Int) (ta : Option Addr) (tn tc : Nat) (w : World) (hkey : Dg key) (hT : TextAt w ta tn tc m) (hn : tn < 1000000000000000000) (tab : ShaTab w) :
    Calls Tryd.prog 29 #[.agg (key.map (Value.int .u8)).toArray, .slice ta tn tc] w fun e w' => e = .returned (.agg ((prfZ key m).map (Value.int .u8)).toArray) ∧ Below w.heap.size w w' := by
  have HM : Hid (prfZ key m = sumZ (be 32 3 ++ (key ++ m))) := hid (by unfold prfZ; rfl)
  have HD := hid (Dg.prf key m)
  have b1 := (Below.refl w.heap.size w).alloc (Nat.le_refl _) (.cells (key.map (Value.int .u8)).toArray 26 (0, 0))
  have bz := b1.alloc b1.size (.cells (byteCells 32 []) 26 (0, 0))
  have K0 := hid ((Blk.new (w := w) (n := w.heap.size) rfl (key.map (Value.int .u8)).toArray 26).old (.cells (byteCells 32 []) 26 (0, 0)))
  have Kr := hid (Blk.new (w := (w.alloc (.cells (key.map (Value.int .u8)).toArray 26 (0, 0)))) (n := w.heap.size + 1) (by simp only [World.size_alloc]) (byteCells 32 []) 26)
  have Hb := hid bz
  have Htab := hid (tab.below bz)
  have HzA := hid zsize
  have hle := hT.le
  have hmx := hT.max
  have HTx := hid (hT.below bz)
  have Hml := hid hT.length
  have hbz := bz.size
  clear tab bz hT
  clear b1
  go_enter Tryd.func29, Tryd.ntmps29
  go_wp2_with fail
  refine wp_region_flow 5 [1, 2] [] [(.c 0, [], [3]), (.b 3, [4], [])] (by kernel_rfl) (by kernel_rfl) ?_
  apply Exists.intro
  refine ⟨fun w0 hb0 hF0 => ?_, ?_⟩
  · simp only [pick, List.getElem?_toArray, List.getElem?_cons_succ, List.getElem?_cons_zero, Option.toList_some, List.cons_append, List.nil_append]
    repeat (go_big_quiet_step (fail))
    exact wpQuiet_nil rfl
  refine AlChk.nil ?_
  refine Walk.call rfl 48 #[.int .u64 3] (WideAt 3) (fun v w' w'' h k => h.below k) rfl (fun w1 hb1 hF1 => ⟨by go_simp, ?_⟩) ?_
  · refine (wide_any 3 w1 (by omega) (by omega)).mono ?_
    rintro e w2 ⟨g, hg, rfl, b2, k2⟩
    exact ⟨_, rfl, b2, g, rfl, k2⟩
  rintro v w1 hb1 hF1 ⟨gw, rfl, _⟩
  apply Exists.intro
  refine ⟨fun w2 hb2 hF2 => wpQuiet_nil rfl, ?_⟩
  refine AlChk.one rfl (fun b => .slice (some ⟨b, 0, none⟩) 3 3) (.cells #[.slice (some ⟨gw, 0, none⟩) 32 32, .slice (some ⟨w.heap.size, 0, none⟩) 32 32, .slice ta tn tc] 29 (0, 0)) rfl (fun w2 hb2 hF2 => by go_simp) ?_
  refine AlChk.nil ?_
  refine Walk.blk rfl (fun b => .slice (some ⟨b, 0, none⟩) 3 3) (.cells #[.slice (some ⟨gw, 0, none⟩) 32 32, .slice (some ⟨w.heap.size, 0, none⟩) 32 32, .slice ta tn tc] 29 (0, 0)) (by simp) ?_
  intro b9 w2 hb2 hF2 hge9 _
  apply Exists.intro
  refine ⟨fun w3 hb3 hF3 => ?_, ?_⟩
  · have k9 : Blk w3 b9 #[.slice (some ⟨gw, 0, none⟩) 32 32, .slice (some ⟨w.heap.size, 0, none⟩) 32 32, .slice ta tn tc] 29 := hF3.2
    have hW := hF3.1.2
    have hs := fun e : Ext w3 => sum_any (some ⟨b9, 0, none⟩) 3 3 [be 32 3, key, m] e.at_ (TextsAt.of_blk (k9.below e.same) rfl (Nat.le_refl _) (by omega) fun j hj => by
      match j, hj with
      | 0, _ => exact ⟨_, _, _, rfl, (hW.below e.same).text⟩
      | 1, _ => exact ⟨_, _, _, rfl, hkey.text ((K0.out.below hb3).below e.same)⟩
      | 2, _ => exact ⟨_, _, _, rfl, (HTx.out.below hb3).below e.same⟩) (by simp only [sumLen, List.map_cons, List.map_nil, List.sum_cons, List.sum_nil, be_length, hkey.len, Hml.out]; omega) ((Htab.out.below hb3).below e.same)
    rw [show ([be 32 3, key, m] : List (List Int)).flatten = be 32 3 ++ (key ++ m) by simp, ← HM.out] at hs
    simp only [pick, List.getElem?_toArray, List.getElem?_cons_succ, List.getElem?_cons_zero, Option.toList_some, List.cons_append, List.nil_append, Act.put, List.setIfInBounds_toArray, List.set_cons_zero, List.set_cons_succ]
    repeat (go_big_quiet_step (first | (go_at_call 14; exact Calls.ext (hs _))))
    exact wpQuiet_nil rfl
  refine AlChk.nil ?_
  refine Walk.fin fun w4 h4 _ _ => ?_
  simp only [List.drop_succ_cons, List.drop_zero]
  have Hr4 := hid (Kr.out.below h4)
  have Hb4 := hid (Below.on Hb.out h4)
  clear h4
  go_wp2_with (refine wpList_store_blk rfl 26 _ _ rfl (w.heap.size + 1) _ rfl rfl _ 26 Hr4.out 32 size_digest HzA.out HD.out.size (ints_one _ _) ?_; intro w5 hbut5 hk5)
  exact bodyPost_ret (v := .agg ((prfZ key m).map (Value.int .u8)).toArray) (results_blk Tryd.results29 _ (w.heap.size + 1) rfl _ 26 hk5 _ Tryd.underlying26 rfl 32 size_digest HD.out.size) rfl ⟨rfl, hbut5.below Hb4.out Hb4.out.size (by omega)⟩
end Go.Proofs.YtkiaeepdpmcafaaDoor
