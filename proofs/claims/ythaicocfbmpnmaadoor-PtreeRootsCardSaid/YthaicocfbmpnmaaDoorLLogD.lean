/-
  Layer 19: ways from a beginning of a log, by the program and by the reference.
-/
import Derived.Test.YthaicocfbmpnmaaDoorLLogC
namespace Go.Proofs.YthaicocfbmpnmaaDoor
open Go.ChangeShapes Go.WideShapes Go.ChangeAt Go.RowKit

theorem dcs_one1 (x : List Int) : dcs [x] = (x.map (Value.int .u8)).toArray := by simp [dcs]

set_option maxHeartbeats 4000000 in
set_option maxRecDepth 100000 in
theorem logrown_nil (a : Option Addr) (len cap : Nat) (w : World) :
    Calls Tryd.prog 64 #[.slice a len cap, .int .i64 len, .bool false] w fun e w' => ∃ v, e = .returned v ∧ Below w.heap.size w w' ∧ OwnD w' w.heap.size 23 v [] := by
  go_enter Tryd.func64, Tryd.ntmps64
  go_wp2_with fail
  go_ret
  exact ⟨_, rfl, Below.refl _ _, OwnD.nil _ _ _⟩
set_option maxHeartbeats 4000000 in
set_option maxRecDepth 100000 in
theorem logrown_end (a : Option Addr) (len cap : Nat) (X : List Int) (w : World) (hX : Dg X) (hr : Calls Tryd.prog 62 #[.slice a len cap] w fun e w' => e = .returned (.agg (X.map (Value.int .u8)).toArray) ∧ Below w.heap.size w w') :
    Calls Tryd.prog 64 #[.slice a len cap, .int .i64 len, .bool true] w fun e w' => ∃ v, e = .returned v ∧ Below w.heap.size w w' ∧ OwnD w' w.heap.size 23 v [X] := by
  have HX := hid hX
  have CR := hid hr
  obtain ⟨i0, hi, hz0, hz1, hz2⟩ := info_parts info_dig
  clear hr hX
  go_enter Tryd.func64, Tryd.ntmps64
  go_wp2_with fail
  refine CR.out.mono ?_
  rintro e w1 ⟨rfl, b1⟩
  have HB1 := hid b1
  go_wp2_with (refine wpList_build_one rfl _ rfl rfl HX.out ?_)
  go_ret
  exact ⟨_, rfl, HB1.out.alloc HB1.out.size _, OwnD.of_blk (by rw [dcs_one1]; exact Blk.new rfl _ _) HB1.out.size rfl (by omega) (by simpa using HX.out)⟩
set_option maxHeartbeats 4000000 in
set_option maxRecDepth 100000 in
theorem logrown_any (f : Nat) : ∀ (a : Option Addr) (len cap : Nat) (ts : List (List Int)) (i : Nat) (cut : Bool) (w : World), TextsAt w a len cap ts → 1 ≤ i → i ≤ len → len ≤ f → f ≤ 300 → len ≤ 256 → sumLen ts ≤ 1000000 → ShaTab w →
    Calls Tryd.prog 64 #[.slice a len cap, .int .i64 i, .bool cut] w fun e w' => ∃ v, e = .returned v ∧ Below w.heap.size w w' ∧ OwnD w' w.heap.size 23 v (growL f ts i cut) := by
  induction f with
  | zero =>
    intro a len cap ts i cut w hT hi1 hi hl _ _ _ _
    omega
  | succ f ih =>
    intro a len cap ts i cut w hT hi1 hil hl hf3 h256 hsum tab
    have hlen := hT.length
    rcases Nat.eq_or_lt_of_le hil with rfl | hlt
    · have hun : growL (f + 1) ts i cut = if cut then [rootL (f + 1) ts] else [] := by rw [growL, if_pos hlen.symm]
      rw [hun]
      cases cut with
      | false => exact logrown_nil a i cap w
      | true => exact logrown_end a i cap _ w (Dg.rootL _ _) (loroot_any (f + 1) a i cap ts w hT hl h256 hsum tab)
    · have h2 : 2 ≤ len := by omega
      have hle := hT.le
      have hmx := hT.max
      obtain ⟨hk1, hk2⟩ := halfN_lt h2
      have CH := hid (fun W : World => lohalf_any len W h2 h256)
      have hun : growL (f + 1) ts i cut = if i ≤ halfN len then growL f (ts.take (halfN len)) i cut ++ [rootL f (ts.drop (halfN len))] else growL f (ts.drop (halfN len)) (i - halfN len) true ++ [rootL f (ts.take (halfN len))] := by rw [growL, if_neg (by omega), hlen]
      rw [hun]
      clear hun
      generalize hkk : halfN len = k at *
      obtain ⟨i0, hi, hz0, hz1, hz2⟩ := info_parts info_dig
      have hlk : ¬ ((i : Int) = (len : Int)) := by omega
      have hc1 : ∀ W : World, (Instr.slice 58 (.slice a len cap) none (some (.int .i64 (k : Int))) none).run Tryd.prog W = .ok (.slice a k cap) W := fun W => run_cuts_h a len cap k W (by omega)
      have hc2 : ∀ W : World, (Instr.slice 58 (.slice a len cap) (some (.int .i64 (k : Int))) none none).run Tryd.prog W = .ok (.slice (cutS a k cap) (len - k) (cap - k)) W := fun W => run_cuts_l a len cap k W (by omega)
      by_cases hik : i ≤ k
      · have hikI : (i : Int) ≤ k := by omega
        rw [if_pos hik]
        have CP := hid (fun (W : World) (h : TextsAt W a k cap (ts.take k)) (t : ShaTab W) => ih a k cap (ts.take k) i cut W h hi1 hik (by omega) (by omega) (by omega) (Nat.le_trans (sumLen_takes _ _) hsum) t)
        have CR := hid (fun (W : World) (h : TextsAt W (cutS a k cap) (len - k) (cap - k) (ts.drop k)) (t : ShaTab W) => loroot_any f (cutS a k cap) (len - k) (cap - k) (ts.drop k) W h (by omega) (by omega) (Nat.le_trans (sumLen_drop _ _) hsum) t)
        have HTp := hid (hT.take k (by omega))
        have HTr := hid (hT.drop k (by omega))
        have hPl := growL_length f (ts.take k) i cut
        have HX := hid (Dg.rootL f (ts.drop k))
        generalize growL f (ts.take k) i cut = PP at *
        generalize rootL f (ts.drop k) = X at *
        generalize cutS a k cap = a2 at *
        clear hT hkk ih hsum
        have Hb := hid (Below.refl w.heap.size w)
        have Htab := hid tab
        clear  tab 
        go_enter Tryd.func64, Tryd.ntmps64
        go_wp2_with (go_at_call 69; refine (CH.out _).mono ?_; rintro e wz ⟨rfl, hwz⟩; have hwz := hwz.symm; subst hwz)
        refine wp_region_flow 10 [0, 1, 2, 3, 4, 6, 7, 8] [] [(.c 5, [9], [])] (by kernel_rfl) (by kernel_rfl) ?_
        apply Exists.intro
        refine ⟨fun w0 hb0 hF0 => ?_, ?_⟩
        · skip
          simp only [pick, List.getElem?_toArray, List.getElem?_cons_succ, List.getElem?_cons_zero, Option.toList_some, List.cons_append, List.nil_append]
          repeat (first | go_big_quiet_step (fail))
          exact wpQuiet_nil rfl
        refine AlChk.nil ?_
        refine Walk.call rfl 64 #[.slice a k cap, .int .i64 (i : Int), .bool cut] ((fun v w' => OwnD w' w.heap.size 23 v PP)) (fun v w' w'' h k => OwnD.below h k) rfl (fun w1 hb1 hF1 => ⟨by go_simp, ?_⟩) ?_
        · skip
          refine (CP.out w1 (HTp.out.below hb1) (Htab.out.below hb1)).mono ?_
          rintro e w2 ⟨v, rfl, b2, o2⟩
          exact ⟨v, rfl, b2, o2.re hb1.size⟩
        rintro v0 w1 hb1 hF1 hov
        apply Exists.intro
        refine ⟨fun w0 hb0 hF0 => ?_, ?_⟩
        · skip
          have c0 := fun e : Ext w0 => CR.out e.at_ ((HTr.out.below hb0).below e.same) ((Htab.out.below (Below.on Hb.out hb0)).below e.same)
          simp only [pick, List.getElem?_toArray, List.getElem?_cons_succ, List.getElem?_cons_zero, Option.toList_some, List.cons_append, List.nil_append, Act.put, List.setIfInBounds_toArray, List.set_cons_zero, List.set_cons_succ]
          repeat (first | go_big_quiet_step (first | (go_at_call 62; with_reducible exact Calls.ext (c0 _))))
          exact wpQuiet_nil rfl
        refine AlChk.nil ?_
        refine Walk.fin fun w1 hw1 hFw1 _ => ?_
        simp only [List.drop_succ_cons, List.drop_zero]
        have HFw1 := hid hFw1
        have HBw1 := hid (Below.on Hb.out hw1)
        have hsw1 := HBw1.out.size
        clear hw1 hFw1
        have HOw1 := hid (show OwnD w1 w.heap.size 23 v0 PP from HFw1.out.2)
        clear HFw1
        go_wp2_with (first
           | (refine wpList_build_one rfl _ rfl rfl HX.out ?_)
           | (
              refine wpList_append_dig rfl _ _ rfl Tryd.underlying27 hi hz0 zD_cells32 hz1 hz2 rfl (HOw1.out.below ((Below.refl w1.heap.size w1).alloc (Nat.le_refl _) (.cells (X.map (Value.int .u8)).toArray 23 (0, 0)))) rfl (Blk.new rfl (X.map (Value.int .u8)).toArray 23) HX.out (by omega) (by rw [World.size_alloc]; have := HBw1.out.size; omega) ?_
              intro v8 w8 ho8 hg8 hb8
              have HO8 := hid ho8
              have HB8 := hid (Below.trans (HBw1.out.alloc HBw1.out.size (.cells (X.map (Value.int .u8)).toArray 23 (0, 0))) hb8)
              clear ho8 hg8 hb8))
        go_ret
        exact ⟨_, rfl, HB8.out, HO8.out⟩

      · have hikI : ¬ ((i : Int) ≤ k) := by omega
        rw [if_neg hik]
        obtain ⟨q, hq⟩ : ∃ q, q = i - k := ⟨_, rfl⟩
        rw [← hq]
        have Hsub := hid (show (i : Int) - (k : Int) = (q : Int) by omega)
        have hws : wrap64 ((i : Int) - (k : Int)) = (i : Int) - (k : Int) := by unfold wrap64; omega
        have CP := hid (fun (W : World) (h : TextsAt W (cutS a k cap) (len - k) (cap - k) (ts.drop k)) (t : ShaTab W) => ih (cutS a k cap) (len - k) (cap - k) (ts.drop k) q true W h (by omega) (by omega) (by omega) (by omega) (by omega) (Nat.le_trans (sumLen_drop _ _) hsum) t)
        have CR := hid (fun (W : World) (h : TextsAt W a k cap (ts.take k)) (t : ShaTab W) => loroot_any f a k cap (ts.take k) W h (by omega) (by omega) (Nat.le_trans (sumLen_takes _ _) hsum) t)
        have HTp := hid (hT.drop k (by omega))
        have HTr := hid (hT.take k (by omega))
        have hPl := growL_length f (ts.drop k) q true
        have HX := hid (Dg.rootL f (ts.take k))
        generalize growL f (ts.drop k) q true = PP at *
        generalize rootL f (ts.take k) = X at *
        generalize cutS a k cap = a2 at *
        have hkl : k ≤ f := by omega
        clear hT hkk ih hsum hq
        have Hb := hid (Below.refl w.heap.size w)
        have Htab := hid tab
        clear  tab 
        go_enter Tryd.func64, Tryd.ntmps64
        go_wp2_with (go_at_call 69; refine (CH.out _).mono ?_; rintro e wz ⟨rfl, hwz⟩; have hwz := hwz.symm; subst hwz)
        refine wp_region_flow 11 [0, 1, 2, 3, 4, 5, 7, 8, 9] [] [(.c 6, [10], [])] (by kernel_rfl) (by kernel_rfl) ?_
        apply Exists.intro
        refine ⟨fun w0 hb0 hF0 => ?_, ?_⟩
        · skip
          simp only [pick, List.getElem?_toArray, List.getElem?_cons_succ, List.getElem?_cons_zero, Option.toList_some, List.cons_append, List.nil_append]
          repeat (first | go_big_quiet_step (fail))
          exact wpQuiet_nil rfl
        refine AlChk.nil ?_
        refine Walk.call rfl 64 #[.slice a2 (len - k) (cap - k), .int .i64 ((i : Int) - (k : Int)), .bool true] ((fun v w' => OwnD w' w.heap.size 23 v PP)) (fun v w' w'' h k => OwnD.below h k) rfl (fun w1 hb1 hF1 => ⟨by go_simp, ?_⟩) ?_
        · skip
          rw [Hsub.out]
          refine (CP.out w1 (HTp.out.below hb1) (Htab.out.below hb1)).mono ?_
          rintro e w2 ⟨v, rfl, b2, o2⟩
          exact ⟨v, rfl, b2, o2.re hb1.size⟩
        rintro v0 w1 hb1 hF1 hov
        apply Exists.intro
        refine ⟨fun w0 hb0 hF0 => ?_, ?_⟩
        · skip
          have c0 := fun e : Ext w0 => CR.out e.at_ ((HTr.out.below hb0).below e.same) ((Htab.out.below (Below.on Hb.out hb0)).below e.same)
          simp only [pick, List.getElem?_toArray, List.getElem?_cons_succ, List.getElem?_cons_zero, Option.toList_some, List.cons_append, List.nil_append, Act.put, List.setIfInBounds_toArray, List.set_cons_zero, List.set_cons_succ]
          repeat (first | go_big_quiet_step (first | (go_at_call 62; with_reducible exact Calls.ext (c0 _))))
          exact wpQuiet_nil rfl
        refine AlChk.nil ?_
        refine Walk.fin fun w1 hw1 hFw1 _ => ?_
        simp only [List.drop_succ_cons, List.drop_zero]
        have HFw1 := hid hFw1
        have HBw1 := hid (Below.on Hb.out hw1)
        have hsw1 := HBw1.out.size
        clear hw1 hFw1
        have HOw1 := hid (show OwnD w1 w.heap.size 23 v0 PP from HFw1.out.2)
        clear HFw1
        go_wp2_with (first
           | (refine wpList_build_one rfl _ rfl rfl HX.out ?_)
           | (
              refine wpList_append_dig rfl _ _ rfl Tryd.underlying27 hi hz0 zD_cells32 hz1 hz2 rfl (HOw1.out.below ((Below.refl w1.heap.size w1).alloc (Nat.le_refl _) (.cells (X.map (Value.int .u8)).toArray 23 (0, 0)))) rfl (Blk.new rfl (X.map (Value.int .u8)).toArray 23) HX.out (by omega) (by rw [World.size_alloc]; have := HBw1.out.size; omega) ?_
              intro v8 w8 ho8 hg8 hb8
              have HO8 := hid ho8
              have HB8 := hid (Below.trans (HBw1.out.alloc HBw1.out.size (.cells (X.map (Value.int .u8)).toArray 23 (0, 0))) hb8)
              clear ho8 hg8 hb8))
        go_ret
        exact ⟨_, rfl, HB8.out, HO8.out⟩

set_option maxHeartbeats 4000000 in
set_option maxRecDepth 100000 in
theorem reffrom19_nil (a : Option Addr) (len cap : Nat) (w : World) :
    Calls Tryd.prog 41 #[.slice a len cap, .int .i64 len, .bool false] w fun e w' => ∃ v, e = .returned v ∧ Below w.heap.size w w' ∧ OwnD w' w.heap.size 23 v [] := by
  go_enter Tryd.func41, Tryd.ntmps41
  go_wp2_with fail
  go_ret
  exact ⟨_, rfl, Below.refl _ _, OwnD.nil _ _ _⟩
set_option maxHeartbeats 4000000 in
set_option maxRecDepth 100000 in
theorem reffrom19_end (a : Option Addr) (len cap : Nat) (X : List Int) (w : World) (hX : Dg X) (hr : Calls Tryd.prog 39 #[.slice a len cap] w fun e w' => e = .returned (.agg (X.map (Value.int .u8)).toArray) ∧ Below w.heap.size w w') :
    Calls Tryd.prog 41 #[.slice a len cap, .int .i64 len, .bool true] w fun e w' => ∃ v, e = .returned v ∧ Below w.heap.size w w' ∧ OwnD w' w.heap.size 23 v [X] := by
  have HX := hid hX
  have CR := hid hr
  obtain ⟨i0, hi, hz0, hz1, hz2⟩ := info_parts info_dig
  clear hr hX
  go_enter Tryd.func41, Tryd.ntmps41
  go_wp2_with fail
  refine CR.out.mono ?_
  rintro e w1 ⟨rfl, b1⟩
  have HB1 := hid b1
  go_wp2_with (first
   | (refine wpList_build_one rfl _ rfl rfl HX.out ?_)
   | (
      refine wpList_append_dig rfl _ _ rfl Tryd.underlying27 hi hz0 zD_cells32 hz1 hz2 rfl (OwnD.nil _ w.heap.size 23) rfl (Blk.new rfl (X.map (Value.int .u8)).toArray 23) HX.out (by simp) (by rw [World.size_alloc]; have := b1.size; omega) ?_
      intro v8 w8 ho8 hg8 hb8
      have HO8 := hid ho8
      have HB8 := hid (Below.trans (HB1.out.alloc HB1.out.size (.cells (X.map (Value.int .u8)).toArray 23 (0, 0))) hb8)
      clear ho8 hg8 hb8))
  go_ret
  exact ⟨_, rfl, HB8.out, HO8.out⟩
set_option maxHeartbeats 4000000 in
set_option maxRecDepth 100000 in
theorem reffrom19_any (f : Nat) : ∀ (a : Option Addr) (len cap : Nat) (ts : List (List Int)) (i : Nat) (cut : Bool) (w : World), TextsAt w a len cap ts → 1 ≤ i → i ≤ len → len ≤ f → f ≤ 300 → len ≤ 256 → sumLen ts ≤ 1000000 →
    Calls Tryd.prog 41 #[.slice a len cap, .int .i64 i, .bool cut] w fun e w' => ∃ v, e = .returned v ∧ Below w.heap.size w w' ∧ OwnD w' w.heap.size 23 v (growL f ts i cut) := by
  induction f with
  | zero =>
    intro a len cap ts i cut w hT hi1 hi hl _ _ _
    omega
  | succ f ih =>
    intro a len cap ts i cut w hT hi1 hil hl hf3 h256 hsum
    have hlen := hT.length
    rcases Nat.eq_or_lt_of_le hil with rfl | hlt
    · have hun : growL (f + 1) ts i cut = if cut then [rootL (f + 1) ts] else [] := by rw [growL, if_pos hlen.symm]
      rw [hun]
      cases cut with
      | false => exact reffrom19_nil a i cap w
      | true => exact reffrom19_end a i cap _ w (Dg.rootL _ _) (refroot_any (f + 1) a i cap ts w hT hl h256 hsum)
    · have h2 : 2 ≤ len := by omega
      have hle := hT.le
      have hmx := hT.max
      obtain ⟨hk1, hk2⟩ := halfN_lt h2
      have CH := hid (fun W : World => refhalf_any len len W (Nat.le_refl _) h2 (by omega))
      have hun : growL (f + 1) ts i cut = if i ≤ halfN len then growL f (ts.take (halfN len)) i cut ++ [rootL f (ts.drop (halfN len))] else growL f (ts.drop (halfN len)) (i - halfN len) true ++ [rootL f (ts.take (halfN len))] := by rw [growL, if_neg (by omega), hlen]
      rw [hun]
      clear hun
      generalize hkk : halfN len = k at *
      obtain ⟨i0, hi, hz0, hz1, hz2⟩ := info_parts info_dig
      have hlk : ¬ ((i : Int) = (len : Int)) := by omega
      have hc1 : ∀ W : World, (Instr.slice 58 (.slice a len cap) none (some (.int .i64 (k : Int))) none).run Tryd.prog W = .ok (.slice a k cap) W := fun W => run_cuts_h a len cap k W (by omega)
      have hc2 : ∀ W : World, (Instr.slice 58 (.slice a len cap) (some (.int .i64 (k : Int))) none none).run Tryd.prog W = .ok (.slice (cutS a k cap) (len - k) (cap - k)) W := fun W => run_cuts_l a len cap k W (by omega)
      by_cases hik : i ≤ k
      · have hikI : (i : Int) ≤ k := by omega
        rw [if_pos hik]
        have CP := hid (fun (W : World) (h : TextsAt W a k cap (ts.take k)) => ih a k cap (ts.take k) i cut W h hi1 hik (by omega) (by omega) (by omega) (Nat.le_trans (sumLen_takes _ _) hsum))
        have CR := hid (fun (W : World) (h : TextsAt W (cutS a k cap) (len - k) (cap - k) (ts.drop k)) => refroot_any f (cutS a k cap) (len - k) (cap - k) (ts.drop k) W h (by omega) (by omega) (Nat.le_trans (sumLen_drop _ _) hsum))
        have HTp := hid (hT.take k (by omega))
        have HTr := hid (hT.drop k (by omega))
        have hPl := growL_length f (ts.take k) i cut
        have HX := hid (Dg.rootL f (ts.drop k))
        generalize growL f (ts.take k) i cut = PP at *
        generalize rootL f (ts.drop k) = X at *
        generalize cutS a k cap = a2 at *
        clear hT hkk ih hsum
        have Hb := hid (Below.refl w.heap.size w)

        go_enter Tryd.func41, Tryd.ntmps41
        go_wp2_with (go_at_call 66; refine (CH.out _).mono ?_; rintro e wz ⟨rfl, hwz⟩; have hwz := hwz.symm; subst hwz)
        refine wp_region_flow 10 [0, 1, 2, 3, 4, 6, 7, 8] [] [(.c 5, [9], [])] (by kernel_rfl) (by kernel_rfl) ?_
        apply Exists.intro
        refine ⟨fun w0 hb0 hF0 => ?_, ?_⟩
        · skip
          simp only [pick, List.getElem?_toArray, List.getElem?_cons_succ, List.getElem?_cons_zero, Option.toList_some, List.cons_append, List.nil_append]
          repeat (first | go_big_quiet_step (fail))
          exact wpQuiet_nil rfl
        refine AlChk.nil ?_
        refine Walk.call rfl 41 #[.slice a k cap, .int .i64 (i : Int), .bool cut] ((fun v w' => OwnD w' w.heap.size 23 v PP)) (fun v w' w'' h k => OwnD.below h k) rfl (fun w1 hb1 hF1 => ⟨by go_simp, ?_⟩) ?_
        · skip
          refine (CP.out w1 (HTp.out.below hb1)).mono ?_
          rintro e w2 ⟨v, rfl, b2, o2⟩
          exact ⟨v, rfl, b2, o2.re hb1.size⟩
        rintro v0 w1 hb1 hF1 hov
        apply Exists.intro
        refine ⟨fun w0 hb0 hF0 => ?_, ?_⟩
        · skip
          have c0 := fun e : Ext w0 => CR.out e.at_ ((HTr.out.below hb0).below e.same)
          simp only [pick, List.getElem?_toArray, List.getElem?_cons_succ, List.getElem?_cons_zero, Option.toList_some, List.cons_append, List.nil_append, Act.put, List.setIfInBounds_toArray, List.set_cons_zero, List.set_cons_succ]
          repeat (first | go_big_quiet_step (first | (go_at_call 39; with_reducible exact Calls.ext (c0 _))))
          exact wpQuiet_nil rfl
        refine AlChk.nil ?_
        refine Walk.fin fun w1 hw1 hFw1 _ => ?_
        simp only [List.drop_succ_cons, List.drop_zero]
        have HFw1 := hid hFw1
        have HBw1 := hid (Below.on Hb.out hw1)
        have hsw1 := HBw1.out.size
        clear hw1 hFw1
        have HOw1 := hid (show OwnD w1 w.heap.size 23 v0 PP from HFw1.out.2)
        clear HFw1
        go_wp2_with (first
           | (refine wpList_build_one rfl _ rfl rfl HX.out ?_)
           | (
              refine wpList_append_dig rfl _ _ rfl Tryd.underlying27 hi hz0 zD_cells32 hz1 hz2 rfl (HOw1.out.below ((Below.refl w1.heap.size w1).alloc (Nat.le_refl _) (.cells (X.map (Value.int .u8)).toArray 23 (0, 0)))) rfl (Blk.new rfl (X.map (Value.int .u8)).toArray 23) HX.out (by omega) (by rw [World.size_alloc]; have := HBw1.out.size; omega) ?_
              intro v8 w8 ho8 hg8 hb8
              have HO8 := hid ho8
              have HB8 := hid (Below.trans (HBw1.out.alloc HBw1.out.size (.cells (X.map (Value.int .u8)).toArray 23 (0, 0))) hb8)
              clear ho8 hg8 hb8))
        go_ret
        exact ⟨_, rfl, HB8.out, HO8.out⟩

      · have hikI : ¬ ((i : Int) ≤ k) := by omega
        rw [if_neg hik]
        obtain ⟨q, hq⟩ : ∃ q, q = i - k := ⟨_, rfl⟩
        rw [← hq]
        have Hsub := hid (show (i : Int) - (k : Int) = (q : Int) by omega)
        have hws : wrap64 ((i : Int) - (k : Int)) = (i : Int) - (k : Int) := by unfold wrap64; omega
        have CP := hid (fun (W : World) (h : TextsAt W (cutS a k cap) (len - k) (cap - k) (ts.drop k)) => ih (cutS a k cap) (len - k) (cap - k) (ts.drop k) q true W h (by omega) (by omega) (by omega) (by omega) (by omega) (Nat.le_trans (sumLen_drop _ _) hsum))
        have CR := hid (fun (W : World) (h : TextsAt W a k cap (ts.take k)) => refroot_any f a k cap (ts.take k) W h (by omega) (by omega) (Nat.le_trans (sumLen_takes _ _) hsum))
        have HTp := hid (hT.drop k (by omega))
        have HTr := hid (hT.take k (by omega))
        have hPl := growL_length f (ts.drop k) q true
        have HX := hid (Dg.rootL f (ts.take k))
        generalize growL f (ts.drop k) q true = PP at *
        generalize rootL f (ts.take k) = X at *
        generalize cutS a k cap = a2 at *
        have hkl : k ≤ f := by omega
        clear hT hkk ih hsum hq
        have Hb := hid (Below.refl w.heap.size w)

        go_enter Tryd.func41, Tryd.ntmps41
        go_wp2_with (go_at_call 66; refine (CH.out _).mono ?_; rintro e wz ⟨rfl, hwz⟩; have hwz := hwz.symm; subst hwz)
        refine wp_region_flow 11 [0, 1, 2, 3, 4, 5, 7, 8, 9] [] [(.c 6, [10], [])] (by kernel_rfl) (by kernel_rfl) ?_
        apply Exists.intro
        refine ⟨fun w0 hb0 hF0 => ?_, ?_⟩
        · skip
          simp only [pick, List.getElem?_toArray, List.getElem?_cons_succ, List.getElem?_cons_zero, Option.toList_some, List.cons_append, List.nil_append]
          repeat (first | go_big_quiet_step (fail))
          exact wpQuiet_nil rfl
        refine AlChk.nil ?_
        refine Walk.call rfl 41 #[.slice a2 (len - k) (cap - k), .int .i64 ((i : Int) - (k : Int)), .bool true] ((fun v w' => OwnD w' w.heap.size 23 v PP)) (fun v w' w'' h k => OwnD.below h k) rfl (fun w1 hb1 hF1 => ⟨by go_simp, ?_⟩) ?_
        · skip
          rw [Hsub.out]
          refine (CP.out w1 (HTp.out.below hb1)).mono ?_
          rintro e w2 ⟨v, rfl, b2, o2⟩
          exact ⟨v, rfl, b2, o2.re hb1.size⟩
        rintro v0 w1 hb1 hF1 hov
        apply Exists.intro
        refine ⟨fun w0 hb0 hF0 => ?_, ?_⟩
        · skip
          have c0 := fun e : Ext w0 => CR.out e.at_ ((HTr.out.below hb0).below e.same)
          simp only [pick, List.getElem?_toArray, List.getElem?_cons_succ, List.getElem?_cons_zero, Option.toList_some, List.cons_append, List.nil_append, Act.put, List.setIfInBounds_toArray, List.set_cons_zero, List.set_cons_succ]
          repeat (first | go_big_quiet_step (first | (go_at_call 39; with_reducible exact Calls.ext (c0 _))))
          exact wpQuiet_nil rfl
        refine AlChk.nil ?_
        refine Walk.fin fun w1 hw1 hFw1 _ => ?_
        simp only [List.drop_succ_cons, List.drop_zero]
        have HFw1 := hid hFw1
        have HBw1 := hid (Below.on Hb.out hw1)
        have hsw1 := HBw1.out.size
        clear hw1 hFw1
        have HOw1 := hid (show OwnD w1 w.heap.size 23 v0 PP from HFw1.out.2)
        clear HFw1
        go_wp2_with (first
           | (refine wpList_build_one rfl _ rfl rfl HX.out ?_)
           | (
              refine wpList_append_dig rfl _ _ rfl Tryd.underlying27 hi hz0 zD_cells32 hz1 hz2 rfl (HOw1.out.below ((Below.refl w1.heap.size w1).alloc (Nat.le_refl _) (.cells (X.map (Value.int .u8)).toArray 23 (0, 0)))) rfl (Blk.new rfl (X.map (Value.int .u8)).toArray 23) HX.out (by omega) (by rw [World.size_alloc]; have := HBw1.out.size; omega) ?_
              intro v8 w8 ho8 hg8 hb8
              have HO8 := hid ho8
              have HB8 := hid (Below.trans (HBw1.out.alloc HBw1.out.size (.cells (X.map (Value.int .u8)).toArray 23 (0, 0))) hb8)
              clear ho8 hg8 hb8))
        go_ret
        exact ⟨_, rfl, HB8.out, HO8.out⟩
end Go.Proofs.YthaicocfbmpnmaaDoor
