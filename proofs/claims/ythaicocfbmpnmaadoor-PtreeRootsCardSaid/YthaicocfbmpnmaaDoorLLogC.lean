/-
  Layer 19: ways of a log, by the program and by the reference.
-/
import Derived.Test.YthaicocfbmpnmaaDoorLLogB
namespace Go.Proofs.YthaicocfbmpnmaaDoor
open Go.ChangeShapes Go.WideShapes Go.ChangeAt Go.RowKit

set_option maxHeartbeats 4000000 in
set_option maxRecDepth 100000 in
theorem lopath_one (a : Option Addr) (cap : Nat) (i : Int) (w : World) :
    Calls Tryd.prog 63 #[.slice a 1 cap, .int .i64 i] w fun e w' => ∃ v, e = .returned v ∧ Below w.heap.size w w' ∧ OwnD w' w.heap.size 23 v [] := by
  go_enter Tryd.func63, Tryd.ntmps63
  go_wp2_with fail
  go_ret
  exact ⟨_, rfl, Below.refl _ _, OwnD.nil _ _ _⟩
set_option maxHeartbeats 4000000 in
set_option maxRecDepth 100000 in
theorem lopath_any (f : Nat) : ∀ (a : Option Addr) (len cap : Nat) (ts : List (List Int)) (i : Nat) (w : World), TextsAt w a len cap ts → i < len → len ≤ f → f ≤ 300 → len ≤ 256 → sumLen ts ≤ 1000000 → ShaTab w →
    Calls Tryd.prog 63 #[.slice a len cap, .int .i64 i] w fun e w' => ∃ v, e = .returned v ∧ Below w.heap.size w w' ∧ OwnD w' w.heap.size 23 v (pathL f ts i) := by
  induction f with
  | zero =>
    intro a len cap ts i w hT hi hl _ _ _ _
    omega
  | succ f ih =>
    intro a len cap ts i w hT hil hl hf3 h256 hsum tab
    have hlen := hT.length
    rcases (show len = 1 ∨ 2 ≤ len by omega) with rfl | h2
    · rw [show pathL (f + 1) ts i = [] by rw [pathL, if_pos hlen]]
      exact lopath_one a cap i w
    · have hle := hT.le
      have hmx := hT.max
      obtain ⟨hk1, hk2⟩ := halfN_lt h2
      have CH := hid (fun W : World => lohalf_any len W h2 h256)
      have hun : pathL (f + 1) ts i = if i < halfN len then pathL f (ts.take (halfN len)) i ++ [rootL f (ts.drop (halfN len))] else pathL f (ts.drop (halfN len)) (i - halfN len) ++ [rootL f (ts.take (halfN len))] := by rw [pathL, if_neg (by omega), hlen]
      rw [hun]
      clear hun
      generalize hkk : halfN len = k at *
      obtain ⟨i0, hi, hz0, hz1, hz2⟩ := info_parts info_dig
      have hlk : ¬ ((len : Int) = 1) := by omega
      have hc1 : ∀ W : World, (Instr.slice 58 (.slice a len cap) none (some (.int .i64 (k : Int))) none).run Tryd.prog W = .ok (.slice a k cap) W := fun W => run_cuts_h a len cap k W (by omega)
      have hc2 : ∀ W : World, (Instr.slice 58 (.slice a len cap) (some (.int .i64 (k : Int))) none none).run Tryd.prog W = .ok (.slice (cutS a k cap) (len - k) (cap - k)) W := fun W => run_cuts_l a len cap k W (by omega)
      by_cases hik : i < k
      · have hikI : (i : Int) < k := by omega
        rw [if_pos hik]
        have CP := hid (fun (W : World) (h : TextsAt W a k cap (ts.take k)) (t : ShaTab W) => ih a k cap (ts.take k) i W h hik (by omega) (by omega) (by omega) (Nat.le_trans (sumLen_takes _ _) hsum) t)
        have CR := hid (fun (W : World) (h : TextsAt W (cutS a k cap) (len - k) (cap - k) (ts.drop k)) (t : ShaTab W) => loroot_any f (cutS a k cap) (len - k) (cap - k) (ts.drop k) W h (by omega) (by omega) (Nat.le_trans (sumLen_drop _ _) hsum) t)
        have HTp := hid (hT.take k (by omega))
        have HTr := hid (hT.drop k (by omega))
        have hPl := pathL_length f (ts.take k) i
        have HX := hid (Dg.rootL f (ts.drop k))
        generalize pathL f (ts.take k) i = PP at *
        generalize rootL f (ts.drop k) = X at *
        generalize cutS a k cap = a2 at *
        clear hT hkk ih hsum
        have Hb := hid (Below.refl w.heap.size w)
        have Htab := hid tab
        clear  tab 
        go_enter Tryd.func63, Tryd.ntmps63
        go_wp2_with (go_at_call 69; refine (CH.out _).mono ?_; rintro e wz ⟨rfl, hwz⟩; have hwz := hwz.symm; subst hwz)
        refine wp_region_flow 9 [0, 1, 2, 3, 5, 6, 7] [] [(.c 4, [8], [])] (by kernel_rfl) (by kernel_rfl) ?_
        apply Exists.intro
        refine ⟨fun w0 hb0 hF0 => ?_, ?_⟩
        · skip
          simp only [pick, List.getElem?_toArray, List.getElem?_cons_succ, List.getElem?_cons_zero, Option.toList_some, List.cons_append, List.nil_append]
          repeat (first | go_big_quiet_step (fail))
          exact wpQuiet_nil rfl
        refine AlChk.nil ?_
        refine Walk.call rfl 63 #[.slice a k cap, .int .i64 (i : Int)] ((fun v w' => OwnD w' w.heap.size 23 v PP)) (fun v w' w'' h k => OwnD.below h k) rfl (fun w1 hb1 hF1 => ⟨by go_simp, ?_⟩) ?_
        · skip
          refine (CP.out w1 (HTp.out.below hb1) (Htab.out.below hb1)).mono ?_
          rintro e w2 ⟨v, rfl, b2, o2⟩
          exact ⟨v, rfl, b2, o2.re hb1.size⟩
        rintro v0 w1 hb1 hF1 hov
        apply Exists.intro
        refine ⟨fun w0 hb0 hF0 => ?_, ?_⟩
        · skip
          have c0 := fun e : Ext w0 => CR.out e.at_ ((HTr.out.below hb0).below e.same) ((Htab.out.below (Below.on Hb.out hb0)).below e.same)
          simp only [pick, List.getElem?_toArray, List.getElem?_cons_succ, List.getElem?_cons_zero, Option.toList_some, List.cons_append, List.nil_append, Act.put, List.setIfInBounds_toArray, List.set_cons_zero, List.set_cons_succ]
          repeat (first | go_big_quiet_step (first | (go_at_call 62; with_reducible exact Calls.ext (c0 _))))
          exact wpQuiet_nil rfl
        refine AlChk.nil ?_
        refine Walk.fin fun w1 hw1 hFw1 _ => ?_
        simp only [List.drop_succ_cons, List.drop_zero]
        have HFw1 := hid hFw1
        have HBw1 := hid (Below.on Hb.out hw1)
        have hsw1 := HBw1.out.size
        clear hw1 hFw1
        have HOw1 := hid (show OwnD w1 w.heap.size 23 v0 PP from HFw1.out.2)
        clear HFw1
        go_wp2_with (first
           | (refine wpList_build_one rfl _ rfl rfl HX.out ?_)
           | (
              refine wpList_append_dig rfl _ _ rfl Tryd.underlying27 hi hz0 zD_cells32 hz1 hz2 rfl (HOw1.out.below ((Below.refl w1.heap.size w1).alloc (Nat.le_refl _) (.cells (X.map (Value.int .u8)).toArray 23 (0, 0)))) rfl (Blk.new rfl (X.map (Value.int .u8)).toArray 23) HX.out (by omega) (by rw [World.size_alloc]; have := HBw1.out.size; omega) ?_
              intro v8 w8 ho8 hg8 hb8
              have HO8 := hid ho8
              have HB8 := hid (Below.trans (HBw1.out.alloc HBw1.out.size (.cells (X.map (Value.int .u8)).toArray 23 (0, 0))) hb8)
              clear ho8 hg8 hb8))
        go_ret
        exact ⟨_, rfl, HB8.out, HO8.out⟩

      · have hikI : ¬ ((i : Int) < k) := by omega
        rw [if_neg hik]
        obtain ⟨q, hq⟩ : ∃ q, q = i - k := ⟨_, rfl⟩
        rw [← hq]
        have Hsub := hid (show (i : Int) - (k : Int) = (q : Int) by omega)
        have hws : wrap64 ((i : Int) - (k : Int)) = (i : Int) - (k : Int) := by unfold wrap64; omega
        have CP := hid (fun (W : World) (h : TextsAt W (cutS a k cap) (len - k) (cap - k) (ts.drop k)) (t : ShaTab W) => ih (cutS a k cap) (len - k) (cap - k) (ts.drop k) q W h (by omega) (by omega) (by omega) (by omega) (Nat.le_trans (sumLen_drop _ _) hsum) t)
        have CR := hid (fun (W : World) (h : TextsAt W a k cap (ts.take k)) (t : ShaTab W) => loroot_any f a k cap (ts.take k) W h (by omega) (by omega) (Nat.le_trans (sumLen_takes _ _) hsum) t)
        have HTp := hid (hT.drop k (by omega))
        have HTr := hid (hT.take k (by omega))
        have hPl := pathL_length f (ts.drop k) q
        have HX := hid (Dg.rootL f (ts.take k))
        generalize pathL f (ts.drop k) q = PP at *
        generalize rootL f (ts.take k) = X at *
        generalize cutS a k cap = a2 at *
        have hkl : k ≤ f := by omega
        clear hT hkk ih hsum hq
        have Hb := hid (Below.refl w.heap.size w)
        have Htab := hid tab
        clear  tab 
        go_enter Tryd.func63, Tryd.ntmps63
        go_wp2_with (go_at_call 69; refine (CH.out _).mono ?_; rintro e wz ⟨rfl, hwz⟩; have hwz := hwz.symm; subst hwz)
        refine wp_region_flow 11 [0, 1, 2, 3, 4, 5, 7, 8, 9] [] [(.c 6, [10], [])] (by kernel_rfl) (by kernel_rfl) ?_
        apply Exists.intro
        refine ⟨fun w0 hb0 hF0 => ?_, ?_⟩
        · skip
          simp only [pick, List.getElem?_toArray, List.getElem?_cons_succ, List.getElem?_cons_zero, Option.toList_some, List.cons_append, List.nil_append]
          repeat (first | go_big_quiet_step (fail))
          exact wpQuiet_nil rfl
        refine AlChk.nil ?_
        refine Walk.call rfl 63 #[.slice a2 (len - k) (cap - k), .int .i64 ((i : Int) - (k : Int))] ((fun v w' => OwnD w' w.heap.size 23 v PP)) (fun v w' w'' h k => OwnD.below h k) rfl (fun w1 hb1 hF1 => ⟨by go_simp, ?_⟩) ?_
        · skip
          rw [Hsub.out]
          refine (CP.out w1 (HTp.out.below hb1) (Htab.out.below hb1)).mono ?_
          rintro e w2 ⟨v, rfl, b2, o2⟩
          exact ⟨v, rfl, b2, o2.re hb1.size⟩
        rintro v0 w1 hb1 hF1 hov
        apply Exists.intro
        refine ⟨fun w0 hb0 hF0 => ?_, ?_⟩
        · skip
          have c0 := fun e : Ext w0 => CR.out e.at_ ((HTr.out.below hb0).below e.same) ((Htab.out.below (Below.on Hb.out hb0)).below e.same)
          simp only [pick, List.getElem?_toArray, List.getElem?_cons_succ, List.getElem?_cons_zero, Option.toList_some, List.cons_append, List.nil_append, Act.put, List.setIfInBounds_toArray, List.set_cons_zero, List.set_cons_succ]
          repeat (first | go_big_quiet_step (first | (go_at_call 62; with_reducible exact Calls.ext (c0 _))))
          exact wpQuiet_nil rfl
        refine AlChk.nil ?_
        refine Walk.fin fun w1 hw1 hFw1 _ => ?_
        simp only [List.drop_succ_cons, List.drop_zero]
        have HFw1 := hid hFw1
        have HBw1 := hid (Below.on Hb.out hw1)
        have hsw1 := HBw1.out.size
        clear hw1 hFw1
        have HOw1 := hid (show OwnD w1 w.heap.size 23 v0 PP from HFw1.out.2)
        clear HFw1
        go_wp2_with (first
           | (refine wpList_build_one rfl _ rfl rfl HX.out ?_)
           | (
              refine wpList_append_dig rfl _ _ rfl Tryd.underlying27 hi hz0 zD_cells32 hz1 hz2 rfl (HOw1.out.below ((Below.refl w1.heap.size w1).alloc (Nat.le_refl _) (.cells (X.map (Value.int .u8)).toArray 23 (0, 0)))) rfl (Blk.new rfl (X.map (Value.int .u8)).toArray 23) HX.out (by omega) (by rw [World.size_alloc]; have := HBw1.out.size; omega) ?_
              intro v8 w8 ho8 hg8 hb8
              have HO8 := hid ho8
              have HB8 := hid (Below.trans (HBw1.out.alloc HBw1.out.size (.cells (X.map (Value.int .u8)).toArray 23 (0, 0))) hb8)
              clear ho8 hg8 hb8))
        go_ret
        exact ⟨_, rfl, HB8.out, HO8.out⟩

set_option maxHeartbeats 4000000 in
set_option maxRecDepth 100000 in
theorem refway19_one (a : Option Addr) (cap : Nat) (i : Int) (w : World) :
    Calls Tryd.prog 40 #[.slice a 1 cap, .int .i64 i] w fun e w' => ∃ v, e = .returned v ∧ Below w.heap.size w w' ∧ OwnD w' w.heap.size 23 v [] := by
  go_enter Tryd.func40, Tryd.ntmps40
  go_wp2_with fail
  go_ret
  exact ⟨_, rfl, Below.refl _ _, OwnD.nil _ _ _⟩
set_option maxHeartbeats 4000000 in
set_option maxRecDepth 100000 in
theorem refway19_any (f : Nat) : ∀ (a : Option Addr) (len cap : Nat) (ts : List (List Int)) (i : Nat) (w : World), TextsAt w a len cap ts → i < len → len ≤ f → f ≤ 300 → len ≤ 256 → sumLen ts ≤ 1000000 →
    Calls Tryd.prog 40 #[.slice a len cap, .int .i64 i] w fun e w' => ∃ v, e = .returned v ∧ Below w.heap.size w w' ∧ OwnD w' w.heap.size 23 v (pathL f ts i) := by
  induction f with
  | zero =>
    intro a len cap ts i w hT hi hl _ _ _
    omega
  | succ f ih =>
    intro a len cap ts i w hT hil hl hf3 h256 hsum
    have hlen := hT.length
    rcases (show len = 1 ∨ 2 ≤ len by omega) with rfl | h2
    · rw [show pathL (f + 1) ts i = [] by rw [pathL, if_pos hlen]]
      exact refway19_one a cap i w
    · have hle := hT.le
      have hmx := hT.max
      obtain ⟨hk1, hk2⟩ := halfN_lt h2
      have CH := hid (fun W : World => refhalf_any len len W (Nat.le_refl _) h2 (by omega))
      have hun : pathL (f + 1) ts i = if i < halfN len then pathL f (ts.take (halfN len)) i ++ [rootL f (ts.drop (halfN len))] else pathL f (ts.drop (halfN len)) (i - halfN len) ++ [rootL f (ts.take (halfN len))] := by rw [pathL, if_neg (by omega), hlen]
      rw [hun]
      clear hun
      generalize hkk : halfN len = k at *
      obtain ⟨i0, hi, hz0, hz1, hz2⟩ := info_parts info_dig
      have hlk : ¬ ((len : Int) = 1) := by omega
      have hc1 : ∀ W : World, (Instr.slice 58 (.slice a len cap) none (some (.int .i64 (k : Int))) none).run Tryd.prog W = .ok (.slice a k cap) W := fun W => run_cuts_h a len cap k W (by omega)
      have hc2 : ∀ W : World, (Instr.slice 58 (.slice a len cap) (some (.int .i64 (k : Int))) none none).run Tryd.prog W = .ok (.slice (cutS a k cap) (len - k) (cap - k)) W := fun W => run_cuts_l a len cap k W (by omega)
      by_cases hik : i < k
      · have hikI : (i : Int) < k := by omega
        rw [if_pos hik]
        have CP := hid (fun (W : World) (h : TextsAt W a k cap (ts.take k)) => ih a k cap (ts.take k) i W h hik (by omega) (by omega) (by omega) (Nat.le_trans (sumLen_takes _ _) hsum))
        have CR := hid (fun (W : World) (h : TextsAt W (cutS a k cap) (len - k) (cap - k) (ts.drop k)) => refroot_any f (cutS a k cap) (len - k) (cap - k) (ts.drop k) W h (by omega) (by omega) (Nat.le_trans (sumLen_drop _ _) hsum))
        have HTp := hid (hT.take k (by omega))
        have HTr := hid (hT.drop k (by omega))
        have hPl := pathL_length f (ts.take k) i
        have HX := hid (Dg.rootL f (ts.drop k))
        generalize pathL f (ts.take k) i = PP at *
        generalize rootL f (ts.drop k) = X at *
        generalize cutS a k cap = a2 at *
        clear hT hkk ih hsum
        have Hb := hid (Below.refl w.heap.size w)

        go_enter Tryd.func40, Tryd.ntmps40
        go_wp2_with (go_at_call 66; refine (CH.out _).mono ?_; rintro e wz ⟨rfl, hwz⟩; have hwz := hwz.symm; subst hwz)
        refine wp_region_flow 9 [0, 1, 2, 3, 5, 6, 7] [] [(.c 4, [8], [])] (by kernel_rfl) (by kernel_rfl) ?_
        apply Exists.intro
        refine ⟨fun w0 hb0 hF0 => ?_, ?_⟩
        · skip
          simp only [pick, List.getElem?_toArray, List.getElem?_cons_succ, List.getElem?_cons_zero, Option.toList_some, List.cons_append, List.nil_append]
          repeat (first | go_big_quiet_step (fail))
          exact wpQuiet_nil rfl
        refine AlChk.nil ?_
        refine Walk.call rfl 40 #[.slice a k cap, .int .i64 (i : Int)] ((fun v w' => OwnD w' w.heap.size 23 v PP)) (fun v w' w'' h k => OwnD.below h k) rfl (fun w1 hb1 hF1 => ⟨by go_simp, ?_⟩) ?_
        · skip
          refine (CP.out w1 (HTp.out.below hb1)).mono ?_
          rintro e w2 ⟨v, rfl, b2, o2⟩
          exact ⟨v, rfl, b2, o2.re hb1.size⟩
        rintro v0 w1 hb1 hF1 hov
        apply Exists.intro
        refine ⟨fun w0 hb0 hF0 => ?_, ?_⟩
        · skip
          have c0 := fun e : Ext w0 => CR.out e.at_ ((HTr.out.below hb0).below e.same)
          simp only [pick, List.getElem?_toArray, List.getElem?_cons_succ, List.getElem?_cons_zero, Option.toList_some, List.cons_append, List.nil_append, Act.put, List.setIfInBounds_toArray, List.set_cons_zero, List.set_cons_succ]
          repeat (first | go_big_quiet_step (first | (go_at_call 39; with_reducible exact Calls.ext (c0 _))))
          exact wpQuiet_nil rfl
        refine AlChk.nil ?_
        refine Walk.fin fun w1 hw1 hFw1 _ => ?_
        simp only [List.drop_succ_cons, List.drop_zero]
        have HFw1 := hid hFw1
        have HBw1 := hid (Below.on Hb.out hw1)
        have hsw1 := HBw1.out.size
        clear hw1 hFw1
        have HOw1 := hid (show OwnD w1 w.heap.size 23 v0 PP from HFw1.out.2)
        clear HFw1
        go_wp2_with (first
           | (refine wpList_build_one rfl _ rfl rfl HX.out ?_)
           | (
              refine wpList_append_dig rfl _ _ rfl Tryd.underlying27 hi hz0 zD_cells32 hz1 hz2 rfl (HOw1.out.below ((Below.refl w1.heap.size w1).alloc (Nat.le_refl _) (.cells (X.map (Value.int .u8)).toArray 23 (0, 0)))) rfl (Blk.new rfl (X.map (Value.int .u8)).toArray 23) HX.out (by omega) (by rw [World.size_alloc]; have := HBw1.out.size; omega) ?_
              intro v8 w8 ho8 hg8 hb8
              have HO8 := hid ho8
              have HB8 := hid (Below.trans (HBw1.out.alloc HBw1.out.size (.cells (X.map (Value.int .u8)).toArray 23 (0, 0))) hb8)
              clear ho8 hg8 hb8))
        go_ret
        exact ⟨_, rfl, HB8.out, HO8.out⟩

      · have hikI : ¬ ((i : Int) < k) := by omega
        rw [if_neg hik]
        obtain ⟨q, hq⟩ : ∃ q, q = i - k := ⟨_, rfl⟩
        rw [← hq]
        have Hsub := hid (show (i : Int) - (k : Int) = (q : Int) by omega)
        have hws : wrap64 ((i : Int) - (k : Int)) = (i : Int) - (k : Int) := by unfold wrap64; omega
        have CP := hid (fun (W : World) (h : TextsAt W (cutS a k cap) (len - k) (cap - k) (ts.drop k)) => ih (cutS a k cap) (len - k) (cap - k) (ts.drop k) q W h (by omega) (by omega) (by omega) (by omega) (Nat.le_trans (sumLen_drop _ _) hsum))
        have CR := hid (fun (W : World) (h : TextsAt W a k cap (ts.take k)) => refroot_any f a k cap (ts.take k) W h (by omega) (by omega) (Nat.le_trans (sumLen_takes _ _) hsum))
        have HTp := hid (hT.drop k (by omega))
        have HTr := hid (hT.take k (by omega))
        have hPl := pathL_length f (ts.drop k) q
        have HX := hid (Dg.rootL f (ts.take k))
        generalize pathL f (ts.drop k) q = PP at *
        generalize rootL f (ts.take k) = X at *
        generalize cutS a k cap = a2 at *
        have hkl : k ≤ f := by omega
        clear hT hkk ih hsum hq
        have Hb := hid (Below.refl w.heap.size w)

        go_enter Tryd.func40, Tryd.ntmps40
        go_wp2_with (go_at_call 66; refine (CH.out _).mono ?_; rintro e wz ⟨rfl, hwz⟩; have hwz := hwz.symm; subst hwz)
        refine wp_region_flow 11 [0, 1, 2, 3, 4, 5, 7, 8, 9] [] [(.c 6, [10], [])] (by kernel_rfl) (by kernel_rfl) ?_
        apply Exists.intro
        refine ⟨fun w0 hb0 hF0 => ?_, ?_⟩
        · skip
          simp only [pick, List.getElem?_toArray, List.getElem?_cons_succ, List.getElem?_cons_zero, Option.toList_some, List.cons_append, List.nil_append]
          repeat (first | go_big_quiet_step (fail))
          exact wpQuiet_nil rfl
        refine AlChk.nil ?_
        refine Walk.call rfl 40 #[.slice a2 (len - k) (cap - k), .int .i64 ((i : Int) - (k : Int))] ((fun v w' => OwnD w' w.heap.size 23 v PP)) (fun v w' w'' h k => OwnD.below h k) rfl (fun w1 hb1 hF1 => ⟨by go_simp, ?_⟩) ?_
        · skip
          rw [Hsub.out]
          refine (CP.out w1 (HTp.out.below hb1)).mono ?_
          rintro e w2 ⟨v, rfl, b2, o2⟩
          exact ⟨v, rfl, b2, o2.re hb1.size⟩
        rintro v0 w1 hb1 hF1 hov
        apply Exists.intro
        refine ⟨fun w0 hb0 hF0 => ?_, ?_⟩
        · skip
          have c0 := fun e : Ext w0 => CR.out e.at_ ((HTr.out.below hb0).below e.same)
          simp only [pick, List.getElem?_toArray, List.getElem?_cons_succ, List.getElem?_cons_zero, Option.toList_some, List.cons_append, List.nil_append, Act.put, List.setIfInBounds_toArray, List.set_cons_zero, List.set_cons_succ]
          repeat (first | go_big_quiet_step (first | (go_at_call 39; with_reducible exact Calls.ext (c0 _))))
          exact wpQuiet_nil rfl
        refine AlChk.nil ?_
        refine Walk.fin fun w1 hw1 hFw1 _ => ?_
        simp only [List.drop_succ_cons, List.drop_zero]
        have HFw1 := hid hFw1
        have HBw1 := hid (Below.on Hb.out hw1)
        have hsw1 := HBw1.out.size
        clear hw1 hFw1
        have HOw1 := hid (show OwnD w1 w.heap.size 23 v0 PP from HFw1.out.2)
        clear HFw1
        go_wp2_with (first
           | (refine wpList_build_one rfl _ rfl rfl HX.out ?_)
           | (
              refine wpList_append_dig rfl _ _ rfl Tryd.underlying27 hi hz0 zD_cells32 hz1 hz2 rfl (HOw1.out.below ((Below.refl w1.heap.size w1).alloc (Nat.le_refl _) (.cells (X.map (Value.int .u8)).toArray 23 (0, 0)))) rfl (Blk.new rfl (X.map (Value.int .u8)).toArray 23) HX.out (by omega) (by rw [World.size_alloc]; have := HBw1.out.size; omega) ?_
              intro v8 w8 ho8 hg8 hb8
              have HO8 := hid ho8
              have HB8 := hid (Below.trans (HBw1.out.alloc HBw1.out.size (.cells (X.map (Value.int .u8)).toArray 23 (0, 0))) hb8)
              clear ho8 hg8 hb8))
        go_ret
        exact ⟨_, rfl, HB8.out, HO8.out⟩
end Go.Proofs.YthaicocfbmpnmaaDoor
