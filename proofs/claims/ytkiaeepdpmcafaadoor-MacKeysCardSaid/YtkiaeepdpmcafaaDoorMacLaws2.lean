/-
  MacCodes, MacKeys: the walks of their texts.
-/
import Derived.Test.YtkiaeepdpmcafaaDoorMacLaws
import Derived.Test.YtkiaeepdpmcafaaDoorAppendZ
import Derived.Test.YtkiaeepdpmcafaaDoorFlowB
namespace Go.Proofs.YtkiaeepdpmcafaaDoor
open Go.ChangeShapes Go.WideShapes Go.ChangeAt Go.RowKit

theorem eqStrB {xs ys : List Int} (hx : ∀ x ∈ xs, 0 ≤ x ∧ x < 256) (hy : ∀ x ∈ ys, 0 ≤ x ∧ x < 256) : ((strOfNums xs).toList == (strOfNums ys).toList) = decide (xs = ys) := by
  by_cases e : xs = ys
  · subst e; simp
  · have h : ¬ (strOfNums xs).toList = (strOfNums ys).toList := fun q => e ((strOfNums_inj hx hy).1 (by
      rw [Lib.strOfNums_toList, Lib.strOfNums_toList] at q
      exact congrArg (fun l : List UInt8 => (⟨l.toArray⟩ : ByteArray)) q))
    simp [e, h]
theorem macCodes_long (a : Option Addr) (n c : Nat) (key : List Int) (p : Option Addr) (m d : Nat) (b : Option Addr) (k e : Nat) (bs : List Int) (w : World) (tab : ShaTab w) (hA : TextAt w a n c key) (hB : TextAt w b k e bs) (hn : 1000 < n) :
    Calls Tryd.prog 6 #[.slice a n c, .slice p m d, .slice b k e] w fun e w' => e = .returned (.bool true) ∧ Below w.heap.size w w' := by
  have q1 := hA.le
  have q2 := hA.max
  have q3 := hB.le
  have q4 := hB.max
  have Htab := hid tab
  clear tab hA hB
  go_enter Tryd.func6, Tryd.ntmps6
  go_wp2_with (first | (go_at_call 20; refine (knows02 _ Htab.out).mono ?_; rintro e w2 ⟨rfl, bel⟩))
  go_returns
  exact ⟨rfl, bel⟩
theorem macCodes_long2 (a : Option Addr) (n c : Nat) (key : List Int) (p : Option Addr) (m d : Nat) (b : Option Addr) (k e : Nat) (bs : List Int) (w : World) (tab : ShaTab w) (hA : TextAt w a n c key) (hB : TextAt w b k e bs) (hn : n ≤ 1000) (hk : 1000 < k) :
    Calls Tryd.prog 6 #[.slice a n c, .slice p m d, .slice b k e] w fun e w' => e = .returned (.bool true) ∧ Below w.heap.size w w' := by
  have q1 := hA.le
  have q2 := hA.max
  have q3 := hB.le
  have q4 := hB.max
  have Htab := hid tab
  clear tab hA hB
  go_enter Tryd.func6, Tryd.ntmps6
  go_wp2_with (first | (go_at_call 20; refine (knows02 _ Htab.out).mono ?_; rintro e w2 ⟨rfl, bel⟩))
  go_returns
  exact ⟨rfl, bel⟩
theorem macCodes_not (a : Option Addr) (n c : Nat) (key : List Int) (p : Option Addr) (m d : Nat) (ts : List (List Int)) (b : Option Addr) (k e : Nat) (bs : List Int) (w : World) (tab : ShaTab w) (hA : TextAt w a n c key) (hP : TextsAt w p m d ts) (hB : TextAt w b k e bs) (hr : ∀ t ∈ ts, t.length ≤ 140737488351232) (hn : n ≤ 1000) (hk : k ≤ 1000) (hf : fewB ts 1000 = false) :
    Calls Tryd.prog 6 #[.slice a n c, .slice p m d, .slice b k e] w fun e w' => e = .returned (.bool true) ∧ Below w.heap.size w w' := by
  have h := few_any p m d ts 1000 w hP hr
  rw [hf] at h
  have q1 := hA.le
  have q2 := hA.max
  have q3 := hB.le
  have q4 := hB.max
  have Htab := hid tab
  clear tab hA hP hB hr hf
  go_enter Tryd.func6, Tryd.ntmps6
  go_wp2_with (first | (go_at_call 12; refine h.mono ?_; rintro e w1 ⟨rfl, rfl⟩) | (go_at_call 20; refine (knows02 _ Htab.out).mono ?_; rintro e w2 ⟨rfl, bel⟩))
  go_returns
  exact ⟨rfl, bel⟩

set_option maxHeartbeats 4000000 in
set_option maxRecDepth 100000 in
theorem macCodes_walk (a : Option Addr) (n c : Nat) (key : List Int) (p : Option Addr) (m d : Nat) (ts : List (List Int)) (b : Option Addr) (k e : Nat) (bs : List Int) (w : World) (tab : ShaTab w) (hA : TextAt w a n c key) (hP : TextsAt w p m d ts) (hB : TextAt w b k e bs) (hr : ∀ t ∈ ts, t.length ≤ 140737488351232) (hn : n ≤ 1000) (hk : k ≤ 1000) (hf : fewB ts 1000 = true) :
    Calls Tryd.prog 6 #[.slice a n c, .slice p m d, .slice b k e] w fun e w' => e = .returned (.bool true) ∧ Below w.heap.size w w' := by
  have h := few_any p m d ts 1000 w hP hr
  rw [hf] at h
  have q1 := hA.le
  have q2 := hA.max
  have q3 := hB.le
  have q4 := hB.max
  have Htab := hid tab
  have HA := hid hA
  have HP := hid hP
  have HB := hid hB
  have Hsl := hid (fewB_spec hf)
  have hpl := hP.length
  have hm : m ≤ 100 := by have := (fewB_spec hf).2; omega
  have Hfl := hid (flatten_length ts)
  clear tab hA hP hB hr hf hpl
  go_enter Tryd.func6, Tryd.ntmps6
  go_wp2_with (go_at_call 12; refine h.mono ?_; rintro e w1 ⟨rfl, rfl⟩)
  refine (join_any p m d ts w HP.out (by have := Hsl.out.1; omega)).mono ?_
  rintro e' w2 ⟨v, rfl, own, b2⟩
  have HB2 := hid b2
  obtain ⟨av, cv, rfl, hTv, _⟩ := own.text
  have hL1 : ts.flatten.length ≤ 1000 := by have := Hsl.out.1; have := Hfl.out; omega
  generalize hL : ts.flatten.length = L at *
  have HL := hid hL
  have HTv := hid hTv
  have Hq := hid (eqD_self (macZ key ts.flatten) (macZ_length _ _))
  clear b2 own hTv h hL
  go_wp2_with fail
  refine wp_region_flow 27 (List.range 27) [] [] (by kernel_rfl) (by kernel_rfl) ?_
  apply Exists.intro
  refine ⟨fun w0 hb0 hF0 => ?_, ?_⟩
  · have hbw := Below.on HB2.out hb0
    have hc := fun x : Ext w0 => code_any a n c key p m d ts x.at_ ((HA.out.below hbw).below x.same) ((HP.out.below hbw).below x.same) (by omega) (by omega) (by have := Hsl.out.1; omega) ((Htab.out.below hbw).below x.same)
    have hrc := fun x : Ext w0 => refcode_any a n c key av L cv ts.flatten x.at_ ((HA.out.below hbw).below x.same) ((HTv.out.below hb0).below x.same) (by omega) (by omega)
    have hs1 := fun x : Ext w0 => same_any av b L cv k e ts.flatten bs x.at_ ((HTv.out.below hb0).below x.same) ((HB.out.below hbw).below x.same)
    have hs2 := fun x : Ext w0 => same_any av av L cv L cv ts.flatten ts.flatten x.at_ ((HTv.out.below hb0).below x.same) ((HTv.out.below hb0).below x.same)
    rw [decide_eq_true (rfl : ts.flatten = ts.flatten)] at hs2
    have hkn := fun x : Ext w0 => knows02 x.at_ ((Htab.out.below hbw).below x.same)
    have hv1 := conv_str (HTv.out.below hb0)
    have hv2 := conv_str (HB.out.below hbw)
    have q := Hq.out
    have qs := eqStrB HTv.out.small HB.out.small
    simp only [pick, List.range, List.range.loop, List.getElem?_toArray, List.getElem?_cons_succ, List.getElem?_cons_zero, Option.toList_some, List.cons_append, List.nil_append]
    repeat (go_big_quiet_step (first | (go_at_call 21; exact Calls.ext (hc _)) | (go_at_call 22; exact Calls.ext (hrc _)) | (go_at_call 23; with_reducible exact Calls.ext (hs1 _)) | (go_at_call 23; with_reducible exact Calls.ext (hs2 _)) | (go_at_call 20; exact Calls.ext (hkn _))))
    exact wpQuiet_nil rfl
  refine AlChk.nil ?_
  refine Walk.fin fun w9 h9 _ _ => ?_
  simp only [List.drop_succ_cons, List.drop_zero]
  go_wp2_with fail
  go_returns
  exact ⟨rfl, Below.on HB2.out h9⟩

theorem macKeys_long (a : Option Addr) (n c : Nat) (key : List Int) (b : Option Addr) (k e : Nat) (bs : List Int) (m : Int) (w : World) (tab : ShaTab w) (hA : TextAt w a n c key) (hB : TextAt w b k e bs) (hn : 1000 < n) :
    Calls Tryd.prog 7 #[.slice a n c, .slice b k e, .int .u8 m] w fun e w' => e = .returned (.bool true) ∧ Below w.heap.size w w' := by
  have q1 := hA.le
  have q2 := hA.max
  have q3 := hB.le
  have q4 := hB.max
  have Htab := hid tab
  clear tab hA hB
  go_enter Tryd.func7, Tryd.ntmps7
  go_wp2_with (first | (go_at_call 20; refine (knows02 _ Htab.out).mono ?_; rintro e w2 ⟨rfl, bel⟩))
  go_returns
  exact ⟨rfl, bel⟩
theorem macKeys_long2 (a : Option Addr) (n c : Nat) (key : List Int) (b : Option Addr) (k e : Nat) (bs : List Int) (m : Int) (w : World) (tab : ShaTab w) (hA : TextAt w a n c key) (hB : TextAt w b k e bs) (hn : n ≤ 1000) (hk : 1000 < k) :
    Calls Tryd.prog 7 #[.slice a n c, .slice b k e, .int .u8 m] w fun e w' => e = .returned (.bool true) ∧ Below w.heap.size w w' := by
  have q1 := hA.le
  have q2 := hA.max
  have q3 := hB.le
  have q4 := hB.max
  have Htab := hid tab
  clear tab hA hB
  go_enter Tryd.func7, Tryd.ntmps7
  go_wp2_with (first | (go_at_call 20; refine (knows02 _ Htab.out).mono ?_; rintro e w2 ⟨rfl, bel⟩))
  go_returns
  exact ⟨rfl, bel⟩

theorem blockZ_sum {key : List Int} (h : 64 < key.length) : blockZ (sumZ key) = blockZ key := by
  unfold blockZ
  rw [if_pos h, if_neg (by rw [sumZ_length]; omega), sumZ_length]
theorem blockZ_zeros {key : List Int} {j : Nat} (h : key.length + j ≤ 64) : blockZ (key ++ List.replicate j 0) = blockZ key := by
  unfold blockZ
  rw [if_neg (by simp; omega), if_neg (by omega), List.append_assoc, List.length_append, List.length_replicate, List.replicate_append_replicate]
  congr 2
  omega
theorem macZ_block {k1 k2 : List Int} (h : blockZ k1 = blockZ k2) (t : List Int) : macZ k1 t = macZ k2 t := by
  unfold macZ
  rw [h]

set_option maxHeartbeats 4000000 in
set_option maxRecDepth 100000 in
theorem macKeys_big (a : Option Addr) (n c : Nat) (key : List Int) (b : Option Addr) (k e : Nat) (bs : List Int) (m : Int) (w : World) (tab : ShaTab w) (hA : TextAt w a n c key) (hB : TextAt w b k e bs) (hn : n ≤ 1000) (hk : k ≤ 1000) (hn64 : 64 < n) :
    Calls Tryd.prog 7 #[.slice a n c, .slice b k e, .int .u8 m] w fun e w' => e = .returned (.bool true) ∧ Below w.heap.size w w' := by
  have q1 := hA.le
  have q2 := hA.max
  have q3 := hB.le
  have q4 := hB.max
  have hkl := hA.length
  have hbl := hB.length
  have Htab := hid tab
  have HA := hid hA
  have HB := hid hB
  have Hbl := hid hbl
  have Hkl := hid hkl
  have HzA := hid zsize
  have ba := (Below.refl w.heap.size w).alloc (Nat.le_refl _) (.cells #[.slice b k e] 29 (0, 0))
  have hTs : TextsAt (w.alloc (.cells #[.slice b k e] 29 (0, 0))) (some ⟨w.heap.size, 0, none⟩) 1 1 [bs] :=
    TextsAt.of_blk (Blk.new rfl _ _) rfl (Nat.le_refl _) (by omega) fun j hj => by
      obtain rfl : j = 0 := by omega
      exact ⟨_, _, _, rfl, HB.out.below ba⟩
  have Hba := hid ba
  have HTs := hid hTs
  have Hsame : Hid (macZ (sumZ key) bs = macZ key bs) := hid (macZ_block (blockZ_sum (by omega)) bs)
  have Hlm := hid (macZ_length key bs)
  have Hls := hid (sumZ_length key)
  have Hss := hid (sumZ_small key)
  have Hq := hid (eqD_self (macZ key bs) (macZ_length _ _))
  clear tab hA hB hkl hbl ba hTs
  go_enter Tryd.func7, Tryd.ntmps7
  go_wp2_with fail
  refine (code_any a n c key _ 1 1 [bs] _ (HA.out.below Hba.out) HTs.out (by omega) (by omega) (by simp only [sumLen, List.map_cons, List.map_nil, List.sum_cons, List.sum_nil]; have := Hbl.out; omega) (Htab.out.below Hba.out)).mono ?_
  rintro e' w1 ⟨rfl, b1⟩
  rw [show ([bs] : List (List Int)).flatten = bs by simp]
  have Hb1 := hid (Below.on Hba.out b1)
  have hz1 := Hb1.out.size
  clear b1 HTs Hba
  go_wp2_with (
    refine wpList_store_blk rfl 26 _ _ rfl w1.heap.size _ rfl rfl _ 26 (Blk.new rfl (byteCells 32 []) _) 32 size_digest HzA.out (dsize Hlm.out) (ints_one _ _) ?_
    intro w2 b2 k2
    have Hb2 := hid (b2.below (Hb1.out.alloc hz1 _) (by rw [World.size_alloc]; omega) hz1)
    have Hk2 := hid k2
    clear b2 k2)
  refine (refsum_any a n c key w2 (HA.out.below Hb2.out) (by omega)).mono ?_
  rintro e' w3 ⟨rfl, b3⟩
  have Hb3 := hid (Below.on Hb2.out b3)
  have Hk3 := hid (Hk2.out.below b3)
  have hz3 := Hb3.out.size
  have hlt3 := Hk3.out.lt
  clear b3 Hk2
  generalize w1.heap.size = g1 at *
  go_wp2_with (
    refine wpList_store_blk rfl 26 _ _ rfl w3.heap.size _ rfl rfl _ 26 (Blk.new rfl (byteCells 32 []) _) 32 size_digest HzA.out (dsize Hls.out) (ints_one _ _) ?_
    intro w4 b4 k4
    have Hb4 := hid (b4.below (Hb3.out.alloc hz3 _) (by rw [World.size_alloc]; omega) hz3)
    have Hk4 := hid (b4.blk (Hk3.out.old _) (by omega))
    have Hks4 := hid k4
    clear b4 k4 Hk3)
  generalize w3.heap.size = g3 at *
  simp only [Act.put]
  refine wp_region_flow 10 [0, 1, 2] [3] [(.b 3, [4, 5, 6, 7, 8, 9], [])] (by kernel_rfl) (by kernel_rfl) ?_
  apply Exists.intro
  refine ⟨fun w0 hb0 hF0 => ?_, ?_⟩
  · have xK : ∀ w', (∃ x : Ext w0, w' = x.at_) → ∃ T, Blk w' g1 ((macZ key bs).map (Value.int .u8)).toArray T := fun w' ⟨x, hx⟩ => ⟨_, hx ▸ (Hk4.out.below hb0).below x.same⟩
    simp only [pick, List.getElem?_toArray, List.getElem?_cons_succ, List.getElem?_cons_zero, Option.toList_some, List.cons_append, List.nil_append]
    repeat (first | (go_big_quiet_want; refine quiet_load_blk 26 _ rfl g1 rfl _ xK _ Tryd.underlying26 rfl 32 size_digest (dsize Hlm.out) ?_; go_big_quiet_on; simp only [Act.put, List.setIfInBounds_toArray, List.set_cons_zero, List.set_cons_succ]) | go_big_quiet_step (fail))
    exact wpQuiet_nil rfl
  refine AlChk.one rfl (fun b => .slice (some ⟨b, 0, none⟩) 1 1) (.cells #[.slice b k e] 29 (0, 0)) rfl (fun w9 hb9 hF9 => by go_simp) ?_
  refine AlChk.nil ?_
  refine Walk.blk rfl (fun b => .slice (some ⟨b, 0, none⟩) 1 1) (.cells #[.slice b k e] 29 (0, 0)) (by simp) ?_
  intro b9 w9 hb9 hF9 hge9 _
  apply Exists.intro
  refine ⟨fun w10 hb10 hF10 => ?_, ?_⟩
  · have k10 : Blk w10 b9 #[.slice b k e] 29 := hF10.2
    have hbw := Below.on Hb4.out hb10
    have hs := fun x : Ext w10 => code_any (some ⟨g3, 0, none⟩) 32 32 (sumZ key) (some ⟨b9, 0, none⟩) 1 1 [bs] x.at_ (TextAt.of_ints ((Hks4.out.below hb10).below x.same) Hls.out (by omega) Hss.out) (TextsAt.of_blk (k10.below x.same) rfl (Nat.le_refl _) (by omega) fun j hj => by
      obtain rfl : j = 0 := by omega
      exact ⟨_, _, _, rfl, (HB.out.below hbw).below x.same⟩) (by omega) (by omega) (by simp only [sumLen, List.map_cons, List.map_nil, List.sum_cons, List.sum_nil]; have := Hbl.out; omega) ((Htab.out.below hbw).below x.same)
    rw [show ([bs] : List (List Int)).flatten = bs by simp, Hsame.out] at hs
    have hkn := fun x : Ext w10 => knows02 x.at_ ((Htab.out.below hbw).below x.same)
    have q := Hq.out
    simp only [pick, List.getElem?_toArray, List.getElem?_cons_succ, List.getElem?_cons_zero, Option.toList_some, List.cons_append, List.nil_append, Act.put, List.setIfInBounds_toArray, List.set_cons_zero, List.set_cons_succ]
    repeat (go_big_quiet_step (first | (go_at_call 21; exact Calls.ext (hs _)) | (go_at_call 20; exact Calls.ext (hkn _))))
    exact wpQuiet_nil rfl
  refine AlChk.nil ?_
  refine Walk.fin fun w11 h11 _ _ => ?_
  simp only [List.drop_succ_cons, List.drop_zero]
  go_wp2_with fail
  go_returns
  exact ⟨rfl, Below.on Hb4.out h11⟩

set_option maxHeartbeats 4000000 in
set_option maxRecDepth 100000 in
theorem macKeys_small (a : Option Addr) (n c : Nat) (key : List Int) (b : Option Addr) (k e : Nat) (bs : List Int) (m : Int) (w : World) (tab : ShaTab w) (hA : TextAt w a n c key) (hB : TextAt w b k e bs) (hk : k ≤ 1000) (hn64 : n ≤ 64) (hm : 0 ≤ m ∧ m < 256) :
    Calls Tryd.prog 7 #[.slice a n c, .slice b k e, .int .u8 m] w fun e w' => e = .returned (.bool true) ∧ Below w.heap.size w w' := by
  have q1 := hA.le
  have q2 := hA.max
  have q3 := hB.le
  have q4 := hB.max
  have hkl := hA.length
  have hbl := hB.length
  obtain ⟨hm0, hm1⟩ := hm
  obtain ⟨j, hj⟩ : ∃ j : Nat, m % (65 - (n : Int)) = j := ⟨(m % (65 - (n : Int))).toNat, by have := Int.emod_nonneg m (show (65 - (n : Int)) ≠ 0 by omega); omega⟩
  have hjl : n + j ≤ 64 := by have := Int.emod_lt_of_pos m (show 0 < 65 - (n : Int) by omega); omega
  have Hj := hid hj
  have Htab := hid tab
  have HA := hid hA
  have HB := hid hB
  have Hbl := hid hbl
  have Hkl := hid hkl
  have HzA := hid zsize
  have ba := (Below.refl w.heap.size w).alloc (Nat.le_refl _) (.cells #[.slice b k e] 29 (0, 0))
  have hTs : TextsAt (w.alloc (.cells #[.slice b k e] 29 (0, 0))) (some ⟨w.heap.size, 0, none⟩) 1 1 [bs] :=
    TextsAt.of_blk (Blk.new rfl _ _) rfl (Nat.le_refl _) (by omega) fun j hj => by
      obtain rfl : j = 0 := by omega
      exact ⟨_, _, _, rfl, HB.out.below ba⟩
  have Hba := hid ba
  have HTs := hid hTs
  have Hsame : Hid (macZ (key ++ List.replicate j 0) bs = macZ key bs) := hid (macZ_block (blockZ_zeros (by omega)) bs)
  have Hlm := hid (macZ_length key bs)
  have Hq := hid (eqD_self (macZ key bs) (macZ_length _ _))
  obtain ⟨i0, hi, hz0, hzz1, hzz2⟩ := info_parts info_byte
  clear tab hA hB hkl hbl ba hTs hj
  go_enter Tryd.func7, Tryd.ntmps7
  go_wp2_with fail
  refine (code_any a n c key _ 1 1 [bs] _ (HA.out.below Hba.out) HTs.out (by omega) (by omega) (by simp only [sumLen, List.map_cons, List.map_nil, List.sum_cons, List.sum_nil]; have := Hbl.out; omega) (Htab.out.below Hba.out)).mono ?_
  rintro e' w1 ⟨rfl, b1⟩
  rw [show ([bs] : List (List Int)).flatten = bs by simp]
  have Hb1 := hid (Below.on Hba.out b1)
  have hz1 := Hb1.out.size
  clear b1 HTs Hba
  go_wp2_with (
    refine wpList_store_blk rfl 26 _ _ rfl w1.heap.size _ rfl rfl _ 26 (Blk.new rfl (byteCells 32 []) _) 32 size_digest HzA.out (dsize Hlm.out) (ints_one _ _) ?_
    intro w2 b2 k2
    have Hb2 := hid (b2.below (Hb1.out.alloc hz1 _) (by rw [World.size_alloc]; omega) hz1)
    have Hk2 := hid k2
    clear b2 k2)
  generalize w1.heap.size = g1 at *
  simp only [Hj.out]
  refine FlowB.wp_region_typed w2.heap.size 5 14 [0, 2, 4, 6] [7] [(.c 1, [], []), (.c 3, [], []), (.c 5, [], []), (.b 7, [], []), (.c 8, [9, 10, 11, 12, 13], [])] (by kernel_rfl) (by kernel_rfl) ?_
  apply Exists.intro
  refine ⟨fun w0 hb0 hF0 => ?_, ?_⟩
  · have hb0 := hb0.below (Nat.le_refl _)
    have xK : ∀ w', (∃ x : Ext w0, w' = x.at_) → ∃ T, Blk w' g1 ((macZ key bs).map (Value.int .u8)).toArray T := fun w' ⟨x, hx⟩ => ⟨_, hx ▸ (Hk2.out.below hb0).below x.same⟩
    simp only [pick, List.getElem?_toArray, List.getElem?_cons_succ, List.getElem?_cons_zero, Option.toList_some, List.cons_append, List.nil_append]
    repeat (first | (go_big_quiet_want; refine quiet_load_blk 26 _ rfl g1 rfl _ xK _ Tryd.underlying26 rfl 32 size_digest (dsize Hlm.out) ?_; go_big_quiet_on; simp only [Act.put, List.setIfInBounds_toArray, List.set_cons_zero, List.set_cons_succ]) | go_big_quiet_step (fail))
    exact wpQuiet_nil rfl
  refine FlowB.AlChk.one rfl (fun b => .slice (some ⟨b, 0, none⟩) 1 1) (.cells #[.slice b k e] 29 (0, 0)) rfl (FlowB.st_typed _ _ _ (by decide)) (fun w9 hb9 hF9 => by go_simp) ?_
  refine FlowB.AlChk.nil ?_
  refine FlowB.Walk.does rfl (fun v w' => ∃ g, v = .slice (some ⟨g, 0, none⟩) 0 0 ∧ w2.heap.size ≤ g) (fun v w' => ∀ g, v = .slice (some ⟨g, 0, none⟩) 0 0 → Blk w' g #[] 5) (fun v w' w'' _ h _ => h) (fun v w' w'' h k g hg => (h g hg).below k) rfl (fun w5 hb5 hF5 _ => ?_) ?_
  · refine ⟨.slice (some ⟨w5.heap.size, 0, none⟩) 0 0, w5.alloc (.cells #[] 5), by go_simp, (FlowB.rel_typed _ _).of ((Below.refl _ _).alloc (Nat.le_refl _) _), ⟨w5.heap.size, rfl, hb5.size⟩, fun g hg => ?_⟩
    injection hg with h1
    injection h1 with h1
    injection h1 with h1
    subst h1
    exact Blk.new rfl _ _
  rintro v w5 hb5 hF5 ⟨gE, rfl, hgE⟩
  apply Exists.intro
  refine ⟨fun w4 hb4 hF4 => wpQuiet_nil rfl, ?_⟩
  refine FlowB.AlChk.nil ?_
  refine FlowB.Walk.does rfl (fun v w' => True) (fun v w' => OwnB w' w2.heap.size 5 v key) (fun v w' w'' _ h _ => h) (fun v w' w'' h k => h.below k) rfl (fun w6 hb6 hF6 hG6 => ?_) ?_
  · have own : OwnB w6 w2.heap.size 5 (.slice (some ⟨gE, 0, none⟩) 0 0) [] := OwnB.of_blk (bs := []) (hG6 gE rfl) hgE rfl (by omega) (by simp)
    obtain ⟨v', w', hr, h2, h3, h4⟩ := run_append_text (P := Tryd.prog) 29 Tryd.underlying29 hi hz0 hzz1 hzz2 own (HA.out.below (Below.on Hb2.out (hb6.below (Nat.le_refl _)))) (by simp; omega) hb6.size
    refine ⟨v', w', FlowB.exec_append rfl rfl rfl hr, FlowB.Typed.of_grown h3 (fun q hq => ?_), trivial, by simpa using h2⟩
    simp only [Value.ownBlock, Option.some.injEq] at hq
    subst hq
    exact ⟨hgE, _, _, hG6 gE rfl⟩
  rintro v6 w6 hb6 hF6 _
  apply Exists.intro
  refine ⟨fun w4 hb4 hF4 => wpQuiet_nil rfl, ?_⟩
  refine FlowB.AlChk.nil ?_
  refine FlowB.Walk.does rfl (fun v w' => True) (fun v w' => OwnB w' w2.heap.size 5 v (key ++ List.replicate j 0)) (fun v w' w'' _ h _ => h) (fun v w' w'' h k => h.below k) rfl (fun w7 hb7 hF7 hG7 => ?_) ?_
  · obtain ⟨v', w', hr, h2, h3, h4⟩ := run_append_zeros (P := Tryd.prog) (tn := 3) 29 Tryd.underlying29 Tryd.underlying3 hi hz0 hzz1 hzz2 hG7 j (by have := Hkl.out; omega) hb7.size
    refine ⟨v', w', FlowB.exec_append rfl rfl rfl hr, FlowB.Typed.of_grown h3 (fun q hq => ?_), trivial, h2⟩
    refine ⟨(hG7.lt q hq).1, ?_⟩
    obtain ⟨⟨_, ⟨h, _⟩ | ⟨g, cap, cur, he, _, hh, _⟩⟩, _⟩ := hG7
    · rw [h] at hq; cases hq
    · rw [he] at hq
      simp only [Value.ownBlock, Option.some.injEq] at hq
      subst hq
      exact ⟨_, _, hh⟩
  rintro v7 w7 hb7 hF7 _
  apply Exists.intro
  refine ⟨fun w4 hb4 hF4 => wpQuiet_nil rfl, ?_⟩
  refine FlowB.AlChk.nil ?_
  refine FlowB.Walk.blk rfl (fun b => .slice (some ⟨b, 0, none⟩) 1 1) (.cells #[.slice b k e] 29 (0, 0)) (by simp) ?_
  intro b8 w8 hb8 hF8 hge8 _
  apply Exists.intro
  refine ⟨fun w4 hb4 hF4 => wpQuiet_nil rfl, ?_⟩
  refine FlowB.AlChk.nil ?_
  refine FlowB.Walk.call rfl 21 #[v7, .slice (some ⟨b8, 0, none⟩) 1 1] (fun v w' => v = .agg ((macZ key bs).map (Value.int .u8)).toArray) (fun _ _ => True) (fun v w' w'' _ h _ => h) (fun v w' w'' _ _ => trivial) rfl (fun w9 hb9 hF9 hG9 => ⟨by go_simp, ?_⟩) ?_
  · have k9 : Blk w9 b8 #[.slice b k e] 29 := hF9.2
    have hbw := Below.on Hb2.out (hb9.below (Nat.le_refl _))
    obtain ⟨aT, cT, rfl, hT, _⟩ := hG9.text
    have hl9 : (key ++ List.replicate j 0).length ≤ 64 := by rw [List.length_append, List.length_replicate, Hkl.out]; omega
    refine (code_any aT _ cT _ (some ⟨b8, 0, none⟩) 1 1 [bs] w9 hT (TextsAt.of_blk k9 rfl (Nat.le_refl _) (by omega) fun j hj => by
      obtain rfl : j = 0 := by omega
      exact ⟨_, _, _, rfl, HB.out.below hbw⟩) (by omega) (by omega) (by simp only [sumLen, List.map_cons, List.map_nil, List.sum_cons, List.sum_nil]; have := Hbl.out; omega) (Htab.out.below hbw)).mono ?_
    rintro e' w10 ⟨rfl, b10⟩
    rw [show ([bs] : List (List Int)).flatten = bs by simp, Hsame.out]
    exact ⟨_, rfl, (FlowB.rel_typed _ _).of b10, rfl, trivial⟩
  rintro v9 w9 hb9 hF9 rfl
  apply Exists.intro
  refine ⟨fun w10 hb10 hF10 => ?_, ?_⟩
  · have hbw := Below.on Hb2.out (hb10.below (Nat.le_refl _))
    have hkn := fun x : Ext w10 => knows02 x.at_ ((Htab.out.below hbw).below x.same)
    have q := Hq.out
    simp only [pick, List.getElem?_toArray, List.getElem?_cons_succ, List.getElem?_cons_zero, Option.toList_some, List.cons_append, List.nil_append, Act.put, List.setIfInBounds_toArray, List.set_cons_zero, List.set_cons_succ]
    repeat (go_big_quiet_step (first | (go_at_call 20; exact Calls.ext (hkn _))))
    exact wpQuiet_nil rfl
  refine FlowB.AlChk.nil ?_
  refine FlowB.Walk.fin fun w11 h11 _ _ => ?_
  simp only [List.drop_succ_cons, List.drop_zero]
  go_wp2_with fail
  go_returns
  exact ⟨rfl, Below.on Hb2.out (h11.below (Nat.le_refl _))⟩
end Go.Proofs.YtkiaeepdpmcafaaDoor
