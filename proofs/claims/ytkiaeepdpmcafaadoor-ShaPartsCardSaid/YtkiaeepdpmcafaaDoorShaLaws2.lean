/-
  ShaWrites and ShaParts: the walks of their texts.
-/
import Derived.Test.YtkiaeepdpmcafaaDoorShaLaws
import Derived.Test.YtkiaeepdpmcafaaDoorFlow
namespace Go.Proofs.YtkiaeepdpmcafaaDoor
open Go.ChangeShapes Go.WideShapes Go.ChangeAt Go.RowKit

theorem shaWrites_not (a : Option Addr) (n c : Nat) (ts : List (List Int)) (w : World) (tab : ShaTab w) (hT : TextsAt w a n c ts) (hr : ∀ t ∈ ts, t.length ≤ 140737488351232) (hf : fewB ts 1000 = false) :
    Calls Tryd.prog 4 #[.slice a n c] w fun e w' => e = .returned (.bool true) ∧ Below w.heap.size w w' := by
  have h := few_any a n c ts 1000 w hT hr
  rw [hf] at h
  have Htab := hid tab
  clear tab
  go_enter Tryd.func4, Tryd.ntmps4
  go_wp2_with (first | (go_at_call 12; refine h.mono ?_; rintro e w1 ⟨rfl, rfl⟩) | (go_at_call 13; refine (knows01 _ Htab.out).mono ?_; rintro e w2 ⟨rfl, bel⟩))
  go_returns
  exact ⟨rfl, bel⟩

theorem ptr_ne (b : Nat) (w : World) : (binOp .eql 32 (.pointer (some ⟨b, 0, none⟩)) (.pointer none)).run Tryd.prog w = .ok (.bool false) w := by
  simp [go_sem]

set_option maxHeartbeats 4000000 in
set_option maxRecDepth 100000 in
theorem shaWrites_walk (a : Option Addr) (n c : Nat) (ts : List (List Int)) (w : World) (tab : ShaTab w) (hT : TextsAt w a n c ts) (hr : ∀ t ∈ ts, t.length ≤ 140737488351232) (hf : fewB ts 1000 = true) :
    Calls Tryd.prog 4 #[.slice a n c] w fun e w' => e = .returned (.bool true) ∧ Below w.heap.size w w' := by
  have h := few_any a n c ts 1000 w hT hr
  rw [hf] at h
  have hsl := (fewB_spec hf).1
  have hn0 := (fewB_spec hf).2
  have hn : n ≤ 100 := by have := hT.length; omega
  have hcn := hT.le
  have hcm := hT.max
  have Hfl := hid (flatten_length ts)
  have Hl := hid hT.length
  have Htab := hid tab
  have HT := hid hT
  have Hsl := hid hsl
  have hg0 := tab.lt
  have hg1 := tab.lt0
  have Hq := hid ptr_ne
  clear tab hT hf hr hsl hn0
  go_enter Tryd.func4, Tryd.ntmps4
  go_wp2_with (go_at_call 12; refine h.mono ?_; rintro e w1 ⟨rfl, rfl⟩)
  refine (new_any w Htab.out).mono ?_
  rintro e w2 ⟨ph, rfl, hph, hH, b2⟩
  have HB2 := hid b2
  have HH2 := hid hH
  clear b2 hH h
  go_wp2_with fail
  refine (write_none _ _).mono ?_
  rintro e w3 ⟨rfl, rfl⟩
  have q := Hq.out ph
  have hx : Hid (Below w.heap.size w (w2.alloc (Obj.cells #[Value.int IntKind.u8 1] 5)) ∧ HashAt (w2.alloc (Obj.cells #[Value.int IntKind.u8 1] 5)) ph 63 []) := hid ⟨HB2.out.alloc HB2.out.size _, HH2.out.below ((Below.refl _ _).alloc (Nat.le_refl _) _)⟩
  generalize w2.alloc (Obj.cells #[Value.int IntKind.u8 1] 5) = w3 at *
  clear HB2 HH2
  go_wp2_with fail
  refine (hashSum_none w3 (Htab.out.below hx.out.1)).mono ?_
  rintro e w4 ⟨rfl, b4⟩
  have HB4 := hid (Below.on hx.out.1 b4)
  have HH4 := hid (hx.out.2.below b4)
  clear b4 hx
  go_wp2_with fail
  refine (refsum_any none 0 0 [] w4 TextAt.nil (by omega)).mono ?_
  rintro e w5 ⟨rfl, b5⟩
  have HB5 := hid (Below.on HB4.out b5)
  have HH5 := hid (HH4.out.below b5)
  have q2 := neD_self (sumZ []) (sumZ_length _)
  generalize (List.map (Value.int IntKind.u8) (sumZ [])).toArray = D at *
  clear b5 HB4 HH4
  go_wp2_with fail
  clear q q2
  go_loopw [5] (fun v wr => ∃ i : Nat, i ≤ n ∧ v = .int .i64 i ∧ HashAt wr ph 63 (ts.take i).flatten ∧ Below w.heap.size w wr) (fun v _ => n - (intOf v).toNat)
  case atStart => exact ⟨0, by omega, rfl, by simpa using HH5.out, HB5.out⟩
  case round =>
    clear HB5 HH5
    obtain ⟨i, hi, rfl, hH, bel⟩ := hrel
    have Hbel := hid bel
    have HH := hid hH
    have hszr := bel.size
    have hphl := hH.lt
    have Hfi := hid (flatten_length (ts.take i))
    have Hsi := hid (sumLen_le ts i)
    clear bel hH
    by_cases hlt : i < n
    · have hcut : ∀ w, (Instr.slice 22 (.slice a n c) none (some (.int .i64 i)) none).run Tryd.prog w = .ok (.slice a i c) w := fun w => by
        have := run_cut_h (P := Tryd.prog) (t := 22) (e := 29) Tryd.underlying22 (by kernel_rfl) a n c i w (by omega) (by omega)
        simpa using this
      obtain ⟨r, off, a', l', c', rfl, hrl, hc, hTk⟩ := HT.out.at_ i hlt
      have hcw : wr.cell? ⟨r, off + i, none⟩ = some (.slice a' l' c') := (Hbel.out.cell (p := ⟨r, off + i, none⟩) hrl).trans hc
      have HTk := hid hTk
      have hcl := hTk.length
      have HF := hid (flatten_take ts i (by have := Hl.out; omega))
      have hSl : (ts.take i).flatten.length + l' ≤ 1000 := by
        have e1 := sumLen_take ts i (by have := Hl.out; omega)
        have e2 := sumLen_le ts (i + 1)
        have e3 := Hfi.out
        have := Hsl.out
        omega
      have HSl := hid hSl
      have Hqn := hid (neD_self (sumZ (ts.take i).flatten) (sumZ_length _))
      clear hc hTk hSl hcl
      go_wp2_with fail
      refine wp_region_flow 8 [0, 1, 2, 3, 4] [] [(.c 5, [6, 7], [])] (by kernel_rfl) (by kernel_rfl) ?_
      apply Exists.intro
      refine ⟨fun w0 hb0 hF0 => ?_, ?_⟩
      · have hs := fun e : Ext w0 => hashSum_any ph _ e.at_ ((HH.out.below hb0).below e.same) (by have := HSl.out; omega) ((Htab.out.below (Below.on Hbel.out hb0)).below e.same)
        simp only [pick, List.getElem?_toArray, List.getElem?_cons_succ, List.getElem?_cons_zero, Option.toList_some, List.cons_append, List.nil_append]
        repeat (go_big_quiet_step (first | (go_at_call 19; exact Calls.ext (hs _))))
        exact wpQuiet_nil rfl
      refine AlChk.nil ?_
      refine Walk.call rfl 16 #[.slice (some ⟨r, off, none⟩) i c] (fun v w' => OwnB w' w.heap.size 5 v (ts.take i).flatten) (fun v w' w'' h k => h.below k) rfl (fun w1 hb1 hF1 => ⟨by go_simp, ?_⟩) ?_
      · have b1 := Below.on Hbel.out hb1
        refine (join_any _ i c (ts.take i) w1 ((HT.out.below b1).take i (by omega)) (by have := Hsl.out; have := Hsi.out; omega)).mono ?_
        rintro e w4 ⟨v, rfl, ho, b4⟩
        exact ⟨v, rfl, b4, ho.re b1.size⟩
      rintro v w0 hb0 hF0 ho
      obtain ⟨a4, c4, rfl, hT4, _⟩ := ho.text
      generalize hL4 : (ts.take i).flatten.length = L4 at *
      have HL4 := hid hL4
      clear hT4 ho hL4
      apply Exists.intro
      refine ⟨fun w1 hb1 hF1 => ?_, ?_⟩
      · have hs := fun e : Ext w1 => refsum_any a4 L4 c4 (ts.take i).flatten e.at_ (by
          obtain ⟨a5, c5, he, hT5, _⟩ := (hF1.2.below e.same).text
          rw [HL4.out] at he hT5
          injection he with e1 e2 e3
          subst e1 e3
          exact hT5) (by have := HSl.out; omega)
        have qn := Hqn.out
        simp only [pick, List.getElem?_toArray, List.getElem?_cons_succ, List.getElem?_cons_zero, Option.toList_some, List.cons_append, List.nil_append, Act.put, List.setIfInBounds_toArray, List.set_cons_zero, List.set_cons_succ]
        repeat (go_big_quiet_step (first | (go_at_call 15; exact Calls.ext (hs _))))
        exact wpQuiet_nil rfl
      refine AlChk.nil ?_
      refine Walk.fin fun w9 hb9 hF9 _ => ?_
      simp only [List.drop_succ_cons, List.drop_zero]
      have HB9 := hid (Below.on Hbel.out hb9)
      have HH9 := hid (HH.out.below hb9)
      have hc9 : w9.cell? ⟨r, off + i, none⟩ = some (.slice a' l' c') := (hb9.cell (p := ⟨r, off + i, none⟩) (show r < wr.heap.size from Nat.lt_of_lt_of_le hrl hszr)).trans hcw
      have hsz9 := HB9.out.size
      clear hb9 hF9 Hbel HH hcw hcut
      go_wp2_with fail
      refine (write_any ph 63 (ts.take i).flatten a' l' c' (ts.getD i []) w9 HH9.out (HTk.out.below HB9.out) (by have := HSl.out; have := HL4.out; omega) (HTk.out.ne (by omega)) (Htab.out.below HB9.out) (by omega) (by omega)).mono ?_
      rintro e w10 ⟨rfl, b10, h10⟩
      rw [← HF.out] at h10
      have H10 := hid (And.intro h10 (b10.below HB9.out HB9.out.size hph))
      clear b10 h10 HB9 HH9
      go_wp2_with fail
      exact ⟨⟨i + 1, by omega, by go_num, H10.out.1, H10.out.2⟩, by simp [intOf]; omega⟩
    · have hin : i = n := by omega
      have hft : (ts.take i).flatten = ts.flatten := by rw [List.take_of_length_le (by have := Hl.out; omega)]
      rw [hft] at HH
      have Hin := hid hin
      have hb1 : ts.flatten.length ≤ 1000 := by have := Hfl.out; have := Hsl.out; omega
      have Hb1 := hid hb1
      have Hqe := hid (eqD_self (sumZ ts.flatten) (sumZ_length _))
      clear hin hft hb1
      go_wp2_with fail
      refine (hashSum_any ph _ wr HH.out (by have := Hb1.out; omega) (Htab.out.below Hbel.out)).mono ?_
      rintro e w4 ⟨rfl, b4⟩
      have HB4 := hid (Below.on Hbel.out b4)
      clear b4
      go_wp2_with fail
      refine (join_any a n c ts w4 (HT.out.below HB4.out) (by have := Hsl.out; omega)).mono ?_
      rintro e w5 ⟨v, rfl, own, b5⟩
      have HB5 := hid (Below.on HB4.out b5)
      obtain ⟨av, cv, rfl, hTv, _⟩ := own.text
      generalize hL : ts.flatten.length = L at *
      have HL := hid hL
      have HTv := hid hTv
      clear b5 own hTv HB4 hL
      go_wp2_with fail
      refine (refsum_any av L cv ts.flatten w5 HTv.out (by have := Hb1.out; omega)).mono ?_
      rintro e w6 ⟨rfl, b6⟩
      have HB6 := hid (Below.on HB5.out b6)
      have q := Hqe.out
      clear b6 HTv HB5
      go_wp2_with fail
      refine (knows01 _ (Htab.out.below HB6.out)).mono ?_
      rintro e w7 ⟨rfl, b7⟩
      have HB7 := hid (Below.on HB6.out b7)
      clear b7 HB6
      go_wp2_with fail
      go_returns
      exact ⟨rfl, HB7.out⟩

theorem shaParts_not (a : Option Addr) (n c : Nat) (bs : List Int) (x y : Int) (w : World) (tab : ShaTab w) (hT : TextAt w a n c bs) (hn : 2000 < n) :
    Calls Tryd.prog 5 #[.slice a n c, .int .u16 x, .int .u16 y] w fun e w' => e = .returned (.bool true) ∧ Below w.heap.size w w' := by
  have hm := hT.max
  have hle := hT.le
  have Htab := hid tab
  clear tab hT
  go_enter Tryd.func5, Tryd.ntmps5
  go_wp2_with (first | (go_at_call 13; refine (knows01 _ Htab.out).mono ?_; rintro e w2 ⟨rfl, bel⟩))
  go_returns
  exact ⟨rfl, bel⟩

set_option maxHeartbeats 4000000 in
set_option maxRecDepth 100000 in
theorem shaParts_walk (a : Option Addr) (n c : Nat) (bs : List Int) (x y : Int) (w : World) (tab : ShaTab w) (hT : TextAt w a n c bs) (hn : n ≤ 2000) (hx : 0 ≤ x ∧ x < 65536) (hy : 0 ≤ y ∧ y < 65536) :
    Calls Tryd.prog 5 #[.slice a n c, .int .u16 x, .int .u16 y] w fun e w' => e = .returned (.bool true) ∧ Below w.heap.size w w' := by
  have hle := hT.le
  have hm := hT.max
  have hbl := hT.length
  obtain ⟨i, hi⟩ : ∃ i : Nat, x % ((n : Int) + 1) = i := ⟨(x % ((n : Int) + 1)).toNat, by have := Int.emod_nonneg x (show ((n : Int) + 1) ≠ 0 by omega); omega⟩
  have hil : i ≤ n := by have := Int.emod_lt_of_pos x (show 0 < (n : Int) + 1 by omega); omega
  obtain ⟨j, hj⟩ : ∃ j : Nat, y % ((n : Int) - i + 1) = j := ⟨(y % ((n : Int) - i + 1)).toNat, by have := Int.emod_nonneg y (show ((n : Int) - i + 1) ≠ 0 by omega); omega⟩
  have hjl : i + j ≤ n := by have := Int.emod_lt_of_pos y (show 0 < (n : Int) - i + 1 by omega); omega
  obtain ⟨k, hk⟩ : ∃ k, i + j = k := ⟨_, rfl⟩
  obtain ⟨hx0, hx1⟩ := hx
  obtain ⟨hy0, hy1⟩ := hy
  have hik : i ≤ k := by omega
  have hkn : k ≤ n := by omega
  have Hbl := hid hbl
  have Htab := hid tab
  have HT := hid hT
  have Hq := hid ptr_ne
  have hg0 := tab.lt
  have hg1 := tab.lt0
  have s1 : (Tryd.prog.info? 5).map (·.size) = some 1 := by kernel_rfl
  have c1 : ∀ w, (Instr.slice 29 (.slice a n c) none (some (.int .i64 i)) none).run Tryd.prog w = .ok (.slice a i c) w := fun w => by
    have := run_cut_h (P := Tryd.prog) (t := 29) (e := 5) Tryd.underlying29 s1 a n c i w (by omega) (by omega)
    simpa using this
  have c2 : ∀ w, (Instr.slice 29 (.slice a n c) (some (.int .i64 i)) none none).run Tryd.prog w = .ok (.slice (cutA a i c) (n - i) (c - i)) w := fun w => by
    have := run_cut_l (P := Tryd.prog) (t := 29) (e := 5) Tryd.underlying29 s1 a n c i w (by omega) (by omega)
    simpa using this
  have c3 : ∀ w, (Instr.slice 29 (.slice a n c) (some (.int .i64 i)) (some (.int .i64 k)) none).run Tryd.prog w = .ok (.slice (cutA a i c) (k - i) (c - i)) w := fun w => by
    have := run_cut_lh (P := Tryd.prog) (t := 29) (e := 5) Tryd.underlying29 s1 a n c i k w (by omega) (by omega) (by omega)
    simpa using this
  have c4 : ∀ w, (Instr.slice 29 (.slice a n c) (some (.int .i64 k)) none none).run Tryd.prog w = .ok (.slice (cutA a k c) (n - k) (c - k)) w := fun w => by
    have := run_cut_l (P := Tryd.prog) (t := 29) (e := 5) Tryd.underlying29 s1 a n c k w (by omega) (by omega)
    simpa using this
  have T1 := hid (hT.to i hil)
  have T2 := hid (hT.from i hil)
  have T3 := hid (hT.cut i k hik hkn)
  have T4 := hid (hT.from k hkn)
  have hij : (i : Int) + (j : Int) = (k : Int) := by omega
  clear tab hT hbl s1 hk
  go_enter Tryd.func5, Tryd.ntmps5
  go_wp2_with fail
  simp only [hi]
  have Hi := hid hi
  clear hi hj hij
  refine (new_any w Htab.out).mono ?_
  rintro e w2 ⟨ph, rfl, hph, hH, b2⟩
  have HB2 := hid b2
  have HH2 := hid hH
  have q := Hq.out ph
  clear b2 hH
  go_wp2_with fail
  refine (write_any ph 63 [] a i c (bs.take i) w2 HH2.out (T1.out.below HB2.out) (by simp only [List.length_nil]; omega) (T1.out.ne hph) (Htab.out.below HB2.out) (by omega) (by omega)).mono ?_
  rintro e w3 ⟨rfl, b3, hH⟩
  rw [List.nil_append] at hH
  have HB3 := hid (b3.below HB2.out HB2.out.size hph)
  have HH3 := hid hH
  clear b3 hH HB2 HH2 q
  go_wp2_with fail
  refine (write_any ph 63 (bs.take i) _ _ _ (bs.drop i) w3 HH3.out (T2.out.below HB3.out) (by rw [List.length_take]; omega) (T2.out.ne hph) (Htab.out.below HB3.out) (by omega) (by omega)).mono ?_
  rintro e w4 ⟨rfl, b4, hH⟩
  rw [List.take_append_drop] at hH
  have HB4 := hid (b4.below HB3.out HB3.out.size hph)
  have HH4 := hid hH
  have hsz4 := HB4.out.size
  have Hqe := hid (eqD_self (sumZ bs) (sumZ_length _))
  have HbS : Hid (bs.length < 1152921504606846976) := hid (by have := Hbl.out; omega)
  clear b4 hH HB3 HH3
  go_wp2_with fail
  refine wp_region_flow 28 [0, 3, 4, 5, 6, 7, 8, 9, 10, 11, 12] [1, 13] [(.b 1, [2], []), (.b 13, [14, 15, 16, 17, 20], [18]), (.b 18, [19, 21, 22, 23, 24, 25, 26, 27], [])] (by kernel_rfl) (by kernel_rfl) ?_
  apply Exists.intro
  refine ⟨fun w0 hb0 hF0 => ?_, ?_⟩
  · simp only [pick, List.getElem?_toArray, List.getElem?_cons_succ, List.getElem?_cons_zero, Option.toList_some, List.cons_append, List.nil_append]
    repeat (go_big_quiet_step (fail))
    exact wpQuiet_nil rfl
  refine AlChk.one rfl (fun b => .slice (some ⟨b, 0, none⟩) 1 1) (.cells #[.slice a n c] 29 (0, 0)) rfl (fun w0 hb0 hF0 => by go_simp) ?_
  refine AlChk.one rfl (fun b => .slice (some ⟨b, 0, none⟩) 4 4) (.cells #[.slice a i c, .slice (cutA a i c) (k - i) (c - i), .slice none 0 0, .slice (cutA a k c) (n - k) (c - k)] 29 (0, 0)) rfl (fun w0 hb0 hF0 => by go_simp) ?_
  refine AlChk.nil ?_
  refine Walk.blk rfl (fun b => .slice (some ⟨b, 0, none⟩) 1 1) (.cells #[.slice a n c] 29 (0, 0)) (by simp) ?_
  intro b1 w0 hb0 hF0 hge1 hk1
  apply Exists.intro
  refine ⟨fun w1 hb1 hF1 => ?_, ?_⟩
  · have hk1 : Blk w1 b1 #[.slice a n c] 29 := hF1.2
    have hs := fun e : Ext w1 => sum_any (some ⟨b1, 0, none⟩) 1 1 [bs] e.at_ (TextsAt.of_blk (hk1.below e.same) rfl (Nat.le_refl _) (by omega) fun j hj => by
      obtain rfl : j = 0 := by omega
      exact ⟨_, _, _, rfl, (HT.out.below (Below.on HB4.out hb1)).below e.same⟩) (by simpa [sumLen] using HbS.out) ((Htab.out.below (Below.on HB4.out hb1)).below e.same)
    rw [show ([bs] : List (List Int)).flatten = bs by simp] at hs
    simp only [pick, List.getElem?_toArray, List.getElem?_cons_succ, List.getElem?_cons_zero, Option.toList_some, List.cons_append, List.nil_append, Act.put, List.setIfInBounds_toArray, List.set_cons_zero, List.set_cons_succ]
    repeat (go_big_quiet_step (first | (go_at_call 14; exact Calls.ext (hs _))))
    exact wpQuiet_nil rfl
  refine AlChk.nil ?_
  refine Walk.blk rfl (fun b => .slice (some ⟨b, 0, none⟩) 4 4) (.cells #[.slice a i c, .slice (cutA a i c) (k - i) (c - i), .slice none 0 0, .slice (cutA a k c) (n - k) (c - k)] 29 (0, 0)) (by simp) ?_
  intro b2 w0 hb0 hF0 hge2 hk2
  apply Exists.intro
  refine ⟨fun w2 hb2 hF2 => ?_, ?_⟩
  · have hk2 : Blk w2 b2 #[.slice a i c, .slice (cutA a i c) (k - i) (c - i), .slice none 0 0, .slice (cutA a k c) (n - k) (c - k)] 29 := hF2.2
    have hbw := Below.on HB4.out hb2
    have hfl : ([bs.take i, (bs.drop i).take (k - i), [], bs.drop k] : List (List Int)).flatten = bs := by
      simp only [List.flatten_cons, List.flatten_nil, List.append_nil, List.nil_append]
      rw [show bs.drop k = (bs.drop i).drop (k - i) by rw [List.drop_drop]; congr 1; omega, List.take_append_drop, List.take_append_drop]
    have hs := fun e : Ext w2 => sum_any (some ⟨b2, 0, none⟩) 4 4 [bs.take i, (bs.drop i).take (k - i), [], bs.drop k] e.at_ (TextsAt.of_blk (hk2.below e.same) rfl (Nat.le_refl _) (by omega) fun j hj => by
      match j, hj with
      | 0, _ => exact ⟨_, _, _, rfl, (T1.out.below hbw).below e.same⟩
      | 1, _ => exact ⟨_, _, _, rfl, (T3.out.below hbw).below e.same⟩
      | 2, _ => exact ⟨_, _, _, rfl, TextAt.nil⟩
      | 3, _ => exact ⟨_, _, _, rfl, (T4.out.below hbw).below e.same⟩) (by rw [← flatten_length, hfl]; exact HbS.out) ((Htab.out.below hbw).below e.same)
    rw [hfl] at hs
    have q := Hqe.out
    simp only [pick, List.getElem?_toArray, List.getElem?_cons_succ, List.getElem?_cons_zero, Option.toList_some, List.cons_append, List.nil_append, Act.put, List.setIfInBounds_toArray, List.set_cons_zero, List.set_cons_succ]
    repeat (go_big_quiet_step (first | (go_at_call 14; exact Calls.ext (hs _))))
    exact wpQuiet_nil rfl
  refine AlChk.one rfl (fun b => .slice (some ⟨b, 0, none⟩) 1 1) (.cells #[.slice a n c] 29 (0, 0)) rfl (fun w2 hb2 hF2 => by go_simp) ?_
  refine AlChk.nil ?_
  refine Walk.blk rfl (fun b => .slice (some ⟨b, 0, none⟩) 1 1) (.cells #[.slice a n c] 29 (0, 0)) (by simp) ?_
  intro b3 w0 hb0 hF0 hge3 hk3
  apply Exists.intro
  refine ⟨fun w3 hb3 hF3 => ?_, ?_⟩
  · have hk3 : Blk w3 b3 #[.slice a n c] 29 := hF3.2
    have hbw := Below.on HB4.out hb3
    have hs := fun e : Ext w3 => sum_any (some ⟨b3, 0, none⟩) 1 1 [bs] e.at_ (TextsAt.of_blk (hk3.below e.same) rfl (Nat.le_refl _) (by omega) fun j hj => by
      obtain rfl : j = 0 := by omega
      exact ⟨_, _, _, rfl, (HT.out.below hbw).below e.same⟩) (by simpa [sumLen] using HbS.out) ((Htab.out.below hbw).below e.same)
    rw [show ([bs] : List (List Int)).flatten = bs by simp] at hs
    have hh := fun e : Ext w3 => hashSum_any ph bs e.at_ ((HH4.out.below hb3).below e.same) HbS.out ((Htab.out.below hbw).below e.same)
    have hk := fun e : Ext w3 => knows01 e.at_ ((Htab.out.below hbw).below e.same)
    have q := Hqe.out
    simp only [pick, List.getElem?_toArray, List.getElem?_cons_succ, List.getElem?_cons_zero, Option.toList_some, List.cons_append, List.nil_append, Act.put, List.setIfInBounds_toArray, List.set_cons_zero, List.set_cons_succ]
    repeat (go_big_quiet_step (first | (go_at_call 14; exact Calls.ext (hs _)) | (go_at_call 19; exact Calls.ext (hh _)) | (go_at_call 13; exact Calls.ext (hk _))))
    exact wpQuiet_nil rfl
  refine AlChk.nil ?_
  refine Walk.fin fun w9 hb9 hF9 _ => ?_
  simp only [List.drop_succ_cons, List.drop_zero]
  go_wp2_with fail
  go_returns
  exact ⟨rfl, Below.on HB4.out hb9⟩
end Go.Proofs.YtkiaeepdpmcafaaDoor
