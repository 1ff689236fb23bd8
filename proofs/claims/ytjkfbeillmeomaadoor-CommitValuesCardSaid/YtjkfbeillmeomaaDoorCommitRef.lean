/-
  Contracts of commit's reference.
-/
import Derived.Test.YtjkfbeillmeomaaDoorCommit
namespace Go.Proofs.YtjkfbeillmeomaaDoor
open Go.ChangeShapes Go.WideShapes Go.ChangeAt Go.RowKit

set_option maxHeartbeats 4000000 in
set_option maxRecDepth 100000 in
theorem reftext_any (k : Int) (hk : 0 ≤ k ∧ k < 256) (pa : Option Addr) (pn pc : Nat) (d : List Int) (qa : Option Addr) (qn qc : Nat) (m : List Int) (w : World) (hP : TextAt w pa pn pc d) (hQ : TextAt w qa qn qc m) (hpn : pn ≤ 1000) (hqn : qn ≤ 140737488330000) :
    Calls Tryd.prog 113 #[.int .u8 k, .slice pa pn pc, .slice qa qn qc] w fun e w' => ∃ v, e = .returned v ∧ Below w.heap.size w w' ∧ TextV ([k] ++ (d ++ m)) v w' := by
  obtain ⟨i0, hi, hz0, hz1, hz2⟩ := info_parts info_byte
  have b1 := (Below.refl w.heap.size w).alloc (Nat.le_refl _) (.cells (([k] : List Int).map (Value.int .u8)).toArray 5 (0, 0))
  have HO := hid (OwnB.of_blk (w := w.alloc (.cells (([k] : List Int).map (Value.int .u8)).toArray 5 (0, 0))) (base := w.heap.size) (n := 1) (Blk.new rfl _ _) (Nat.le_refl _) rfl (by omega) (by simpa using hk))
  have HP := hid (hP.below b1)
  have hsz : w.heap.size ≤ (w.alloc (.cells (([k] : List Int).map (Value.int .u8)).toArray 5 (0, 0))).heap.size := b1.size
  have HQ := hid hQ
  have HP0 := hid hP
  have hle := hP.le
  have hmx := hP.max
  have hle2 := hQ.le
  have hmx2 := hQ.max
  have Hpl := hid hP.length
  have Hql := hid hQ.length
  have Hb := hid b1
  clear b1 hP hQ
  go_enter Tryd.func113, Tryd.ntmps113
  go_wp2_with (at_builtin; refine wpList_append_text rfl _ _ rfl Tryd.underlying81 hi hz0 hz1 hz2 rfl HO.out rfl HP.out (by simp only [List.length_cons, List.length_nil]; omega) hsz ?_)
  intro v5 w5 own5 _ b5
  have Ho5 := hid own5
  have Hb5 := hid (Hb.out.trans b5)
  have HQ5 := hid (HQ.out.below Hb5.out)
  have hs5 := Hb5.out.size
  clear own5 b5 HO HP Hb
  go_wp2_with (at_builtin; refine wpList_append_text rfl _ _ rfl Tryd.underlying81 hi hz0 hz1 hz2 rfl Ho5.out rfl HQ5.out (by simp only [List.length_cons, Hpl.out]; omega) hs5 ?_)
  intro v6 w6 own6 _ b6
  have Hf := hid (And.intro (Hb5.out.trans b6) (TextV.of_own own6))
  clear own6 b6
  go_wp2_with fail
  go_ret
  exact ⟨_, rfl, Hf.out⟩

set_option maxHeartbeats 4000000 in
set_option maxRecDepth 100000 in
theorem refwhole_any (v : Int) (hv0 : 0 ≤ v) (hv1 : v < 9223372036854775808) (a : Option Addr) (n c : Nat) (name : List Int) (w : World) (hT : TextAt w a n c name) (hn : n ≤ 1000) :
    Calls Tryd.prog 114 #[.slice a n c, .int .i64 v] w fun e w' => ∃ x, e = .returned x ∧ Below w.heap.size w w' ∧ TextV (be 8 v ++ name) x w' := by
  obtain ⟨i0, hi, hz0, hz1, hz2⟩ := info_parts info_byte
  have HT := hid hT
  have hle := hT.le
  have hmx := hT.max
  clear hT
  go_enter Tryd.func114, Tryd.ntmps114
  go_wp2_with fail
  refine (refnumber_own v 8 8 _ hv0 (by omega) rfl (by omega)).mono ?_
  rintro e w1 ⟨x, rfl, b1, o1⟩
  have Hb := hid b1
  have HO := hid o1
  have HT1 := hid (HT.out.below b1)
  have hs1 := b1.size
  clear b1 o1
  go_wp2_with (at_builtin; refine wpList_append_text rfl _ _ rfl Tryd.underlying81 hi hz0 hz1 hz2 rfl HO.out rfl HT1.out (by rw [be_length]; omega) hs1 ?_)
  intro v6 w6 own6 _ b6
  have Hf := hid (And.intro (Hb.out.trans b6) (TextV.of_own own6))
  clear own6 b6
  go_wp2_with fail
  go_ret
  exact ⟨_, rfl, Hf.out⟩

set_option maxHeartbeats 4000000 in
set_option maxRecDepth 100000 in
theorem refcfrom_any (nonce name : List Int) (v : Int) (a : Option Addr) (n c : Nat) (w : World) (hN : Dg nonce) (hT : TextAt w a n c name) (hn : n ≤ 200) (hv0 : 0 ≤ v) (hv1 : v < 9223372036854775808) :
    Calls Tryd.prog 59 #[(.agg (nonce.map (Value.int .u8)).toArray), .slice a n c, .int .i64 v] w fun e w' => e = .returned (.agg ((idxZ nonce v name).map (Value.int .u8)).toArray) ∧ Below w.heap.size w w' := by
  have HM : Hid (idxZ nonce v name = sumZ ([1] ++ (nonce ++ (be 8 v ++ name)))) := hid (by unfold idxZ; rfl)
  have HD := hid (Dg.idx nonce v name)
  have Hml := hid hT.length
  have hle := hT.le
  have hmx := hT.max
  have b1 := (Below.refl w.heap.size w).alloc (Nat.le_refl _) (.cells (nonce.map (Value.int .u8)).toArray 23 (0, 0))
  have b2 := b1.alloc b1.size (.cells (byteCells 32 []) 23 (0, 0))
  have K0 := hid ((Blk.new (w := w) (n := w.heap.size) rfl (nonce.map (Value.int .u8)).toArray 23).old (.cells (byteCells 32 []) 23 (0, 0)))
  have Kr0 := hid (Blk.new (w := (w.alloc (.cells (nonce.map (Value.int .u8)).toArray 23 (0, 0)))) (n := w.heap.size + 1) (by simp only [World.size_alloc]) (byteCells 32 []) 23)
  have Hb := hid b2
  have HzA := hid zsize
  have hbz := b2.size
  have Hbs := hid (show w.heap.size + 1 + 1 = ((w.alloc (.cells (nonce.map (Value.int .u8)).toArray 23 (0, 0))).alloc (.cells (byteCells 32 []) 23 (0, 0))).heap.size by simp only [World.size_alloc])
  have Kt := hid (hT.below b2)
  clear b1 b2 hT
  go_enter Tryd.func59, Tryd.ntmps59
  go_wp2_with fail
  refine wp_region_flow 6 [0, 1, 2] [] [(.c 3, [], []), (.c 4, [5], [])] (by kernel_rfl) (by kernel_rfl) ?_
  apply Exists.intro
  refine ⟨fun w0 hb0 hF0 => ?_, ?_⟩
  · simp only [pick, List.getElem?_toArray, List.getElem?_cons_succ, List.getElem?_cons_zero, Option.toList_some, List.cons_append, List.nil_append]
    repeat (go_big_quiet_step (fail))
    exact wpQuiet_nil rfl
  refine AlChk.nil ?_
  refine Walk.call rfl 114 #[.slice a n c, .int .i64 v] (TextV (be 8 v ++ name)) (fun v w' w'' h k => h.below k) rfl (fun w1 hb1 hF1 => ⟨by go_simp, refwhole_any v (by omega) hv1 a n c name w1 (Kt.out.below hb1) (by omega)⟩) ?_
  rintro vn w1 hb1 hF1 ⟨ga, gl, gc, rfl, _⟩
  apply Exists.intro
  refine ⟨fun w2 hb2 hF2 => wpQuiet_nil rfl, ?_⟩
  refine AlChk.nil ?_
  refine Walk.call rfl 113 #[.int .u8 1, .slice (some ⟨w.heap.size, 0, none⟩) 32 32, .slice ga gl gc] (TextV ([1] ++ (nonce ++ (be 8 v ++ name)))) (fun v w' w'' h k => h.below k) rfl (fun w1 hb1 hF1 => ⟨by go_simp, ?_⟩) ?_
  · have hxt := hF1.2.text
    have hxl := hxt.length
    rw [List.length_append, be_length, Hml.out] at hxl
    exact reftext_any 1 (by omega) _ 32 32 nonce ga gl gc _ w1 (hN.text (K0.out.below hb1)) hxt (by omega) (by omega)
  rintro vt w2 hb2 hF2 ⟨ta, tl, tc, rfl, _⟩
  apply Exists.intro
  refine ⟨fun w3 hb3 hF3 => ?_, ?_⟩
  · have hxt := hF3.2.text
    have hxl := hxt.length
    simp only [List.length_append, be_length, Hml.out, hN.len, List.length_cons, List.length_nil] at hxl
    have hs := fun e : Ext w3 => refsum_any ta tl tc _ e.at_ (hxt.below e.same) (by omega)
    rw [← HM.out] at hs
    simp only [pick, List.getElem?_toArray, List.getElem?_cons_succ, List.getElem?_cons_zero, Option.toList_some, List.cons_append, List.nil_append, Act.put, List.setIfInBounds_toArray, List.set_cons_zero, List.set_cons_succ]
    repeat (go_big_quiet_step (first | (go_at_call 112; exact Calls.ext (hs _))))
    exact wpQuiet_nil rfl
  refine AlChk.nil ?_
  refine Walk.fin fun w4 h4 _ _ => ?_
  simp only [List.drop_succ_cons, List.drop_zero]
  have HBw4 := hid (Below.on Hb.out h4)
  have hsw4 := HBw4.out.size
  have K0w4 := hid (K0.out.below h4)
  have Kr0w4 := hid (Kr0.out.below h4)
  have Ktw4 := hid (Kt.out.below h4)
  clear h4
  go_wp2_with (refine wpList_store_blk rfl 23 _ _ rfl (w.heap.size + 1) _ rfl rfl _ 23 Kr0w4.out 32 size_digest HzA.out HD.out.size (ints_one _ _) ?_; intro w7 hbut7 hk7)
  exact bodyPost_ret (v := (.agg ((idxZ nonce v name).map (Value.int .u8)).toArray)) (results_blk Tryd.results59 _ (w.heap.size + 1) rfl _ 23 hk7 _ Tryd.underlying23 rfl 32 size_digest HD.out.size) rfl ⟨rfl, hbut7.below HBw4.out HBw4.out.size (by omega)⟩

set_option maxHeartbeats 4000000 in
set_option maxRecDepth 100000 in
theorem refcmade_any (salt value : List Int) (a : Option Addr) (n c : Nat) (w : World) (hN : Dg salt) (hT : TextAt w a n c value) (hn : n ≤ 200) :
    Calls Tryd.prog 64 #[(.agg (salt.map (Value.int .u8)).toArray), .slice a n c] w fun e w' => e = .returned (.agg ((madeZ salt value).map (Value.int .u8)).toArray) ∧ Below w.heap.size w w' := by
  have HM : Hid (madeZ salt value = sumZ ([2] ++ (salt ++ value))) := hid (by unfold madeZ; rfl)
  have HD := hid (Dg.made salt value)
  have Hml := hid hT.length
  have hle := hT.le
  have hmx := hT.max
  have b1 := (Below.refl w.heap.size w).alloc (Nat.le_refl _) (.cells (salt.map (Value.int .u8)).toArray 23 (0, 0))
  have b2 := b1.alloc b1.size (.cells (byteCells 32 []) 23 (0, 0))
  have K0 := hid ((Blk.new (w := w) (n := w.heap.size) rfl (salt.map (Value.int .u8)).toArray 23).old (.cells (byteCells 32 []) 23 (0, 0)))
  have Kr0 := hid (Blk.new (w := (w.alloc (.cells (salt.map (Value.int .u8)).toArray 23 (0, 0)))) (n := w.heap.size + 1) (by simp only [World.size_alloc]) (byteCells 32 []) 23)
  have Hb := hid b2
  have HzA := hid zsize
  have hbz := b2.size
  have Hbs := hid (show w.heap.size + 1 + 1 = ((w.alloc (.cells (salt.map (Value.int .u8)).toArray 23 (0, 0))).alloc (.cells (byteCells 32 []) 23 (0, 0))).heap.size by simp only [World.size_alloc])
  have Kt := hid (hT.below b2)
  clear b1 b2 hT
  go_enter Tryd.func64, Tryd.ntmps64
  go_wp2_with fail
  refine (reftext_any 2 (by omega) _ 32 32 salt a n c value _ (hN.text K0.out) Kt.out (by omega) (by omega)).mono ?_
  rintro e w1 ⟨x, rfl, b1, ⟨ta, tl, tc, rfl, hxt⟩⟩
  have hxl := hxt.length
  simp only [List.length_append, Hml.out, hN.len, List.length_cons, List.length_nil] at hxl
  have HB1 := hid (Below.on Hb.out b1)
  have Kr1 := hid (Kr0.out.below b1)
  have HX := hid hxt
  clear b1 hxt
  go_wp2_with fail
  refine (refsum_any ta tl tc _ _ HX.out (by omega)).mono ?_
  rintro e w2 ⟨rfl, b2⟩
  have HB2 := hid (Below.on HB1.out b2)
  have Kr2 := hid (Kr1.out.below b2)
  clear b2
  rw [← HM.out]
  go_wp2_with (refine wpList_store_blk rfl 23 _ _ rfl (w.heap.size + 1) _ rfl rfl _ 23 Kr2.out 32 size_digest HzA.out HD.out.size (ints_one _ _) ?_; intro w7 hbut7 hk7)
  exact bodyPost_ret (v := (.agg ((madeZ salt value).map (Value.int .u8)).toArray)) (results_blk Tryd.results64 _ (w.heap.size + 1) rfl _ 23 hk7 _ Tryd.underlying23 rfl 32 size_digest HD.out.size) rfl ⟨rfl, hbut7.below HB2.out HB2.out.size (by omega)⟩

set_option maxHeartbeats 4000000 in
set_option maxRecDepth 100000 in
theorem refcindex_any (key name : List Int) (v : Int) (a : Option Addr) (n c : Nat) (w : World) (hK : Dg key) (hT : TextAt w a n c name) (hn : n ≤ 200) (hv0 : 0 ≤ v) (hv1 : v < 9223372036854775808) :
    Calls Tryd.prog 61 #[(.agg (key.map (Value.int .u8)).toArray), .slice a n c, .int .i64 v] w fun e w' => e = .returned (.tuple #[(.agg ((idxZ (nonceZ key v name) v name).map (Value.int .u8)).toArray), (.agg ((nonceZ key v name).map (Value.int .u8)).toArray)]) ∧ Below w.heap.size w w' := by
  have HM : Hid (nonceZ key v name = macZ key ([1] ++ ([] ++ (be 8 v ++ name)))) := hid (by unfold nonceZ; rfl)
  have HDn := hid (Dg.nonce key v name)
  have HDi := hid (Dg.idx (nonceZ key v name) v name)
  have Hml := hid hT.length
  have HT0 := hid hT
  have hle := hT.le
  have hmx := hT.max
  have b1 := (Below.refl w.heap.size w).alloc (Nat.le_refl _) (.cells (key.map (Value.int .u8)).toArray 23 (0, 0))
  have b2 := b1.alloc b1.size (.cells (byteCells 32 []) 23 (0, 0))
  have b3 := b2.alloc b2.size (.cells (byteCells 32 []) 23 (0, 0))
  have K0 := hid (((Blk.new (w := w) (n := w.heap.size) rfl (key.map (Value.int .u8)).toArray 23).old (.cells (byteCells 32 []) 23 (0, 0))).old (.cells (byteCells 32 []) 23 (0, 0)))
  have Kr0 := hid ((Blk.new (w := (w.alloc (.cells (key.map (Value.int .u8)).toArray 23 (0, 0)))) (n := w.heap.size + 1) (by simp only [World.size_alloc]) (byteCells 32 []) 23).old (.cells (byteCells 32 []) 23 (0, 0)))
  have Kr1 := hid (Blk.new (w := ((w.alloc (.cells (key.map (Value.int .u8)).toArray 23 (0, 0))).alloc (.cells (byteCells 32 []) 23 (0, 0)))) (n := w.heap.size + 1 + 1) (by simp only [World.size_alloc]) (byteCells 32 []) 23)
  have Hb := hid b3
  have HzA := hid zsize
  have hbz := b3.size
  have Hbs := hid (show w.heap.size + 1 + 1 + 1 = (((w.alloc (.cells (key.map (Value.int .u8)).toArray 23 (0, 0))).alloc (.cells (byteCells 32 []) 23 (0, 0))).alloc (.cells (byteCells 32 []) 23 (0, 0))).heap.size by simp only [World.size_alloc])
  have Kt := hid (hT.below b3)
  clear b1 b2 b3 hT
  go_enter Tryd.func61, Tryd.ntmps61
  go_wp2_with fail
  refine wp_region_flow 7 [0, 1, 2] [6] [(.c 3, [], []), (.c 4, [5], []), (.b 6, [], [])] (by kernel_rfl) (by kernel_rfl) ?_
  apply Exists.intro
  refine ⟨fun w0 hb0 hF0 => ?_, ?_⟩
  · simp only [pick, List.getElem?_toArray, List.getElem?_cons_succ, List.getElem?_cons_zero, Option.toList_some, List.cons_append, List.nil_append]
    repeat (go_big_quiet_step (fail))
    exact wpQuiet_nil rfl
  refine AlChk.one rfl (fun b => .pointer (some ⟨b, 0, none⟩)) (.cells (byteCells 32 []) 23 (0, 0)) rfl (fun w3 hb3 hF3 => by go_simp; rfl) ?_
  refine AlChk.nil ?_
  refine Walk.call rfl 114 #[.slice a n c, .int .i64 v] (TextV (be 8 v ++ name)) (fun v w' w'' h k => h.below k) rfl (fun w1 hb1 hF1 => ⟨by go_simp, refwhole_any v (by omega) hv1 a n c name w1 (Kt.out.below hb1) (by omega)⟩) ?_
  rintro vn w1 hb1 hF1 ⟨ga, gl, gc, rfl, _⟩
  apply Exists.intro
  refine ⟨fun w2 hb2 hF2 => wpQuiet_nil rfl, ?_⟩
  refine AlChk.nil ?_
  refine Walk.call rfl 113 #[.int .u8 1, .slice none 0 0, .slice ga gl gc] (TextV ([1] ++ ([] ++ (be 8 v ++ name)))) (fun v w' w'' h k => h.below k) rfl (fun w1 hb1 hF1 => ⟨by go_simp, ?_⟩) ?_
  · have hxt := hF1.2.text
    have hxl := hxt.length
    rw [List.length_append, be_length, Hml.out] at hxl
    exact reftext_any 1 (by omega) none 0 0 [] ga gl gc _ w1 TextAt.nil hxt (by omega) (by omega)
  rintro vt w2 hb2 hF2 ⟨ta, tl, tc, rfl, _⟩
  apply Exists.intro
  refine ⟨fun w3 hb3 hF3 => ?_, ?_⟩
  · have hxt := hF3.2.text
    have hxl := hxt.length
    simp only [List.length_append, be_length, Hml.out, List.length_nil, List.length_cons, List.length_nil] at hxl
    have hs := fun e : Ext w3 => refcode_any _ 32 32 key ta tl tc _ e.at_ (hK.text ((K0.out.below hb3).below e.same)) (hxt.below e.same) (by omega) (by omega)
    rw [← HM.out] at hs
    simp only [pick, List.getElem?_toArray, List.getElem?_cons_succ, List.getElem?_cons_zero, Option.toList_some, List.cons_append, List.nil_append, Act.put, List.setIfInBounds_toArray, List.set_cons_zero, List.set_cons_succ]
    repeat (go_big_quiet_step (first | (go_at_call 116; exact Calls.ext (hs _))))
    exact wpQuiet_nil rfl
  refine AlChk.nil ?_
  refine Walk.blk rfl (fun b => .pointer (some ⟨b, 0, none⟩)) (.cells (byteCells 32 []) 23 (0, 0)) (by simp) ?_
  intro b3 w3 hb3 hF3 hge3 _
  apply Exists.intro
  refine ⟨fun w4 hb4 hF4 => wpQuiet_nil rfl, ?_⟩
  refine AlChk.nil ?_
  refine Walk.fin fun w4 h4 hF4 _ => ?_
  simp only [List.drop_succ_cons, List.drop_zero]
  have kb3 : Blk w4 b3 (byteCells 32 []) 23 := hF4.2
  have Hk3 := hid kb3
  clear kb3 hF4
  have HBw4 := hid (Below.on Hb.out h4)
  have hsw4 := HBw4.out.size
  have K0w4 := hid (K0.out.below h4)
  have Kr0w4 := hid (Kr0.out.below h4)
  have Kr1w4 := hid (Kr1.out.below h4)
  have Ktw4 := hid (Kt.out.below h4)
  clear h4
  have hge3w : w.heap.size + 1 + 1 + 1 ≤ b3 := by rw [Hbs.out]; exact hge3
  generalize hNZ : nonceZ key v name = NZ at *
  go_wp2_with (
    refine wpList_store_blk rfl 23 _ _ rfl b3 _ rfl rfl _ 23 Hk3.out 32 size_digest HzA.out HDn.out.size (ints_one _ _) ?_
    intro w5 hb5 hk5
    have HBw5 := hid (hb5.below HBw4.out HBw4.out.size (by omega))
    have Knw5 := hid hk5
    have Kr0w5 := hid (hb5.blk Kr0w4.out (by omega))
    have Kr1w5 := hid (hb5.blk Kr1w4.out (by omega))
    clear hb5 hk5)
  have hln5 := Knw5.out.lt
  have hlr5 := Kr1w5.out.lt
  generalize hIZ : idxZ NZ v name = IZ at *
  simp only [Act.put, List.setIfInBounds_toArray, List.set_cons_zero, List.set_cons_succ]
  refine FlowB.wp_region_butIn [w.heap.size + 1, w.heap.size + 1 + 1] (fun wz => Blk wz (w.heap.size + 1) (byteCells 32 []) 23 ∧ Blk wz (w.heap.size + 1 + 1) (byteCells 32 []) 23) 7 [0, 1, 2, 3, 4] [] [(.c 5, [], []), (.c 6, [], [])] (by kernel_rfl) (by kernel_rfl) ⟨Kr0w5.out, Kr1w5.out⟩ (fun _ _ h hb => ⟨h.1.below hb, h.2.below hb⟩) ?_
  apply Exists.intro
  refine ⟨fun w0 hb0 hF0 => ?_, ?_⟩
  · skip
    have x0 : ∀ w', (∃ x : Ext w0, w' = x.at_) → ∃ T, Blk w' (b3) (NZ.map (Value.int .u8)).toArray T := fun w' ⟨x, hx⟩ => ⟨_, hx ▸ (hb0.blk Knw5.out (by simp only [List.mem_cons, List.not_mem_nil, or_false]; omega)).below x.same⟩
    have c0 := fun e : Ext w0 => refcfrom_any NZ name v a n c e.at_ HDn.out ((HT0.out.below (hb0.below HBw5.out HBw5.out.size (by simp only [List.mem_cons, List.not_mem_nil, or_false, forall_eq_or_imp, forall_eq]; omega))).below e.same) hn (by omega) hv1
    rw [hIZ] at c0
    simp only [pick, List.getElem?_toArray, List.getElem?_cons_succ, List.getElem?_cons_zero, Option.toList_some, List.cons_append, List.nil_append]
    repeat (first | (go_big_quiet_want; refine quiet_load_blk 23 _ rfl (b3) rfl _ x0 _ Tryd.underlying23 rfl 32 size_digest HDn.out.size ?_; go_big_quiet_on; simp only [Act.put, List.setIfInBounds_toArray, List.set_cons_zero, List.set_cons_succ]) | go_big_quiet_step (first | (go_at_call 59; with_reducible exact Calls.ext (c0 _))))
    exact wpQuiet_nil rfl
  refine FlowB.AlChk.nil ?_
  refine FlowB.Walk.skips rfl (fun wz => Blk wz (w.heap.size + 1) (IZ.map (Value.int .u8)).toArray 23 ∧ Blk wz (w.heap.size + 1 + 1) (byteCells 32 []) 23) (fun _ _ h hb => ⟨h.1.below hb, h.2.below hb⟩) rfl (fun w1 hb1 hF1 hG1 => ?_) ?_
  · exact FlowB.store_skips 23 _ _ rfl (w.heap.size + 1) (IZ.map (Value.int .u8)).toArray rfl rfl _ 23 hG1.1 32 size_digest HzA.out HDi.out.size (ints_one _ _) (by simp) (fun w2 h2 h3 => ⟨h3, h2.blk hG1.2 (by omega)⟩)
  intro w1 hb1 hF1
  apply Exists.intro
  refine ⟨fun w2 hb2 hF2 => wpQuiet_nil rfl, ?_⟩
  refine FlowB.AlChk.nil ?_
  refine FlowB.Walk.skips rfl (fun wz => Blk wz (w.heap.size + 1) (IZ.map (Value.int .u8)).toArray 23 ∧ Blk wz (w.heap.size + 1 + 1) (NZ.map (Value.int .u8)).toArray 23) (fun _ _ h hb => ⟨h.1.below hb, h.2.below hb⟩) rfl (fun w1 hb1 hF1 hG1 => ?_) ?_
  · exact FlowB.store_skips 23 _ _ rfl (w.heap.size + 1 + 1) (NZ.map (Value.int .u8)).toArray rfl rfl _ 23 hG1.2 32 size_digest HzA.out HDn.out.size (ints_one _ _) (by simp) (fun w2 h2 h3 => ⟨h2.blk hG1.1 (by omega), h3⟩)
  intro w1 hb1 hF1
  apply Exists.intro
  refine ⟨fun w2 hb2 hF2 => wpQuiet_nil rfl, ?_⟩
  refine FlowB.AlChk.nil ?_
  refine FlowB.Walk.fin fun w6 hw6 _ hGw6 => ?_
  simp only [List.drop_succ_cons, List.drop_zero]
  have HBw6 := hid (hw6.below HBw5.out HBw5.out.size (by simp only [List.mem_cons, List.not_mem_nil, or_false, forall_eq_or_imp, forall_eq]; omega))
  have HGw6 := hid hGw6
  clear hw6 hGw6
  go_wp2_with fail
  exact bodyPost_ret (v := .tuple #[(.agg (IZ.map (Value.int .u8)).toArray), (.agg (NZ.map (Value.int .u8)).toArray)]) (results_blk2 Tryd.results61 _ (w.heap.size + 1) (w.heap.size + 1 + 1) rfl rfl _ _ 23 HGw6.out.1 HGw6.out.2 _ Tryd.underlying23 rfl 32 size_digest HDi.out.size HDn.out.size) rfl ⟨by rw [hNZ, hIZ], HBw6.out⟩

set_option maxHeartbeats 4000000 in
set_option maxRecDepth 100000 in
theorem refcvalue_any (key index value : List Int) (a : Option Addr) (n c : Nat) (w : World) (hK : Dg key) (hI : Dg index) (hT : TextAt w a n c value) (hn : n ≤ 200) :
    Calls Tryd.prog 66 #[(.agg (key.map (Value.int .u8)).toArray), (.agg (index.map (Value.int .u8)).toArray), .slice a n c] w fun e w' => e = .returned (.tuple #[(.agg ((madeZ (saltZ key index value) value).map (Value.int .u8)).toArray), (.agg ((saltZ key index value).map (Value.int .u8)).toArray)]) ∧ Below w.heap.size w w' := by
  have HM : Hid (saltZ key index value = macZ key ([2] ++ (index ++ value))) := hid (by unfold saltZ; rfl)
  have HDn := hid (Dg.salt key index value)
  have HDi := hid (Dg.made (saltZ key index value) value)
  have Hml := hid hT.length
  have HT0 := hid hT
  have hle := hT.le
  have hmx := hT.max
  have b1 := (Below.refl w.heap.size w).alloc (Nat.le_refl _) (.cells (key.map (Value.int .u8)).toArray 23 (0, 0))
  have b2 := b1.alloc b1.size (.cells (index.map (Value.int .u8)).toArray 23 (0, 0))
  have b3 := b2.alloc b2.size (.cells (byteCells 32 []) 23 (0, 0))
  have b4 := b3.alloc b3.size (.cells (byteCells 32 []) 23 (0, 0))
  have K0 := hid ((((Blk.new (w := w) (n := w.heap.size) rfl (key.map (Value.int .u8)).toArray 23).old (.cells (index.map (Value.int .u8)).toArray 23 (0, 0))).old (.cells (byteCells 32 []) 23 (0, 0))).old (.cells (byteCells 32 []) 23 (0, 0)))
  have K1 := hid (((Blk.new (w := (w.alloc (.cells (key.map (Value.int .u8)).toArray 23 (0, 0)))) (n := w.heap.size + 1) (by simp only [World.size_alloc]) (index.map (Value.int .u8)).toArray 23).old (.cells (byteCells 32 []) 23 (0, 0))).old (.cells (byteCells 32 []) 23 (0, 0)))
  have Kr0 := hid ((Blk.new (w := ((w.alloc (.cells (key.map (Value.int .u8)).toArray 23 (0, 0))).alloc (.cells (index.map (Value.int .u8)).toArray 23 (0, 0)))) (n := w.heap.size + 1 + 1) (by simp only [World.size_alloc]) (byteCells 32 []) 23).old (.cells (byteCells 32 []) 23 (0, 0)))
  have Kr1 := hid (Blk.new (w := (((w.alloc (.cells (key.map (Value.int .u8)).toArray 23 (0, 0))).alloc (.cells (index.map (Value.int .u8)).toArray 23 (0, 0))).alloc (.cells (byteCells 32 []) 23 (0, 0)))) (n := w.heap.size + 1 + 1 + 1) (by simp only [World.size_alloc]) (byteCells 32 []) 23)
  have Hb := hid b4
  have HzA := hid zsize
  have hbz := b4.size
  have Hbs := hid (show w.heap.size + 1 + 1 + 1 + 1 = ((((w.alloc (.cells (key.map (Value.int .u8)).toArray 23 (0, 0))).alloc (.cells (index.map (Value.int .u8)).toArray 23 (0, 0))).alloc (.cells (byteCells 32 []) 23 (0, 0))).alloc (.cells (byteCells 32 []) 23 (0, 0))).heap.size by simp only [World.size_alloc])
  have Kt := hid (hT.below b4)
  clear b1 b2 b3 b4 hT
  go_enter Tryd.func66, Tryd.ntmps66
  go_wp2_with fail
  refine wp_region_flow 6 [0, 1, 2] [5] [(.c 3, [4], []), (.b 5, [], [])] (by kernel_rfl) (by kernel_rfl) ?_
  apply Exists.intro
  refine ⟨fun w0 hb0 hF0 => ?_, ?_⟩
  · simp only [pick, List.getElem?_toArray, List.getElem?_cons_succ, List.getElem?_cons_zero, Option.toList_some, List.cons_append, List.nil_append]
    repeat (go_big_quiet_step (fail))
    exact wpQuiet_nil rfl
  refine AlChk.one rfl (fun b => .pointer (some ⟨b, 0, none⟩)) (.cells (byteCells 32 []) 23 (0, 0)) rfl (fun w3 hb3 hF3 => by go_simp; rfl) ?_
  refine AlChk.nil ?_
  refine Walk.call rfl 113 #[.int .u8 2, .slice (some ⟨w.heap.size + 1, 0, none⟩) 32 32, .slice a n c] (TextV ([2] ++ (index ++ value))) (fun v w' w'' h k => h.below k) rfl (fun w1 hb1 hF1 => ⟨by go_simp, ?_⟩) ?_
  · exact reftext_any 2 (by omega) _ 32 32 index a n c value w1 (hI.text (K1.out.below hb1)) (Kt.out.below hb1) (by omega) (by omega)
  rintro vt w2 hb2 hF2 ⟨ta, tl, tc, rfl, _⟩
  apply Exists.intro
  refine ⟨fun w3 hb3 hF3 => ?_, ?_⟩
  · have hxt := hF3.2.text
    have hxl := hxt.length
    simp only [List.length_append, Hml.out, hI.len, List.length_cons, List.length_nil] at hxl
    have hs := fun e : Ext w3 => refcode_any _ 32 32 key ta tl tc _ e.at_ (hK.text ((K0.out.below hb3).below e.same)) (hxt.below e.same) (by omega) (by omega)
    rw [← HM.out] at hs
    simp only [pick, List.getElem?_toArray, List.getElem?_cons_succ, List.getElem?_cons_zero, Option.toList_some, List.cons_append, List.nil_append, Act.put, List.setIfInBounds_toArray, List.set_cons_zero, List.set_cons_succ]
    repeat (go_big_quiet_step (first | (go_at_call 116; exact Calls.ext (hs _))))
    exact wpQuiet_nil rfl
  refine AlChk.nil ?_
  refine Walk.blk rfl (fun b => .pointer (some ⟨b, 0, none⟩)) (.cells (byteCells 32 []) 23 (0, 0)) (by simp) ?_
  intro b3 w3 hb3 hF3 hge3 _
  apply Exists.intro
  refine ⟨fun w4 hb4 hF4 => wpQuiet_nil rfl, ?_⟩
  refine AlChk.nil ?_
  refine Walk.fin fun w4 h4 hF4 _ => ?_
  simp only [List.drop_succ_cons, List.drop_zero]
  have kb3 : Blk w4 b3 (byteCells 32 []) 23 := hF4.2
  have Hk3 := hid kb3
  clear kb3 hF4
  have HBw4 := hid (Below.on Hb.out h4)
  have hsw4 := HBw4.out.size
  have K0w4 := hid (K0.out.below h4)
  have K1w4 := hid (K1.out.below h4)
  have Kr0w4 := hid (Kr0.out.below h4)
  have Kr1w4 := hid (Kr1.out.below h4)
  have Ktw4 := hid (Kt.out.below h4)
  clear h4
  have hge3w : w.heap.size + 1 + 1 + 1 + 1 ≤ b3 := by rw [Hbs.out]; exact hge3
  generalize hNZ : saltZ key index value = NZ at *
  go_wp2_with (
    refine wpList_store_blk rfl 23 _ _ rfl b3 _ rfl rfl _ 23 Hk3.out 32 size_digest HzA.out HDn.out.size (ints_one _ _) ?_
    intro w5 hb5 hk5
    have HBw5 := hid (hb5.below HBw4.out HBw4.out.size (by omega))
    have Knw5 := hid hk5
    have Kr0w5 := hid (hb5.blk Kr0w4.out (by omega))
    have Kr1w5 := hid (hb5.blk Kr1w4.out (by omega))
    clear hb5 hk5)
  have hln5 := Knw5.out.lt
  have hlr5 := Kr1w5.out.lt
  generalize hIZ : madeZ NZ value = IZ at *
  simp only [Act.put, List.setIfInBounds_toArray, List.set_cons_zero, List.set_cons_succ]
  refine FlowB.wp_region_butIn [w.heap.size + 1 + 1, w.heap.size + 1 + 1 + 1] (fun wz => Blk wz (w.heap.size + 1 + 1) (byteCells 32 []) 23 ∧ Blk wz (w.heap.size + 1 + 1 + 1) (byteCells 32 []) 23) 6 [0, 1, 2, 3] [] [(.c 4, [], []), (.c 5, [], [])] (by kernel_rfl) (by kernel_rfl) ⟨Kr0w5.out, Kr1w5.out⟩ (fun _ _ h hb => ⟨h.1.below hb, h.2.below hb⟩) ?_
  apply Exists.intro
  refine ⟨fun w0 hb0 hF0 => ?_, ?_⟩
  · skip
    have x0 : ∀ w', (∃ x : Ext w0, w' = x.at_) → ∃ T, Blk w' (b3) (NZ.map (Value.int .u8)).toArray T := fun w' ⟨x, hx⟩ => ⟨_, hx ▸ (hb0.blk Knw5.out (by simp only [List.mem_cons, List.not_mem_nil, or_false]; omega)).below x.same⟩
    have c0 := fun e : Ext w0 => refcmade_any NZ value a n c e.at_ HDn.out ((HT0.out.below (hb0.below HBw5.out HBw5.out.size (by simp only [List.mem_cons, List.not_mem_nil, or_false, forall_eq_or_imp, forall_eq]; omega))).below e.same) hn
    rw [hIZ] at c0
    simp only [pick, List.getElem?_toArray, List.getElem?_cons_succ, List.getElem?_cons_zero, Option.toList_some, List.cons_append, List.nil_append]
    repeat (first | (go_big_quiet_want; refine quiet_load_blk 23 _ rfl (b3) rfl _ x0 _ Tryd.underlying23 rfl 32 size_digest HDn.out.size ?_; go_big_quiet_on; simp only [Act.put, List.setIfInBounds_toArray, List.set_cons_zero, List.set_cons_succ]) | go_big_quiet_step (first | (go_at_call 64; with_reducible exact Calls.ext (c0 _))))
    exact wpQuiet_nil rfl
  refine FlowB.AlChk.nil ?_
  refine FlowB.Walk.skips rfl (fun wz => Blk wz (w.heap.size + 1 + 1) (IZ.map (Value.int .u8)).toArray 23 ∧ Blk wz (w.heap.size + 1 + 1 + 1) (byteCells 32 []) 23) (fun _ _ h hb => ⟨h.1.below hb, h.2.below hb⟩) rfl (fun w1 hb1 hF1 hG1 => ?_) ?_
  · exact FlowB.store_skips 23 _ _ rfl (w.heap.size + 1 + 1) (IZ.map (Value.int .u8)).toArray rfl rfl _ 23 hG1.1 32 size_digest HzA.out HDi.out.size (ints_one _ _) (by simp) (fun w2 h2 h3 => ⟨h3, h2.blk hG1.2 (by omega)⟩)
  intro w1 hb1 hF1
  apply Exists.intro
  refine ⟨fun w2 hb2 hF2 => wpQuiet_nil rfl, ?_⟩
  refine FlowB.AlChk.nil ?_
  refine FlowB.Walk.skips rfl (fun wz => Blk wz (w.heap.size + 1 + 1) (IZ.map (Value.int .u8)).toArray 23 ∧ Blk wz (w.heap.size + 1 + 1 + 1) (NZ.map (Value.int .u8)).toArray 23) (fun _ _ h hb => ⟨h.1.below hb, h.2.below hb⟩) rfl (fun w1 hb1 hF1 hG1 => ?_) ?_
  · exact FlowB.store_skips 23 _ _ rfl (w.heap.size + 1 + 1 + 1) (NZ.map (Value.int .u8)).toArray rfl rfl _ 23 hG1.2 32 size_digest HzA.out HDn.out.size (ints_one _ _) (by simp) (fun w2 h2 h3 => ⟨h2.blk hG1.1 (by omega), h3⟩)
  intro w1 hb1 hF1
  apply Exists.intro
  refine ⟨fun w2 hb2 hF2 => wpQuiet_nil rfl, ?_⟩
  refine FlowB.AlChk.nil ?_
  refine FlowB.Walk.fin fun w6 hw6 _ hGw6 => ?_
  simp only [List.drop_succ_cons, List.drop_zero]
  have HBw6 := hid (hw6.below HBw5.out HBw5.out.size (by simp only [List.mem_cons, List.not_mem_nil, or_false, forall_eq_or_imp, forall_eq]; omega))
  have HGw6 := hid hGw6
  clear hw6 hGw6
  go_wp2_with fail
  exact bodyPost_ret (v := .tuple #[(.agg (IZ.map (Value.int .u8)).toArray), (.agg (NZ.map (Value.int .u8)).toArray)]) (results_blk2 Tryd.results66 _ (w.heap.size + 1 + 1) (w.heap.size + 1 + 1 + 1) rfl rfl _ _ 23 HGw6.out.1 HGw6.out.2 _ Tryd.underlying23 rfl 32 size_digest HDi.out.size HDn.out.size) rfl ⟨by rw [hNZ, hIZ], HBw6.out⟩

end Go.Proofs.YtjkfbeillmeomaaDoor
