/-
  Layer 20: WireTexts.
-/
import Derived.Test.YtjkfbeillmeomaaWire4
namespace Go.Proofs.Ytjkfbeillmeomaa
open Go.ChangeShapes Go.WideShapes Go.ChangeAt Go.RowKit

set_option maxHeartbeats 4000000 in
set_option maxRecDepth 100000 in
theorem wireTexts_any (k q k2 q2 L V : Int) (t l t2 l2 r u : List Int) (w : World) (hki : -9223372036854775808 ≤ k ∧ k < 9223372036854775808) (hqi : -9223372036854775808 ≤ q ∧ q < 9223372036854775808) (hk2i : -9223372036854775808 ≤ k2 ∧ k2 < 9223372036854775808) (hq2i : -9223372036854775808 ≤ q2 ∧ q2 < 9223372036854775808) (hLi : -9223372036854775808 ≤ L ∧ L < 9223372036854775808) (hVi : -9223372036854775808 ≤ V ∧ V < 9223372036854775808) (ht : Dg t) (hl : Dg l) (ht2 : Dg t2) (hl2 : Dg l2) (hr : Dg r) (hu : Dg u) :
    Calls Try.prog 3 #[.agg (pubC k q t l).toArray, .agg (pubC k2 q2 t2 l2).toArray, .agg (pubC L V r u).toArray] w fun e w' => e = .returned (.bool true) ∧ Below w.heap.size w w' := by
  have CA := hid (fun W : World => headtext_any k q t l W hki hqi ht hl)
  have CB := hid (fun W : World => headtext_any k2 q2 t2 l2 W hk2i hq2i ht2 hl2)
  have CC := hid (fun W : World => keytext_any k L V r u W hki hLi hVi hr hu)
  have CE := hid (fun W : World => epochtext_any q t W hqi ht)
  have RA := hid (fun W : World => refheadtext_any k q t l W hki hqi ht hl)
  have RC := hid (fun W : World => refkeytext_any k L V r u W hki hLi hVi hr hu)
  have RE := hid (fun W : World => refepochtext_any q t W hqi ht)
  have QH := fun W : World => eq_head k q k2 q2 t l t2 l2 hki hqi hk2i hq2i ht hl ht2 hl2 W
  have hAC := head_key (k := k) (q := q) (k' := k) (L := L) (V := V) (t := t) (l := l) (r := r) (p := u)
  have sA := headZ_small (k := k) (q := q) ht hl
  have sB := headZ_small (k := k2) (q := q2) ht2 hl2
  have sC := keyZ_small (k := k) (L := L) (V := V) hr hu
  have sE := epochZ_small (q := q) ht
  generalize headZ k q t l = A at *
  generalize headZ k2 q2 t2 l2 = B at *
  generalize keyZ k L V r u = C at *
  generalize epochZ q t = E at *
  have eAB := eqStrB sA sB
  have eAC : ((strOfNums A).toList == (strOfNums C).toList) = false := by rw [eqStrB sA sC, decide_eq_false hAC]
  clear sA sB sC sE hAC
  have b1 := (Below.refl w.heap.size w).alloc (Nat.le_refl _) (.cells (pubC k q t l).toArray 25 (0, 0))
  have b2 := b1.alloc b1.size (.cells (pubC k2 q2 t2 l2).toArray 25 (0, 0))
  have b3 := b2.alloc b2.size (.cells (pubC L V r u).toArray 29 (0, 0))
  have Kh := hid (((Blk.new (w := w) (n := w.heap.size) rfl (pubC k q t l).toArray 25).old (.cells (pubC k2 q2 t2 l2).toArray 25 (0, 0))).old (.cells (pubC L V r u).toArray 29 (0, 0)))
  have Ko := hid ((Blk.new (w := (w.alloc (.cells (pubC k q t l).toArray 25 (0, 0)))) (n := w.heap.size + 1) (by simp only [World.size_alloc]) (pubC k2 q2 t2 l2).toArray 25).old (.cells (pubC L V r u).toArray 29 (0, 0)))
  have Kp := hid (Blk.new (w := ((w.alloc (.cells (pubC k q t l).toArray 25 (0, 0))).alloc (.cells (pubC k2 q2 t2 l2).toArray 25 (0, 0)))) (n := w.heap.size + 1 + 1) (by simp only [World.size_alloc]) (pubC L V r u).toArray 29)
  have Hb := hid b3
  have hbz := b3.size
  have Hbs := hid (show w.heap.size + 1 + 1 + 1 = (((w.alloc (.cells (pubC k q t l).toArray 25 (0, 0))).alloc (.cells (pubC k2 q2 t2 l2).toArray 25 (0, 0))).alloc (.cells (pubC L V r u).toArray 29 (0, 0))).heap.size by simp only [World.size_alloc])
  clear b1 b2 b3 
  go_enter Try.func3, Try.ntmps3
  go_wp2_with (refine wpList_load_blk rfl 25 _ rfl (w.heap.size) rfl _ 25 Kh.out _ Try.underlying25 rfl 66 size_head (pubC_size ht hl) ?_)
  refine (CA.out _).mono ?_
  rintro e w1 ⟨_, rfl, bw1, ⟨ta0, tn0, tc0, rfl, htw1⟩⟩
  have cv0 := htw1.string Try.underlying30 Try.underlying5 Try.underlying9
  have HBw1 := hid (Below.on Hb.out bw1)
  have hsw1 := HBw1.out.size
  have Khw1 := hid (Kh.out.below bw1)
  have Kow1 := hid (Ko.out.below bw1)
  have Kpw1 := hid (Kp.out.below bw1)
  clear bw1 htw1
  go_wp2_with (refine wpList_load_blk rfl 25 _ rfl (w.heap.size + 1) rfl _ 25 Kow1.out _ Try.underlying25 rfl 66 size_head (pubC_size ht2 hl2) ?_)
  refine (CB.out _).mono ?_
  rintro e w2 ⟨_, rfl, bw2, ⟨ta1, tn1, tc1, rfl, htw2⟩⟩
  have cv1 := htw2.string Try.underlying30 Try.underlying5 Try.underlying9
  have HBw2 := hid (Below.on HBw1.out bw2)
  have hsw2 := HBw2.out.size
  have Khw2 := hid (Khw1.out.below bw2)
  have Kow2 := hid (Kow1.out.below bw2)
  have Kpw2 := hid (Kpw1.out.below bw2)
  clear bw2 htw2
  have d0 : w2.cell? ⟨w.heap.size, 0, none⟩ = some (.int .i64 k) := by rw [Khw2.out.cell]; rfl
  go_wp2_with (refine wpList_load_blk rfl 29 _ rfl (w.heap.size + 1 + 1) rfl _ 29 Kpw2.out _ Try.underlying29 rfl 66 size_public (pubC_size hr hu) ?_)
  refine (CC.out _).mono ?_
  rintro e w3 ⟨_, rfl, bw3, ⟨ta2, tn2, tc2, rfl, htw3⟩⟩
  have cv2 := htw3.string Try.underlying30 Try.underlying5 Try.underlying9
  have HBw3 := hid (Below.on HBw2.out bw3)
  have hsw3 := HBw3.out.size
  have Khw3 := hid (Khw2.out.below bw3)
  have Kow3 := hid (Kow2.out.below bw3)
  have Kpw3 := hid (Kpw2.out.below bw3)
  clear bw3 htw3
  go_wp2_with fail
  refine wp_region_flow 36 [0, 1, 2, 3, 4, 5, 6, 7, 8] [] [(.c 9, [10, 11, 12, 13, 14, 15, 16, 19, 20, 21, 22], []), (.c 17, [18], []), (.c 23, [24, 25, 26, 27, 28, 29, 30, 31], []), (.c 32, [33, 34, 35], [])] (by kernel_rfl) (by kernel_rfl) ?_
  apply Exists.intro
  refine ⟨fun w0 hb0 hF0 => ?_, ?_⟩
  · skip
    have y0 : ∀ w', (∃ x : Ext w0, w' = x.at_) → w'.cell? ⟨w.heap.size, 0, none⟩ = some (.int .i64 k) := fun w' ⟨x, hx⟩ => by rw [hx, ((Khw3.out.below hb0).below x.same).cell]; rfl
    have y1 : ∀ w', (∃ x : Ext w0, w' = x.at_) → w'.cell? ⟨w.heap.size, 1, none⟩ = some (.int .i64 q) := fun w' ⟨x, hx⟩ => by rw [hx, ((Khw3.out.below hb0).below x.same).cell]; rfl
    have z0 : ∀ w', (∃ x : Ext w0, w' = x.at_) → w'.rangeAt (w.heap.size) 2 (t.map (Value.int .u8)) := fun w' ⟨x, hx⟩ => hx ▸ pubC_root ((Khw3.out.below hb0).below x.same)
    have z1 : ∀ w', (∃ x : Ext w0, w' = x.at_) → w'.rangeAt (w.heap.size) 34 (l.map (Value.int .u8)) := fun w' ⟨x, hx⟩ => hx ▸ pubC_pub ht ((Khw3.out.below hb0).below x.same)
    simp only [pick, List.getElem?_toArray, List.getElem?_cons_succ, List.getElem?_cons_zero, Option.toList_some, List.cons_append, List.nil_append]
    repeat (first | (go_big_quiet_want; refine quiet_load_one 3 _ rfl ⟨w.heap.size, 0, none⟩ rfl _ y0 _ Try.underlying3 rfl ?_; go_big_quiet_on; simp only [Act.put, List.setIfInBounds_toArray, List.set_cons_zero, List.set_cons_succ]) | (go_big_quiet_want; refine quiet_load_one 3 _ rfl ⟨w.heap.size, 1, none⟩ rfl _ y1 _ Try.underlying3 rfl ?_; go_big_quiet_on; simp only [Act.put, List.setIfInBounds_toArray, List.set_cons_zero, List.set_cons_succ]) | (go_big_quiet_want; refine quiet_load_mid 23 _ rfl (w.heap.size) 2 rfl _ z0 _ Try.underlying23 rfl (by rw [List.length_map, ht.len]; exact size_digest) ?_; go_big_quiet_on; simp only [Act.put, List.setIfInBounds_toArray, List.set_cons_zero, List.set_cons_succ]) | (go_big_quiet_want; refine quiet_load_mid 23 _ rfl (w.heap.size) 34 rfl _ z1 _ Try.underlying23 rfl (by rw [List.length_map, hl.len]; exact size_digest) ?_; go_big_quiet_on; simp only [Act.put, List.setIfInBounds_toArray, List.set_cons_zero, List.set_cons_succ]) | go_big_quiet_step (fail))
    exact wpQuiet_nil rfl
  refine AlChk.nil ?_
  refine Walk.call rfl 8 #[.int .i64 k, .int .i64 q, .agg (t.map (Value.int .u8)).toArray, .agg (l.map (Value.int .u8)).toArray] (TextV A) (fun v w' w'' h k => h.below k) rfl (fun w1 hb1 hF1 => ⟨by go_simp, ?_⟩) ?_
  · skip
    exact RA.out w1
  rintro v0 w1 hb1 hF1 ⟨ra0, rn0, rc0, rfl, _⟩
  apply Exists.intro
  refine ⟨fun w0 hb0 hF0 => ?_, ?_⟩
  · skip
    have y0 : ∀ w', (∃ x : Ext w0, w' = x.at_) → w'.cell? ⟨w.heap.size, 0, none⟩ = some (.int .i64 k) := fun w' ⟨x, hx⟩ => by rw [hx, ((Khw3.out.below hb0).below x.same).cell]; rfl
    have y1 : ∀ w', (∃ x : Ext w0, w' = x.at_) → w'.cell? ⟨w.heap.size, 1, none⟩ = some (.int .i64 q) := fun w' ⟨x, hx⟩ => by rw [hx, ((Khw3.out.below hb0).below x.same).cell]; rfl
    have z0 : ∀ w', (∃ x : Ext w0, w' = x.at_) → w'.rangeAt (w.heap.size) 2 (t.map (Value.int .u8)) := fun w' ⟨x, hx⟩ => hx ▸ pubC_root ((Khw3.out.below hb0).below x.same)
    have cx0 := conv_str (show TextV A (.slice ra0 rn0 rc0) w0 from hF0.2).text
    simp only [pick, List.getElem?_toArray, List.getElem?_cons_succ, List.getElem?_cons_zero, Option.toList_some, List.cons_append, List.nil_append, Act.put, List.setIfInBounds_toArray, List.set_cons_zero, List.set_cons_succ]
    repeat (first | (go_big_quiet_want; refine quiet_load_one 3 _ rfl ⟨w.heap.size, 0, none⟩ rfl _ y0 _ Try.underlying3 rfl ?_; go_big_quiet_on; simp only [Act.put, List.setIfInBounds_toArray, List.set_cons_zero, List.set_cons_succ]) | (go_big_quiet_want; refine quiet_load_one 3 _ rfl ⟨w.heap.size, 1, none⟩ rfl _ y1 _ Try.underlying3 rfl ?_; go_big_quiet_on; simp only [Act.put, List.setIfInBounds_toArray, List.set_cons_zero, List.set_cons_succ]) | (go_big_quiet_want; refine quiet_load_mid 23 _ rfl (w.heap.size) 2 rfl _ z0 _ Try.underlying23 rfl (by rw [List.length_map, ht.len]; exact size_digest) ?_; go_big_quiet_on; simp only [Act.put, List.setIfInBounds_toArray, List.set_cons_zero, List.set_cons_succ]) | go_big_quiet_step (fail))
    exact wpQuiet_nil rfl
  refine AlChk.nil ?_
  refine Walk.call rfl 9 #[.int .i64 q, .agg (t.map (Value.int .u8)).toArray] (TextV E) (fun v w' w'' h k => h.below k) rfl (fun w1 hb1 hF1 => ⟨by go_simp, ?_⟩) ?_
  · skip
    exact CE.out w1
  rintro v1 w1 hb1 hF1 ⟨ra1, rn1, rc1, rfl, _⟩
  apply Exists.intro
  refine ⟨fun w0 hb0 hF0 => ?_, ?_⟩
  · skip
    have cx1 := conv_str (show TextV E (.slice ra1 rn1 rc1) w0 from hF0.2).text
    simp only [pick, List.getElem?_toArray, List.getElem?_cons_succ, List.getElem?_cons_zero, Option.toList_some, List.cons_append, List.nil_append, Act.put, List.setIfInBounds_toArray, List.set_cons_zero, List.set_cons_succ]
    repeat (first | go_big_quiet_step (fail))
    exact wpQuiet_nil rfl
  refine AlChk.nil ?_
  refine Walk.call rfl 10 #[.int .i64 q, .agg (t.map (Value.int .u8)).toArray] (TextV E) (fun v w' w'' h k => h.below k) rfl (fun w1 hb1 hF1 => ⟨by go_simp, ?_⟩) ?_
  · skip
    exact RE.out w1
  rintro v2 w1 hb1 hF1 ⟨ra2, rn2, rc2, rfl, _⟩
  apply Exists.intro
  refine ⟨fun w0 hb0 hF0 => ?_, ?_⟩
  · skip
    have x0 : ∀ w', (∃ x : Ext w0, w' = x.at_) → ∃ T, Blk w' (w.heap.size + 1 + 1) (pubC L V r u).toArray T := fun w' ⟨x, hx⟩ => ⟨_, hx ▸ (Kpw3.out.below hb0).below x.same⟩
    have y0 : ∀ w', (∃ x : Ext w0, w' = x.at_) → w'.cell? ⟨w.heap.size, 0, none⟩ = some (.int .i64 k) := fun w' ⟨x, hx⟩ => by rw [hx, ((Khw3.out.below hb0).below x.same).cell]; rfl
    have y1 : ∀ w', (∃ x : Ext w0, w' = x.at_) → w'.cell? ⟨w.heap.size, 1, none⟩ = some (.int .i64 q) := fun w' ⟨x, hx⟩ => by rw [hx, ((Khw3.out.below hb0).below x.same).cell]; rfl
    have cx2 := conv_str (show TextV E (.slice ra2 rn2 rc2) w0 from hF0.2).text
    simp only [pick, List.getElem?_toArray, List.getElem?_cons_succ, List.getElem?_cons_zero, Option.toList_some, List.cons_append, List.nil_append, Act.put, List.setIfInBounds_toArray, List.set_cons_zero, List.set_cons_succ]
    repeat (first | (go_big_quiet_want; refine quiet_load_blk 29 _ rfl (w.heap.size + 1 + 1) rfl _ x0 _ Try.underlying29 rfl 66 size_public (pubC_size hr hu) ?_; go_big_quiet_on; simp only [Act.put, List.setIfInBounds_toArray, List.set_cons_zero, List.set_cons_succ]) | (go_big_quiet_want; refine quiet_load_one 3 _ rfl ⟨w.heap.size, 0, none⟩ rfl _ y0 _ Try.underlying3 rfl ?_; go_big_quiet_on; simp only [Act.put, List.setIfInBounds_toArray, List.set_cons_zero, List.set_cons_succ]) | (go_big_quiet_want; refine quiet_load_one 3 _ rfl ⟨w.heap.size, 1, none⟩ rfl _ y1 _ Try.underlying3 rfl ?_; go_big_quiet_on; simp only [Act.put, List.setIfInBounds_toArray, List.set_cons_zero, List.set_cons_succ]) | go_big_quiet_step (fail))
    exact wpQuiet_nil rfl
  refine AlChk.nil ?_
  refine Walk.call rfl 11 #[.int .i64 k, .agg (pubC L V r u).toArray] (TextV C) (fun v w' w'' h k => h.below k) rfl (fun w1 hb1 hF1 => ⟨by go_simp, ?_⟩) ?_
  · skip
    exact RC.out w1
  rintro v3 w1 hb1 hF1 ⟨ra3, rn3, rc3, rfl, _⟩
  apply Exists.intro
  refine ⟨fun w0 hb0 hF0 => ?_, ?_⟩
  · skip
    have cx3 := conv_str (show TextV C (.slice ra3 rn3 rc3) w0 from hF0.2).text
    simp only [pick, List.getElem?_toArray, List.getElem?_cons_succ, List.getElem?_cons_zero, Option.toList_some, List.cons_append, List.nil_append, Act.put, List.setIfInBounds_toArray, List.set_cons_zero, List.set_cons_succ]
    repeat (first | go_big_quiet_step (fail))
    exact wpQuiet_nil rfl
  refine AlChk.nil ?_
  refine Walk.fin fun w4 hw4 hFw4 _ => ?_
  simp only [List.drop_succ_cons, List.drop_zero]
  have HFw4 := hid hFw4
  have HBw4 := hid (Below.on HBw3.out hw4)
  have hsw4 := HBw4.out.size
  have Khw4 := hid (Khw3.out.below hw4)
  have Kow4 := hid (Kow3.out.below hw4)
  have Kpw4 := hid (Kpw3.out.below hw4)
  clear hw4 hFw4
  go_wp2_with (first
     | (refine wpList_load_blk rfl 25 _ rfl (w.heap.size) rfl _ 25 Khw4.out _ Try.underlying25 rfl 66 size_head (pubC_size ht hl) ?_)
     | (refine wpList_load_blk rfl 25 _ rfl (w.heap.size + 1) rfl _ 25 Kow4.out _ Try.underlying25 rfl 66 size_head (pubC_size ht2 hl2) ?_))
  refine (knows20 _).mono ?_
  rintro e w5 ⟨rfl, bw5⟩
  have HBw5 := hid (Below.on HBw4.out bw5)
  have hsw5 := HBw5.out.size
  have Khw5 := hid (Khw4.out.below bw5)
  have Kow5 := hid (Kow4.out.below bw5)
  have Kpw5 := hid (Kpw4.out.below bw5)
  clear bw5
  go_wp2_with fail
  go_returns
  exact ⟨rfl, HBw5.out⟩
end Go.Proofs.Ytjkfbeillmeomaa
