/-
  Layer 12: the document's disk: what is counted, what is synced, what is restored.
-/
import Derived.Test.YtmpgnpkodapidaaSpD
namespace Go.Proofs.Ytmpgnpkodapidaa
open Go.ChangeShapes Go.WideShapes Go.ChangeAt Go.RowKit

set_option maxHeartbeats 4000000 in
set_option maxRecDepth 100000 in
theorem refcomes_hit (w : World) (N r z : Nat) (ov av wv : Value) (On : List (List Int)) (ws : List (Nat × List Int)) (ka : Option Addr) (kc : Nat) (ks : List Int) (h : RfAt w N r z ov av wv On ws false 0 (.slice ka ks.length kc)) (hz : z ≤ 512) (hn1 : 1 ≤ On.length) (hO : ∀ t ∈ On, t.length = z) (hw : ∀ x ∈ ws, x.1 < On.length ∧ x.2.length = z) (hlw : ws.length ≤ 1000) (hK : IntsAt w (rfS r ov av wv) ka ks) :
    Calls Try.prog 58 #[.pointer (some ⟨r, 0, none⟩)] w fun e w' => e = .returned (.bool true) ∧ FlowB.ButIn (rfS r ov av wv) w w' ∧ RfAt w' N r z ov (.slice none 0 0) (.slice none 0 0) (crashR z ks ws On ws.length) [] true (-1) (.slice ka ks.length kc) := by
  have c5 : w.cell? ⟨r, 5, none⟩ = some (.int .i64 0) := by rw [h.kr.cell]; rfl
  have c6 : w.cell? ⟨r, 6, none⟩ = some (.slice ka ks.length kc) := by rw [h.kr.cell]; rfl
  go_enter Try.func58, Try.ntmps58
  go_wp2_with fail
  refine (refcrash_on w N r z ov av wv On ws 0 _ h hz hn1 hO hw hlw ka kc ks hK).mono ?_
  rintro e w1 ⟨rfl, b1, h1⟩
  have HB1 := hid b1
  have HR1 := hid h1
  clear b1 h1
  go_wp2_with fail
  go_returns
  exact ⟨by first | rfl | simp, HB1.out, HR1.out⟩
set_option maxHeartbeats 4000000 in
set_option maxRecDepth 100000 in
theorem refcomes_no (w : World) (N r z : Nat) (ov av wv : Value) (On : List (List Int)) (ws : List (Nat × List Int)) (left : Int) (kv : Value) (h : RfAt w N r z ov av wv On ws false left kv) (hl : left ≠ 0) (hl2 : left < 9223372036854775808) :
    Calls Try.prog 58 #[.pointer (some ⟨r, 0, none⟩)] w fun e w' => e = .returned (.bool false) ∧ But r w w' ∧ RfAt w' N r z ov av wv On ws false (if 0 < left then left - 1 else left) kv := by
  have c5 : w.cell? ⟨r, 5, none⟩ = some (.int .i64 left) := by rw [h.kr.cell]; rfl
  have K := hid h.kr
  have HR := hid h
  clear h
  go_enter Try.func58, Try.ntmps58
  by_cases h0 : 0 < left
  · rw [if_pos h0]
    go_wp2_with (
        refine wpList_store_cell rfl 3 _ _ rfl r 5 (.int .i64 (left - 1)) rfl rfl rfl rfl _ 77 K.out (by simp [rfC]) size_rint ?_
        intro w1 hb1 hk1
        have Hb1 := hid (hb1)
        have K1 := hid (show Blk w1 r (rfC z ov av wv false (left - 1) kv) 77 from hk1)
        clear hb1 hk1)
    go_returns
    exact ⟨by first | rfl | simp, Hb1.out, HR.out.but Hb1.out K1.out⟩
  · rw [if_neg h0]
    go_wp2_with fail
    go_returns
    exact ⟨by first | rfl | simp, But.of (Below.refl _ _), HR.out⟩
def syncR (ws : List (Nat × List Int)) (On : List (List Int)) : Nat → List (List Int)
  | 0 => On
  | j + 1 => (syncR ws On j).set (ws.getD j (0, [])).1 (ws.getD j (0, [])).2
theorem syncR_length (ws : List (Nat × List Int)) (On : List (List Int)) : ∀ j, (syncR ws On j).length = On.length
  | 0 => rfl
  | j + 1 => by rw [syncR, List.length_set, syncR_length ws On j]
set_option maxHeartbeats 4000000 in
set_option maxRecDepth 100000 in
theorem refsync_off (w : World) (N r z : Nat) (ov av wv : Value) (On : List (List Int)) (ws : List (Nat × List Int)) (left : Int) (kv : Value) (h : RfAt w N r z ov av wv On ws true left kv) :
    Calls Try.prog 37 #[.pointer (some ⟨r, 0, none⟩)] w fun e w' => e = .returned (.int .i64 9) ∧ Below w.heap.size w w' := by
  have Hb := hid (Below.refl w.heap.size w)
  have c4 : w.cell? ⟨r, 4, none⟩ = some (.bool true) := by rw [h.kr.cell]; rfl
  go_enter Try.func37, Try.ntmps37
  go_wp2_with fail
  go_returns
  exact ⟨by first | rfl | simp, Hb.out⟩
set_option maxHeartbeats 4000000 in
set_option maxRecDepth 100000 in
theorem refsync_hit (w : World) (N r z : Nat) (ov av wv : Value) (On : List (List Int)) (ws : List (Nat × List Int)) (ka : Option Addr) (kc : Nat) (ks : List Int) (h : RfAt w N r z ov av wv On ws false 0 (.slice ka ks.length kc)) (hz : z ≤ 512) (hn1 : 1 ≤ On.length) (hO : ∀ t ∈ On, t.length = z) (hw : ∀ x ∈ ws, x.1 < On.length ∧ x.2.length = z) (hlw : ws.length ≤ 1000) (hK : IntsAt w (rfS r ov av wv) ka ks) :
    Calls Try.prog 37 #[.pointer (some ⟨r, 0, none⟩)] w fun e w' => e = .returned (.int .i64 9) ∧ FlowB.ButIn (rfS r ov av wv) w w' ∧ RfAt w' N r z ov (.slice none 0 0) (.slice none 0 0) (crashR z ks ws On ws.length) [] true (-1) (.slice ka ks.length kc) := by
  have c4 : w.cell? ⟨r, 4, none⟩ = some (.bool false) := by rw [h.kr.cell]; rfl
  go_enter Try.func37, Try.ntmps37
  go_wp2_with fail
  refine (refcomes_hit w N r z ov av wv On ws ka kc ks h hz hn1 hO hw hlw hK).mono ?_
  rintro e w1 ⟨rfl, b1, h1⟩
  have HB1 := hid b1
  have HR1 := hid h1
  clear b1 h1
  go_wp2_with fail
  go_returns
  exact ⟨by first | rfl | simp, HB1.out, HR1.out⟩
set_option maxHeartbeats 4000000 in
set_option maxRecDepth 100000 in
theorem refsync_no (w : World) (N r z : Nat) (ov av wv : Value) (On : List (List Int)) (ws : List (Nat × List Int)) (left : Int) (kv : Value) (h : RfAt w N r z ov av wv On ws false left kv) (hl : left ≠ 0) (hl2 : left < 9223372036854775808) (hn1 : 1 ≤ On.length) (hw : ∀ x ∈ ws, x.1 < On.length ∧ x.2.length = z) (hlw : ws.length ≤ 1000) :
    Calls Try.prog 37 #[.pointer (some ⟨r, 0, none⟩)] w fun e w' => e = .returned (.int .i64 0) ∧ FlowB.ButIn (rfS r ov av wv) w w' ∧ RfAt w' N r z ov (.slice none 0 0) (.slice none 0 0) (syncR ws On ws.length) [] false (if 0 < left then left - 1 else left) kv := by
  obtain ⟨lf, hlf⟩ : ∃ lf, (if 0 < left then left - 1 else left) = lf := ⟨_, rfl⟩
  rw [hlf]
  have c4 : w.cell? ⟨r, 4, none⟩ = some (.bool false) := by rw [h.kr.cell]; rfl
  obtain ⟨g, cap, cur0, rfl, hgN, k0, hcap, hmx, hsz0, htk0⟩ := owns_form h.on (by omega)
  obtain ⟨ga, gc, rfl⟩ : ∃ ga gc, av = .slice ga ws.length gc := by
    obtain ⟨q1, ⟨q2, q3⟩ | ⟨g, cap, cur, q2, q3⟩⟩ := h.at_
    · exact ⟨none, 0, by rw [q2, q3]⟩
    · exact ⟨_, _, q2⟩
  clear k0 hsz0 htk0
  go_enter Try.func37, Try.ntmps37
  go_wp2_with fail
  refine (refcomes_no w N r z _ _ wv On ws left kv h hl hl2).mono ?_
  rintro e w1 ⟨rfl, b1, h1⟩
  rw [hlf] at h1
  have HB1 := hid b1
  have HR1 := hid h1
  clear b1 h1 h hlf
  go_wp2_with fail
  go_loopw [3] (fun iv wr => ∃ j : Nat, j ≤ ws.length ∧ iv = .int .i64 j ∧ FlowB.ButIn [r, g] w wr ∧ RfAt wr N r z (.slice (some ⟨g, 0, none⟩) On.length cap) (.slice ga ws.length gc) wv (syncR ws On j) ws false lf kv) (fun iv _ => ws.length - (intOf iv).toNat)
  case atStart => exact ⟨0, Nat.zero_le _, rfl, ButIn.of_but HB1.out (by simp), HR1.out⟩
  case round =>
    clear HR1 HB1
    obtain ⟨j, hj, rfl, hbi, hrr⟩ := hrel
    have HIr := hid hbi
    have HRr := hid hrr
    clear hbi hrr
    have KR := hid HRr.out.kr
    have d2 : wr.cell? ⟨r, 2, none⟩ = some (.slice ga ws.length gc) := by rw [KR.out.cell]; rfl
    by_cases hlt : j < ws.length
    · have hjI : (j : Int) < (ws.length : Int) := by omega
      obtain ⟨ba, ca, ua, qa, _, ka1, _, _, _, ta⟩ := owns_form HRr.out.at_ (by omega)
      cases qa
      obtain ⟨bw, cw, uw, rfl, _, kw1, _, _, _, tw⟩ := owns_form HRr.out.wt (by omega)
      obtain ⟨g', cap', cur, qo, _, ko1, _, _, hsz, to⟩ := owns_form HRr.out.on (by rw [syncR_length]; omega)
      rw [syncR_length] at qo to
      cases qo
      obtain ⟨qi, qt, hX⟩ : ∃ qi qt, ws.getD j (0, []) = (qi, qt) := ⟨_, _, rfl⟩
      have hX2 : ws[j] = (qi, qt) := by rw [← hX, List.getD_eq_getElem?_getD, List.getElem?_eq_getElem hlt]; rfl
      have hqw := hw (qi, qt) (by rw [← hX2]; exact List.getElem_mem _)
      have hqi : qi < On.length := hqw.1
      have KA := hid ka1
      have KW := hid kw1
      have KO := hid ko1
      have HTA := hid ta
      have HTW := hid tw
      have HTO := hid to
      have HXA := hid (show (ws.map atV)[j]? = some (.int .i64 (qi : Int)) by simp [hlt, atV, hX2])
      have HXW := hid (show (ws.map waV)[j]? = some (.string (strOfNums qt)) by simp [hlt, waV, strV, hX2])
      clear ka1 kw1 ko1 ta tw to hX2 hqw
      have Hnx := hid (show syncR ws On (j + 1) = (syncR ws On j).set qi qt by rw [syncR, hX])
      go_wp2_with fail
      refine wp_region_flow 18 (List.range 18) [] [] (by kernel_rfl) (by kernel_rfl) ?_
      apply Exists.intro
      refine ⟨fun w0 hb0 hF0 => ?_, ?_⟩
      · skip
        have y1 : ∀ w', (∃ x : Ext w0, w' = x.at_) → w'.cell? ⟨r, 1, none⟩ = some (.slice (some ⟨g, 0, none⟩) On.length cap) := fun w' ⟨x, hx⟩ => by rw [hx]; exact by rw [((KR.out.below hb0).below x.same).cell]; rfl
        have y2 : ∀ w', (∃ x : Ext w0, w' = x.at_) → w'.cell? ⟨r, 2, none⟩ = some (.slice (some ⟨ba, 0, none⟩) ws.length gc) := fun w' ⟨x, hx⟩ => by rw [hx]; exact by rw [((KR.out.below hb0).below x.same).cell]; rfl
        have y3 : ∀ w', (∃ x : Ext w0, w' = x.at_) → w'.cell? ⟨r, 3, none⟩ = some (.slice (some ⟨bw, 0, none⟩) ws.length cw) := fun w' ⟨x, hx⟩ => by rw [hx]; exact by rw [((KR.out.below hb0).below x.same).cell]; rfl
        have y4 : ∀ w', (∃ x : Ext w0, w' = x.at_) → w'.cell? ⟨ba, j, none⟩ = some (.int .i64 (qi : Int)) := fun w' ⟨x, hx⟩ => by rw [hx]; exact row_at ((KA.out.below hb0).below x.same) HTA.out HXA.out
        have y5 : ∀ w', (∃ x : Ext w0, w' = x.at_) → w'.cell? ⟨bw, j, none⟩ = some (.string (strOfNums qt)) := fun w' ⟨x, hx⟩ => by rw [hx]; exact row_at ((KW.out.below hb0).below x.same) HTW.out HXW.out
        simp only [pick, List.range, List.range.loop, List.getElem?_toArray, List.getElem?_cons_succ, List.getElem?_cons_zero, Option.toList_some, List.cons_append, List.nil_append]
        repeat (first | (go_big_quiet_want; refine quiet_load_one 63 _ rfl ⟨r, 1, none⟩ rfl _ y1 _ Try.underlying63 rfl ?_; go_big_quiet_on; simp only [Act.put, List.setIfInBounds_toArray, List.set_cons_zero, List.set_cons_succ]) | (go_big_quiet_want; refine quiet_load_one 32 _ rfl ⟨r, 2, none⟩ rfl _ y2 _ Try.underlying32 rfl ?_; go_big_quiet_on; simp only [Act.put, List.setIfInBounds_toArray, List.set_cons_zero, List.set_cons_succ]) | (go_big_quiet_want; refine quiet_load_one 63 _ rfl ⟨r, 3, none⟩ rfl _ y3 _ Try.underlying63 rfl ?_; go_big_quiet_on; simp only [Act.put, List.setIfInBounds_toArray, List.set_cons_zero, List.set_cons_succ]) | (go_big_quiet_want; refine quiet_load_one 3 _ rfl ⟨ba, j, none⟩ rfl _ y4 _ Try.underlying3 rfl ?_; go_big_quiet_on; simp only [Act.put, List.setIfInBounds_toArray, List.set_cons_zero, List.set_cons_succ]) | (go_big_quiet_want; refine quiet_load_one 9 _ rfl ⟨bw, j, none⟩ rfl _ y5 _ Try.underlying9 rfl ?_; go_big_quiet_on; simp only [Act.put, List.setIfInBounds_toArray, List.set_cons_zero, List.set_cons_succ]) | go_big_quiet_step (fail))
        exact wpQuiet_nil rfl
      refine AlChk.nil ?_
      refine Walk.fin fun w2 hw2 _ _ => ?_
      simp only [List.drop_succ_cons, List.drop_zero]
      have HBw2 := hid (ButIn.on HIr.out (ButIn.of_below (S := [r, g]) hw2))
      have HRw2 := hid (HRr.out.below hw2)
      have KOw2 := hid (KO.out.below hw2)
      clear hw2
      go_wp2_with (
        refine wpList_store_cell rfl 9 _ _ rfl g qi (strV qt) rfl rfl rfl rfl _ 9 KOw2.out (by omega) size_str ?_
        intro w3 hb3 hk3
        have Hb3 := hid hb3
        have K3 := hid hk3
        clear hb3 hk3)
      exact ⟨⟨j + 1, by omega, by first | rfl | simp, ButIn.on HBw2.out (ButIn.of_but Hb3.out (by simp)), by
        have hs := RfAt.store (On := syncR ws On j) (i := qi) (t := qt) (by rw [syncR_length]; exact HRw2.out) hgN (by rw [syncR_length]; exact hcap) hmx hsz (by rw [syncR_length]; exact HTO.out) Hb3.out K3.out
        rw [syncR_length, ← Hnx.out] at hs
        exact hs⟩, by simp [intOf]; omega⟩
    · have hjn : j = ws.length := by omega
      subst hjn
      have hjI : ¬ (ws.length : Int) < (ws.length : Int) := by omega
      go_wp2_with (first
         | (
              refine wpList_store_cell rfl 32 _ _ rfl r 2 (.slice none 0 0) rfl rfl rfl rfl _ 77 KR.out (by simp [rfC]) size_rints ?_
              intro w2 hb2 hk2
              have Hb2 := hid (hb2)
              have K2 := hid (show Blk w2 r (rfC z (.slice (some ⟨g, 0, none⟩) On.length cap) (.slice none 0 0) wv false lf kv) 77 from hk2)
              clear hb2 hk2)
         | (
              refine wpList_store_cell rfl 63 _ _ rfl r 3 (.slice none 0 0) rfl rfl rfl rfl _ 77 K2.out (by simp [rfC]) size_strs ?_
              intro w3 hb3 hk3
              have Hb3 := hid (But.trans Hb2.out hb3)
              have K3 := hid (show Blk w3 r (rfC z (.slice (some ⟨g, 0, none⟩) On.length cap) (.slice none 0 0) (.slice none 0 0) false lf kv) 77 from hk3)
              clear hb3 hk3))
      go_returns
      have hne := owns_ne HRr.out.kr HRr.out.on (by decide) g rfl
      refine ⟨by first | rfl | simp, ButIn.on (ButIn.wide HIr.out (by simp [rfS, Value.ownBlock])) (ButIn.of_but Hb3.out (by simp [rfS])), K3.out, ?_, World.ownsRow_nil _ _ _ _, World.ownsRow_nil _ _ _ _, fun b _ => by simp [Value.ownBlock], HRr.out.lo⟩
      exact owns_in HRr.out.on (ButIn.of_but (S := [r]) Hb3.out (by simp)) (fun b q => by cases q; simpa using hne)
theorem strOfNums_part (xs : List Int) (a b : Nat) : (strOfNums xs).extract a b = strOfNums ((xs.take b).drop a) := by
  apply ByteArray.ext
  apply Array.ext'
  simp [strOfNums, List.drop_take]
def restR (z : Nat) (t : List Int) (On : List (List Int)) : Nat → List (List Int)
  | 0 => On
  | j + 1 => (restR z t On j).set j ((t.take ((j + 1) * z)).drop (j * z))
theorem restR_length (z : Nat) (t : List Int) (On : List (List Int)) : ∀ j, (restR z t On j).length = On.length
  | 0 => rfl
  | j + 1 => by rw [restR, List.length_set, restR_length z t On j]
set_option maxHeartbeats 4000000 in
set_option maxRecDepth 100000 in
theorem refrestore_any (w : World) (N r z : Nat) (ov av wv : Value) (On : List (List Int)) (ws : List (Nat × List Int)) (off : Bool) (left : Int) (kv : Value) (h : RfAt w N r z ov av wv On ws off left kv) (hz : z ≤ 512) (hn1 : 1 ≤ On.length) (hn : On.length ≤ 64) (t : List Int) (ht : t.length = On.length * z) :
    Calls Try.prog 41 #[.pointer (some ⟨r, 0, none⟩), .string (strOfNums t)] w fun e w' => e = .returned (.tuple #[]) ∧ FlowB.ButIn (rfS r ov av wv) w w' ∧ RfAt w' N r z ov (.slice none 0 0) (.slice none 0 0) (restR z t On On.length) [] off left kv := by
  obtain ⟨g, cap, cur0, rfl, hgN, k0, hcap, hmx, hsz0, htk0⟩ := owns_form h.on (by omega)
  have Hb := hid (Below.refl w.heap.size w)
  have HR := hid h
  clear h k0 hsz0 htk0
  have hsz := strOfNums_size t
  go_enter Try.func41, Try.ntmps41
  go_wp2_with fail
  go_loopw [4] (fun iv wr => ∃ j : Nat, j ≤ On.length ∧ iv = .int .i64 j ∧ FlowB.ButIn [r, g] w wr ∧ RfAt wr N r z (.slice (some ⟨g, 0, none⟩) On.length cap) av wv (restR z t On j) ws off left kv) (fun iv _ => On.length - (intOf iv).toNat)
  case atStart => exact ⟨0, Nat.zero_le _, rfl, ButIn.of_below Hb.out, HR.out⟩
  case round =>
    clear HR Hb
    obtain ⟨j, hj, rfl, hbi, hrr⟩ := hrel
    have HIr := hid hbi
    have HRr := hid hrr
    clear hbi hrr
    have KR := hid HRr.out.kr
    have d1 : wr.cell? ⟨r, 1, none⟩ = some (.slice (some ⟨g, 0, none⟩) On.length cap) := by rw [KR.out.cell]; rfl
    by_cases hlt : j < On.length
    · have hjI : (j : Int) < (On.length : Int) := by omega
      obtain ⟨g', cap', cur, qo, _, ko1, _, _, hszc, to⟩ := owns_form HRr.out.on (by rw [restR_length]; omega)
      rw [restR_length] at qo to
      cases qo
      have KO := hid ko1
      have HTO := hid to
      clear ko1 to
      have Hnx := hid (show restR z t On (j + 1) = (restR z t On j).set j ((t.take ((j + 1) * z)).drop (j * z)) by rw [restR])
      have hq := strOfNums_part t (j * z) ((j + 1) * z)
      have hm1 : (j + 1) * z ≤ On.length * z := Nat.mul_le_mul_right z (by omega)
      have hm2 : j * z ≤ (j + 1) * z := Nat.mul_le_mul_right z (by omega)
      have hm3 : On.length * z ≤ 64 * 512 := Nat.mul_le_mul hn hz
      have i1 : (j : Int) * (z : Int) = ((j * z : Nat) : Int) := by simp
      have i2 : ((j : Int) + 1) * (z : Int) = (((j + 1) * z : Nat) : Int) := by simp
      generalize hG : (t.take ((j + 1) * z)).drop (j * z) = G at *
      generalize hA : j * z = A at *
      generalize hC : (j + 1) * z = C at *
      clear hG hA hC
      go_wp2_with fail
      refine wp_region_flow 20 (List.range 20) [] [] (by kernel_rfl) (by kernel_rfl) ?_
      apply Exists.intro
      refine ⟨fun w0 hb0 hF0 => ?_, ?_⟩
      · skip
        have y0 : ∀ w', (∃ x : Ext w0, w' = x.at_) → w'.cell? ⟨r, 0, none⟩ = some (.int .i64 (z : Int)) := fun w' ⟨x, hx⟩ => by rw [hx]; exact by rw [((KR.out.below hb0).below x.same).cell]; rfl
        have y1 : ∀ w', (∃ x : Ext w0, w' = x.at_) → w'.cell? ⟨r, 1, none⟩ = some (.slice (some ⟨g, 0, none⟩) On.length cap) := fun w' ⟨x, hx⟩ => by rw [hx]; exact by rw [((KR.out.below hb0).below x.same).cell]; rfl
        simp only [pick, List.range, List.range.loop, List.getElem?_toArray, List.getElem?_cons_succ, List.getElem?_cons_zero, Option.toList_some, List.cons_append, List.nil_append]
        repeat (first | (go_big_quiet_want; refine quiet_load_one 3 _ rfl ⟨r, 0, none⟩ rfl _ y0 _ Try.underlying3 rfl ?_; go_big_quiet_on; simp only [Act.put, List.setIfInBounds_toArray, List.set_cons_zero, List.set_cons_succ]) | (go_big_quiet_want; refine quiet_load_one 63 _ rfl ⟨r, 1, none⟩ rfl _ y1 _ Try.underlying63 rfl ?_; go_big_quiet_on; simp only [Act.put, List.setIfInBounds_toArray, List.set_cons_zero, List.set_cons_succ]) | go_big_quiet_step (fail))
        
        exact wpQuiet_nil rfl
      refine AlChk.nil ?_
      refine Walk.fin fun w2 hw2 _ _ => ?_
      simp only [List.drop_succ_cons, List.drop_zero]
      have HBw2 := hid (ButIn.on HIr.out (ButIn.of_below (S := [r, g]) hw2))
      have HRw2 := hid (HRr.out.below hw2)
      have KOw2 := hid (KO.out.below hw2)
      clear hw2
      go_wp2_with (
        refine wpList_store_cell rfl 9 _ _ rfl g j (strV G) rfl rfl rfl rfl _ 9 KOw2.out (by omega) size_str ?_
        intro w3 hb3 hk3
        have Hb3 := hid hb3
        have K3 := hid hk3
        clear hb3 hk3)
      exact ⟨⟨j + 1, by omega, by first | rfl | simp, ButIn.on HBw2.out (ButIn.of_but Hb3.out (by simp)), by
        have hs := RfAt.store (On := restR z t On j) (i := j) (t := G) (by rw [restR_length]; exact HRw2.out) hgN (by rw [restR_length]; exact hcap) hmx hszc (by rw [restR_length]; exact HTO.out) Hb3.out K3.out
        rw [restR_length, ← Hnx.out] at hs
        exact hs⟩, by simp [intOf]; omega⟩
    · have hjn : j = On.length := by omega
      subst hjn
      have hjI : ¬ (On.length : Int) < (On.length : Int) := by omega
      go_wp2_with (first
         | (
              refine wpList_store_cell rfl 32 _ _ rfl r 2 (.slice none 0 0) rfl rfl rfl rfl _ 77 KR.out (by simp [rfC]) size_rints ?_
              intro w2 hb2 hk2
              have Hb2 := hid (hb2)
              have K2 := hid (show Blk w2 r (rfC z (.slice (some ⟨g, 0, none⟩) On.length cap) (.slice none 0 0) wv off left kv) 77 from hk2)
              clear hb2 hk2)
         | (
              refine wpList_store_cell rfl 63 _ _ rfl r 3 (.slice none 0 0) rfl rfl rfl rfl _ 77 K2.out (by simp [rfC]) size_strs ?_
              intro w3 hb3 hk3
              have Hb3 := hid (But.trans Hb2.out hb3)
              have K3 := hid (show Blk w3 r (rfC z (.slice (some ⟨g, 0, none⟩) On.length cap) (.slice none 0 0) (.slice none 0 0) off left kv) 77 from hk3)
              clear hb3 hk3))
      go_returns
      have hne := owns_ne HRr.out.kr HRr.out.on (by decide) g rfl
      refine ⟨by first | rfl | simp, ButIn.on (ButIn.wide HIr.out (by simp [rfS, Value.ownBlock])) (ButIn.of_but Hb3.out (by simp [rfS])), K3.out, ?_, World.ownsRow_nil _ _ _ _, World.ownsRow_nil _ _ _ _, fun b _ => by simp [Value.ownBlock], HRr.out.lo⟩
      exact owns_in HRr.out.on (ButIn.of_but (S := [r]) Hb3.out (by simp)) (fun b q => by cases q; simpa using hne)
end Go.Proofs.Ytmpgnpkodapidaa
