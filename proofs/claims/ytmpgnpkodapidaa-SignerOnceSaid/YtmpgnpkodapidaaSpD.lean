/-
  Layer 12: the document's disk: the power fails.
-/
import Derived.Test.YtmpgnpkodapidaaSpC
namespace Go.Proofs.Ytmpgnpkodapidaa
open Go.ChangeShapes Go.WideShapes Go.ChangeAt Go.RowKit

def keptN (z : Nat) (ks : List Int) (j : Nat) : Nat := if j < ks.length then clampZ z (ks.getD j 0) else 0
def crashR (z : Nat) (ks : List Int) (ws : List (Nat × List Int)) (On : List (List Int)) : Nat → List (List Int)
  | 0 => On
  | j + 1 => (crashR z ks ws On j).set (ws.getD j (0, [])).1 ((ws.getD j (0, [])).2.take (keptN z ks j) ++ ((crashR z ks ws On j).getD (ws.getD j (0, [])).1 []).drop (keptN z ks j))
theorem crashR_length (z : Nat) (ks : List Int) (ws : List (Nat × List Int)) (On : List (List Int)) : ∀ j, (crashR z ks ws On j).length = On.length
  | 0 => rfl
  | j + 1 => by rw [crashR, List.length_set, crashR_length z ks ws On j]
theorem mem_set_cases {α : Type} {l : List α} {i : Nat} {a x : α} (h : x ∈ l.set i a) : x ∈ l ∨ x = a := by
  rcases List.mem_or_eq_of_mem_set h with h | h
  · exact .inl h
  · exact .inr h
theorem keptN_le (z : Nat) (ks : List Int) (j : Nat) : keptN z ks j ≤ z := by
  unfold keptN; split
  · exact clampZ_le _ _
  · omega
theorem crashR_small (z : Nat) (ks : List Int) (ws : List (Nat × List Int)) (On : List (List Int)) (hO : ∀ t ∈ On, t.length = z) (hw : ∀ x ∈ ws, x.1 < On.length ∧ x.2.length = z) : ∀ j, j ≤ ws.length → ∀ t ∈ crashR z ks ws On j, t.length = z
  | 0, _, t, ht => hO t ht
  | j + 1, hj, t, ht => by
    rw [crashR] at ht
    have hx := hw (ws.getD j (0, [])) (by rw [List.getD_eq_getElem?_getD, List.getElem?_eq_getElem (by omega)]; exact List.getElem_mem _)
    have hk := keptN_le z ks j
    rcases mem_set_cases ht with h | rfl
    · exact crashR_small z ks ws On hO hw j (by omega) t h
    · have hl := crashR_small z ks ws On hO hw j (by omega) ((crashR z ks ws On j).getD (ws.getD j (0, [])).1 []) (by
        rw [List.getD_eq_getElem?_getD, List.getElem?_eq_getElem (by rw [crashR_length]; exact hx.1)]; exact List.getElem_mem _)
      rw [List.length_append, List.length_take, List.length_drop, hl, hx.2]
      omega
theorem take_set_lt {l : List Value} {n i : Nat} {v : Value} : (l.set i v).take n = (l.take n).set i v := by
  rw [List.take_set]
/-- A string stored to the row of sectors. -/
theorem RfAt.store {w w' : World} {N r z g cap i : Nat} {av wv : Value} {On : List (List Int)} {ws : List (Nat × List Int)} {off : Bool} {left : Int} {kv : Value} {cur : Array Value} {t : List Int} (h : RfAt w N r z (.slice (some ⟨g, 0, none⟩) On.length cap) av wv On ws off left kv) (hN : N ≤ g) (h1 : On.length ≤ cap) (h2 : cap ≤ maxLen) (h3 : cur.size = cap) (h4 : cur.toList.take On.length = On.map strV) (hb : But g w w') (hk : Blk w' g (cur.setIfInBounds i (strV t)) 9) :
    RfAt w' N r z (.slice (some ⟨g, 0, none⟩) On.length cap) av wv (On.set i t) ws off left kv := by
  have hi : FlowB.ButIn [g] w w' := ButIn.of_but hb (by simp)
  have hr : r ≠ g := fun e => (owns_ne h.kr h.on (by decide)) g rfl e.symm
  refine ⟨hb.blk h.kr hr, ?_, owns_in h.at_ hi (fun b q => ?_), owns_in h.wt hi (fun b q => ?_), fun b q => h.ne b q, h.lo⟩
  · have := owns_put (N := N) (n := On.length) (cap := cap) (xs := (On.set i t).map strV) (by simp) hN hk h1 h2 (by simpa using h3) (by rw [Array.toList_setIfInBounds, take_set_lt, h4, List.map_set])
    rw [List.length_set]
    exact this
  · have := owns_two h.on h.at_ (by decide) b q
    simp only [Value.ownBlock] at this
    simp only [List.mem_cons, List.not_mem_nil, or_false]
    exact fun e => this (by rw [e])
  · have := h.ne g rfl
    simp only [List.mem_cons, List.not_mem_nil, or_false]
    exact fun e => this (by rw [q, e])
set_option maxHeartbeats 4000000 in
set_option maxRecDepth 100000 in
theorem refcrash_off (w : World) (N r z : Nat) (ov av wv : Value) (On : List (List Int)) (ws : List (Nat × List Int)) (left : Int) (kv : Value) (h : RfAt w N r z ov av wv On ws true left kv) (v : Value) :
    Calls Try.prog 39 #[.pointer (some ⟨r, 0, none⟩), v] w fun e w' => e = .returned (.tuple #[]) ∧ Below w.heap.size w w' := by
  have Hb := hid (Below.refl w.heap.size w)
  have c4 : w.cell? ⟨r, 4, none⟩ = some (.bool true) := by rw [h.kr.cell]; rfl
  go_enter Try.func39, Try.ntmps39
  go_wp2_with fail
  go_returns
  exact ⟨by first | rfl | simp, Hb.out⟩
set_option maxHeartbeats 4000000 in
set_option maxRecDepth 100000 in
theorem refcrash_on (w : World) (N r z : Nat) (ov av wv : Value) (On : List (List Int)) (ws : List (Nat × List Int)) (left : Int) (kv : Value) (h : RfAt w N r z ov av wv On ws false left kv) (hz : z ≤ 512) (hn1 : 1 ≤ On.length) (hO : ∀ t ∈ On, t.length = z) (hw : ∀ x ∈ ws, x.1 < On.length ∧ x.2.length = z) (hlw : ws.length ≤ 1000) (ka : Option Addr) (kc : Nat) (ks : List Int) (hK : IntsAt w (rfS r ov av wv) ka ks) :
    Calls Try.prog 39 #[.pointer (some ⟨r, 0, none⟩), .slice ka ks.length kc] w fun e w' => e = .returned (.tuple #[]) ∧ FlowB.ButIn (rfS r ov av wv) w w' ∧ RfAt w' N r z ov (.slice none 0 0) (.slice none 0 0) (crashR z ks ws On ws.length) [] true (-1) kv := by
  have HR := hid h
  have HK := hid hK
  have Hb := hid (Below.refl w.heap.size w)
  have c4 : w.cell? ⟨r, 4, none⟩ = some (.bool false) := by rw [h.kr.cell]; rfl
  obtain ⟨g, cap, cur0, rfl, hgN, k0, hcap, hmx, hsz0, htk0⟩ := owns_form h.on (by omega)
  obtain ⟨ga, gc, rfl⟩ : ∃ ga gc, av = .slice ga ws.length gc := by
    obtain ⟨q1, ⟨q2, q3⟩ | ⟨g, cap, cur, q2, q3⟩⟩ := h.at_
    · exact ⟨none, 0, by rw [q2, q3]⟩
    · exact ⟨_, _, q2⟩
  clear h hK k0 hsz0 htk0
  go_enter Try.func39, Try.ntmps39
  go_wp2_with fail
  go_loopw [4] (fun iv wr => ∃ j : Nat, j ≤ ws.length ∧ iv = .int .i64 j ∧ FlowB.ButIn [g] w wr ∧ RfAt wr N r z (.slice (some ⟨g, 0, none⟩) On.length cap) (.slice ga ws.length gc) wv (crashR z ks ws On j) ws false left kv) (fun iv _ => ws.length - (intOf iv).toNat)
  case atStart => exact ⟨0, Nat.zero_le _, rfl, ButIn.of_below Hb.out, HR.out⟩
  case round =>
    obtain ⟨j, hj, rfl, hbi, hrr⟩ := hrel
    have HIr := hid hbi
    have HRr := hid hrr
    clear hbi hrr
    have KR := hid HRr.out.kr
    have d2 : wr.cell? ⟨r, 2, none⟩ = some (.slice ga ws.length gc) := by rw [KR.out.cell]; rfl
    by_cases hlt : j < ws.length
    · have hjI : (j : Int) < (ws.length : Int) := by omega
      obtain ⟨ba, ca, ua, qa, _, ka1, _, _, _, ta⟩ := owns_form HRr.out.at_ (by omega)
      cases qa
      obtain ⟨bw, cw, uw, rfl, _, kw1, _, _, _, tw⟩ := owns_form HRr.out.wt (by omega)
      obtain ⟨g', cap', cur, qo, _, ko1, _, _, hsz, to⟩ := owns_form HRr.out.on (by rw [crashR_length]; omega)
      rw [crashR_length] at qo to
      cases qo
      obtain ⟨qi, qt, hX⟩ : ∃ qi qt, ws.getD j (0, []) = (qi, qt) := ⟨_, _, rfl⟩
      have hX2 : ws[j] = (qi, qt) := by rw [← hX, List.getD_eq_getElem?_getD, List.getElem?_eq_getElem hlt]; rfl
      have hqw := hw (qi, qt) (by rw [← hX2]; exact List.getElem_mem _)
      have hqi : qi < On.length := hqw.1
      have hqt : qt.length = z := hqw.2
      obtain ⟨oi, hoi⟩ : ∃ oi, (crashR z ks ws On j).getD qi [] = oi := ⟨_, rfl⟩
      have hol : oi.length = z := by
        rw [← hoi]
        exact crashR_small z ks ws On hO hw j hj _ (by rw [List.getD_eq_getElem?_getD, List.getElem?_eq_getElem (by rw [crashR_length]; exact hqi)]; exact List.getElem_mem _)
      have KA := hid ka1
      have KW := hid kw1
      have KO := hid ko1
      have HTA := hid ta
      have HTW := hid tw
      have HTO := hid to
      have HXA := hid (show (ws.map atV)[j]? = some (.int .i64 (qi : Int)) by simp [hlt, atV, hX2])
      have HXW := hid (show (ws.map waV)[j]? = some (.string (strOfNums qt)) by simp [hlt, waV, strV, hX2])
      have HXO := hid (show ((crashR z ks ws On j).map strV)[qi]? = some (.string (strOfNums oi)) by rw [← hoi]; simp [crashR_length, hqi, strV])
      clear ka1 kw1 ko1 ta tw to hX2 hqw
      by_cases hjk : j < ks.length
      · have hkI : (j : Int) < (ks.length : Int) := by omega
        obtain ⟨h2 | ⟨x, o, rfl, hx, hxl, hc⟩⟩ := HK.out.butIn (S := rfS r (.slice (some ⟨g, 0, none⟩) On.length cap) (.slice (some ⟨ba, 0, none⟩) ws.length gc) (.slice (some ⟨bw, 0, none⟩) ws.length cw)) (ButIn.wide HIr.out (by simp [rfS, Value.ownBlock]))
        · omega
        obtain ⟨nv, hnv⟩ : ∃ nv, ks.getD j 0 = nv := ⟨_, rfl⟩
        have hc1 := hc j hjk
        rw [hnv] at hc1
        clear hc hx
        have hm : keptN z ks j = clampZ z nv := by unfold keptN; rw [if_pos hjk, hnv]
        have Hnx := hid (show crashR z ks ws On (j + 1) = (crashR z ks ws On j).set qi (qt.take (clampZ z nv) ++ oi.drop (clampZ z nv)) by rw [crashR, hX, hm, hoi])
        go_wp2_with fail
        refine wp_region_flow 33 (List.range 33) [] [] (by kernel_rfl) (by kernel_rfl) ?_
        apply Exists.intro
        refine ⟨fun w0 hb0 hF0 => ?_, ?_⟩
        · skip
          have y1 : ∀ w', (∃ x : Ext w0, w' = x.at_) → w'.cell? ⟨r, 1, none⟩ = some (.slice (some ⟨g, 0, none⟩) On.length cap) := fun w' ⟨x, hx⟩ => by rw [hx]; exact by rw [((KR.out.below hb0).below x.same).cell]; rfl
          have y2 : ∀ w', (∃ x : Ext w0, w' = x.at_) → w'.cell? ⟨r, 2, none⟩ = some (.slice (some ⟨ba, 0, none⟩) ws.length gc) := fun w' ⟨x, hx⟩ => by rw [hx]; exact by rw [((KR.out.below hb0).below x.same).cell]; rfl
          have y3 : ∀ w', (∃ x : Ext w0, w' = x.at_) → w'.cell? ⟨r, 3, none⟩ = some (.slice (some ⟨bw, 0, none⟩) ws.length cw) := fun w' ⟨x, hx⟩ => by rw [hx]; exact by rw [((KR.out.below hb0).below x.same).cell]; rfl
          have y4 : ∀ w', (∃ x : Ext w0, w' = x.at_) → w'.cell? ⟨ba, j, none⟩ = some (.int .i64 (qi : Int)) := fun w' ⟨x, hx⟩ => by rw [hx]; exact row_at ((KA.out.below hb0).below x.same) HTA.out HXA.out
          have y5 : ∀ w', (∃ x : Ext w0, w' = x.at_) → w'.cell? ⟨bw, j, none⟩ = some (.string (strOfNums qt)) := fun w' ⟨x, hx⟩ => by rw [hx]; exact row_at ((KW.out.below hb0).below x.same) HTW.out HXW.out
          have y6 : ∀ w', (∃ x : Ext w0, w' = x.at_) → w'.cell? ⟨g, qi, none⟩ = some (.string (strOfNums oi)) := fun w' ⟨x, hx⟩ => by rw [hx]; exact row_at ((KO.out.below hb0).below x.same) HTO.out HXO.out
          have c0 := fun e : Ext w0 => refpart_any z oi qt nv e.at_ hz hol hqt
          simp only [pick, List.range, List.range.loop, List.getElem?_toArray, List.getElem?_cons_succ, List.getElem?_cons_zero, Option.toList_some, List.cons_append, List.nil_append]
          repeat (first | (go_big_quiet_want; refine quiet_load_one 63 _ rfl ⟨r, 1, none⟩ rfl _ y1 _ Try.underlying63 rfl ?_; go_big_quiet_on; simp only [Act.put, List.setIfInBounds_toArray, List.set_cons_zero, List.set_cons_succ]) | (go_big_quiet_want; refine quiet_load_one 32 _ rfl ⟨r, 2, none⟩ rfl _ y2 _ Try.underlying32 rfl ?_; go_big_quiet_on; simp only [Act.put, List.setIfInBounds_toArray, List.set_cons_zero, List.set_cons_succ]) | (go_big_quiet_want; refine quiet_load_one 63 _ rfl ⟨r, 3, none⟩ rfl _ y3 _ Try.underlying63 rfl ?_; go_big_quiet_on; simp only [Act.put, List.setIfInBounds_toArray, List.set_cons_zero, List.set_cons_succ]) | (go_big_quiet_want; refine quiet_load_one 3 _ rfl ⟨ba, j, none⟩ rfl _ y4 _ Try.underlying3 rfl ?_; go_big_quiet_on; simp only [Act.put, List.setIfInBounds_toArray, List.set_cons_zero, List.set_cons_succ]) | (go_big_quiet_want; refine quiet_load_one 9 _ rfl ⟨bw, j, none⟩ rfl _ y5 _ Try.underlying9 rfl ?_; go_big_quiet_on; simp only [Act.put, List.setIfInBounds_toArray, List.set_cons_zero, List.set_cons_succ]) | (go_big_quiet_want; refine quiet_load_one 9 _ rfl ⟨g, qi, none⟩ rfl _ y6 _ Try.underlying9 rfl ?_; go_big_quiet_on; simp only [Act.put, List.setIfInBounds_toArray, List.set_cons_zero, List.set_cons_succ]) | go_big_quiet_step (first | (go_at_call 59; with_reducible exact Calls.ext (c0 _))))
          exact wpQuiet_nil rfl
        refine AlChk.nil ?_
        refine Walk.fin fun w2 hw2 _ _ => ?_
        simp only [List.drop_succ_cons, List.drop_zero]
        have HBw2 := hid (ButIn.on HIr.out (ButIn.of_below (S := [g]) hw2))
        have HRw2 := hid (HRr.out.below hw2)
        have KOw2 := hid (KO.out.below hw2)
        clear hw2
        go_wp2_with (
          refine wpList_store_cell rfl 9 _ _ rfl g qi (strV (qt.take (clampZ z nv) ++ oi.drop (clampZ z nv))) rfl rfl rfl rfl _ 9 KOw2.out (by omega) size_str ?_
          intro w3 hb3 hk3
          have Hb3 := hid hb3
          have K3 := hid hk3
          clear hb3 hk3)
        exact ⟨⟨j + 1, by omega, by first | rfl | simp, ButIn.on HBw2.out (ButIn.of_but Hb3.out (by simp)), by
          have hs := RfAt.store (On := crashR z ks ws On j) (i := qi) (t := qt.take (clampZ z nv) ++ oi.drop (clampZ z nv)) (by rw [crashR_length]; exact HRw2.out) hgN (by rw [crashR_length]; exact hcap) hmx hsz (by rw [crashR_length]; exact HTO.out) Hb3.out K3.out
          rw [crashR_length, ← Hnx.out] at hs
          exact hs⟩, by simp [intOf]; omega⟩
      · have hkI : ¬ (j : Int) < (ks.length : Int) := by omega
        have hm : keptN z ks j = clampZ z (0 : Int) := by unfold keptN; rw [if_neg hjk]; unfold clampZ; split <;> first | rfl | (split <;> omega)
        have Hnx := hid (show crashR z ks ws On (j + 1) = (crashR z ks ws On j).set qi (qt.take (clampZ z (0 : Int)) ++ oi.drop (clampZ z (0 : Int))) by rw [crashR, hX, hm, hoi])
        go_wp2_with fail
        refine wp_region_flow 33 (List.range 33) [] [] (by kernel_rfl) (by kernel_rfl) ?_
        apply Exists.intro
        refine ⟨fun w0 hb0 hF0 => ?_, ?_⟩
        · skip
          have y1 : ∀ w', (∃ x : Ext w0, w' = x.at_) → w'.cell? ⟨r, 1, none⟩ = some (.slice (some ⟨g, 0, none⟩) On.length cap) := fun w' ⟨x, hx⟩ => by rw [hx]; exact by rw [((KR.out.below hb0).below x.same).cell]; rfl
          have y2 : ∀ w', (∃ x : Ext w0, w' = x.at_) → w'.cell? ⟨r, 2, none⟩ = some (.slice (some ⟨ba, 0, none⟩) ws.length gc) := fun w' ⟨x, hx⟩ => by rw [hx]; exact by rw [((KR.out.below hb0).below x.same).cell]; rfl
          have y3 : ∀ w', (∃ x : Ext w0, w' = x.at_) → w'.cell? ⟨r, 3, none⟩ = some (.slice (some ⟨bw, 0, none⟩) ws.length cw) := fun w' ⟨x, hx⟩ => by rw [hx]; exact by rw [((KR.out.below hb0).below x.same).cell]; rfl
          have y4 : ∀ w', (∃ x : Ext w0, w' = x.at_) → w'.cell? ⟨ba, j, none⟩ = some (.int .i64 (qi : Int)) := fun w' ⟨x, hx⟩ => by rw [hx]; exact row_at ((KA.out.below hb0).below x.same) HTA.out HXA.out
          have y5 : ∀ w', (∃ x : Ext w0, w' = x.at_) → w'.cell? ⟨bw, j, none⟩ = some (.string (strOfNums qt)) := fun w' ⟨x, hx⟩ => by rw [hx]; exact row_at ((KW.out.below hb0).below x.same) HTW.out HXW.out
          have y6 : ∀ w', (∃ x : Ext w0, w' = x.at_) → w'.cell? ⟨g, qi, none⟩ = some (.string (strOfNums oi)) := fun w' ⟨x, hx⟩ => by rw [hx]; exact row_at ((KO.out.below hb0).below x.same) HTO.out HXO.out
          have c0 := fun e : Ext w0 => refpart_any z oi qt (0 : Int) e.at_ hz hol hqt
          simp only [pick, List.range, List.range.loop, List.getElem?_toArray, List.getElem?_cons_succ, List.getElem?_cons_zero, Option.toList_some, List.cons_append, List.nil_append]
          repeat (first | (go_big_quiet_want; refine quiet_load_one 63 _ rfl ⟨r, 1, none⟩ rfl _ y1 _ Try.underlying63 rfl ?_; go_big_quiet_on; simp only [Act.put, List.setIfInBounds_toArray, List.set_cons_zero, List.set_cons_succ]) | (go_big_quiet_want; refine quiet_load_one 32 _ rfl ⟨r, 2, none⟩ rfl _ y2 _ Try.underlying32 rfl ?_; go_big_quiet_on; simp only [Act.put, List.setIfInBounds_toArray, List.set_cons_zero, List.set_cons_succ]) | (go_big_quiet_want; refine quiet_load_one 63 _ rfl ⟨r, 3, none⟩ rfl _ y3 _ Try.underlying63 rfl ?_; go_big_quiet_on; simp only [Act.put, List.setIfInBounds_toArray, List.set_cons_zero, List.set_cons_succ]) | (go_big_quiet_want; refine quiet_load_one 3 _ rfl ⟨ba, j, none⟩ rfl _ y4 _ Try.underlying3 rfl ?_; go_big_quiet_on; simp only [Act.put, List.setIfInBounds_toArray, List.set_cons_zero, List.set_cons_succ]) | (go_big_quiet_want; refine quiet_load_one 9 _ rfl ⟨bw, j, none⟩ rfl _ y5 _ Try.underlying9 rfl ?_; go_big_quiet_on; simp only [Act.put, List.setIfInBounds_toArray, List.set_cons_zero, List.set_cons_succ]) | (go_big_quiet_want; refine quiet_load_one 9 _ rfl ⟨g, qi, none⟩ rfl _ y6 _ Try.underlying9 rfl ?_; go_big_quiet_on; simp only [Act.put, List.setIfInBounds_toArray, List.set_cons_zero, List.set_cons_succ]) | go_big_quiet_step (first | (go_at_call 59; with_reducible exact Calls.ext (c0 _))))
          exact wpQuiet_nil rfl
        refine AlChk.nil ?_
        refine Walk.fin fun w2 hw2 _ _ => ?_
        simp only [List.drop_succ_cons, List.drop_zero]
        have HBw2 := hid (ButIn.on HIr.out (ButIn.of_below (S := [g]) hw2))
        have HRw2 := hid (HRr.out.below hw2)
        have KOw2 := hid (KO.out.below hw2)
        clear hw2
        go_wp2_with (
          refine wpList_store_cell rfl 9 _ _ rfl g qi (strV (qt.take (clampZ z (0 : Int)) ++ oi.drop (clampZ z (0 : Int)))) rfl rfl rfl rfl _ 9 KOw2.out (by omega) size_str ?_
          intro w3 hb3 hk3
          have Hb3 := hid hb3
          have K3 := hid hk3
          clear hb3 hk3)
        exact ⟨⟨j + 1, by omega, by first | rfl | simp, ButIn.on HBw2.out (ButIn.of_but Hb3.out (by simp)), by
          have hs := RfAt.store (On := crashR z ks ws On j) (i := qi) (t := qt.take (clampZ z (0 : Int)) ++ oi.drop (clampZ z (0 : Int))) (by rw [crashR_length]; exact HRw2.out) hgN (by rw [crashR_length]; exact hcap) hmx hsz (by rw [crashR_length]; exact HTO.out) Hb3.out K3.out
          rw [crashR_length, ← Hnx.out] at hs
          exact hs⟩, by simp [intOf]; omega⟩
    · have hjn : j = ws.length := by omega
      subst hjn
      have hjI : ¬ (ws.length : Int) < (ws.length : Int) := by omega
      go_wp2_with (first
         | (
            refine wpList_store_cell rfl 32 _ _ rfl r 2 (.slice none 0 0) rfl rfl rfl rfl _ 77 KR.out (by simp [rfC]) size_rints ?_
            intro w1 hb1 hk1
            have Hb1 := hid hb1
            have K1 := hid (show Blk w1 r (rfC z (.slice (some ⟨g, 0, none⟩) On.length cap) (.slice none 0 0) wv false left kv) 77 from hk1)
            clear hb1 hk1)
         | (
            refine wpList_store_cell rfl 63 _ _ rfl r 3 (.slice none 0 0) rfl rfl rfl rfl _ 77 K1.out (by simp [rfC]) size_strs ?_
            intro w2 hb2 hk2
            have Hb2 := hid (But.trans Hb1.out hb2)
            have K2 := hid (show Blk w2 r (rfC z (.slice (some ⟨g, 0, none⟩) On.length cap) (.slice none 0 0) (.slice none 0 0) false left kv) 77 from hk2)
            clear hb2 hk2)
         | (
            refine wpList_store_cell rfl 4 _ _ rfl r 4 (.bool true) rfl rfl rfl rfl _ 77 K2.out (by simp [rfC]) size_rbool ?_
            intro w3 hb3 hk3
            have Hb3 := hid (But.trans Hb2.out hb3)
            have K3 := hid (show Blk w3 r (rfC z (.slice (some ⟨g, 0, none⟩) On.length cap) (.slice none 0 0) (.slice none 0 0) true left kv) 77 from hk3)
            clear hb3 hk3)
         | (
            refine wpList_store_cell rfl 3 _ _ rfl r 5 (.int .i64 (-1)) rfl rfl rfl rfl _ 77 K3.out (by simp [rfC]) size_rint ?_
            intro w4 hb4 hk4
            have Hb4 := hid (But.trans Hb3.out hb4)
            have K4 := hid (show Blk w4 r (rfC z (.slice (some ⟨g, 0, none⟩) On.length cap) (.slice none 0 0) (.slice none 0 0) true (-1) kv) 77 from hk4)
            clear hb4 hk4))
      go_returns
      have hne := owns_ne HRr.out.kr HRr.out.on (by decide) g rfl
      refine ⟨by first | rfl | simp, ButIn.on (ButIn.wide HIr.out (by simp [rfS, Value.ownBlock])) (ButIn.of_but Hb4.out (by simp [rfS])), K4.out, ?_, World.ownsRow_nil _ _ _ _, World.ownsRow_nil _ _ _ _, fun b _ => by simp [Value.ownBlock], HRr.out.lo⟩
      exact owns_in HRr.out.on (ButIn.of_but (S := [r]) Hb4.out (by simp)) (fun b q => by cases q; simpa using hne)
end Go.Proofs.Ytmpgnpkodapidaa
