/-
  Layer 8: one-time keys, as the reference makes them: the rows.
-/
import Derived.Test.YtjkfbeillmeomaaDoorWotsQ
import Derived.Test.YtjkfbeillmeomaaDoorUp
namespace Go.Proofs.YtjkfbeillmeomaaDoor
open Go.ChangeShapes Go.WideShapes Go.ChangeAt Go.RowKit

def preW (P : Nat → List Int) (k : Nat) : List (List Int) := (List.range k).map P
theorem preW_succ (P : Nat → List Int) (k : Nat) : preW P (k + 1) = preW P k ++ [P k] := by
  unfold preW
  rw [List.range_succ, List.map_append]
  rfl
theorem preW_length (P : Nat → List Int) (k : Nat) : (preW P k).length = k := by simp [preW]
theorem preW_full (P : Nat → List Int) : preW P 67 = rowW P := rfl
/-- A row of digests, wherever it lies. -/
def RowV (n : Nat) (ds : List (List Int)) (v : Value) (w : World) : Prop := ∃ a cap, v = .slice a n cap ∧ DigsAt w a n cap ds
theorem RowV.below {n : Nat} {ds : List (List Int)} {v : Value} {w w' : World} (h : RowV n ds v w) (hb : Below w.heap.size w w') : RowV n ds v w' := by
  obtain ⟨a, c, h1, h2⟩ := h
  exact ⟨a, c, h1, h2.below hb⟩
theorem RowV.of_own {w : World} {base n : Nat} {e : TypeId} {v : Value} {ds : List (List Int)} (h : OwnD w base e v ds) (hn : ds.length = n) : RowV n ds v w := by
  subst hn
  obtain ⟨a, c, h1, h2, _⟩ := h.digs
  exact ⟨a, c, h1, h2⟩
theorem RowV.of_blk {w : World} {g : Nat} {T : TypeId} {ds : List (List Int)} (h : Blk w g (dcs ds) T) (hd : ∀ d ∈ ds, Dg d) (n : Nat) (hn : ds.length = n) (hm : n ≤ 9223372036854775807) : RowV n ds (.slice (some ⟨g, 0, none⟩) n n) w := by
  subst hn
  exact ⟨_, _, rfl, DigsAt.of_blk h hd rfl (Nat.le_refl _) hm⟩
theorem RowV.digs {w : World} {a : Option Addr} {n c m : Nat} {ds : List (List Int)} (h : RowV m ds (.slice a n c) w) : n = m ∧ DigsAt w a n c ds := by
  obtain ⟨a', c', h1, h2⟩ := h
  injection h1 with h3 h4 h5
  subst h3 h4 h5
  exact ⟨rfl, h2⟩
/-- 67 numbers, wherever they lie. -/
def IntV (F : Nat → Nat) (v : Value) (w : World) : Prop := ∃ g cap, v = .slice (some ⟨g, 0, none⟩) 67 cap ∧ g < w.heap.size ∧ ∀ i, i < 67 → w.cell? ⟨g, i, none⟩ = some (.int .i64 (F i : Int))
theorem IntV.below {F : Nat → Nat} {v : Value} {w w' : World} (h : IntV F v w) (hb : Below w.heap.size w w') : IntV F v w' := by
  obtain ⟨g, c, h1, h2, h3⟩ := h
  exact ⟨g, c, h1, Nat.lt_of_lt_of_le h2 hb.size, fun i hi => (hb.cell h2).trans (h3 i hi)⟩
theorem IntV.ints {F : Nat → Nat} {g cap : Nat} {w : World} (h : IntV F (.slice (some ⟨g, 0, none⟩) 67 cap) w) : g < w.heap.size ∧ ∀ i, i < 67 → w.cell? ⟨g, i, none⟩ = some (.int .i64 (F i : Int)) := by
  obtain ⟨g', c', h1, h2, h3⟩ := h
  injection h1 with h4
  injection h4 with h4
  injection h4 with h4
  subst h4
  exact ⟨h2, h3⟩
theorem IntV.of_own {F : Nat → Nat} {w : World} {base g cap : Nat} {e : TypeId} {l : List Value} (h : w.ownsRow base e 1 (.slice (some ⟨g, 0, none⟩) 67 cap) 67 l) (hl : ∀ i, i < 67 → l[i]? = some (.int .i64 (F i : Int))) : IntV F (.slice (some ⟨g, 0, none⟩) 67 cap) w := by
  obtain ⟨_, ⟨h1, h2⟩ | ⟨g', cap', cur, h1, _, hh, _, _, _, htk⟩⟩ := h
  · omega
  · injection h1 with h4
    injection h4 with h4
    injection h4 with h4
    subst h4
    refine ⟨g, cap, rfl, (Array.getElem?_eq_some_iff.1 hh).1, fun i hi => ?_⟩
    have hb : Blk w g cur e := hh
    have h5 := hl i hi
    rw [hb.cell, ← h5, ← htk, List.getElem?_take_of_lt (by omega)]
    simp
theorem FlowB.ButIn.cell {S : List Nat} {w w' : World} {g i : Nat} {v : Value} (h : FlowB.ButIn S w w') (hx : g < w.heap.size) (hb : g ∉ S) (k : w.cell? ⟨g, i, none⟩ = some v) : w'.cell? ⟨g, i, none⟩ = some v := by
  rw [← k]
  unfold World.cell?
  rw [h.block g hx hb]

set_option maxHeartbeats 4000000 in
set_option maxRecDepth 100000 in
theorem refsecret_any (seed ad : List Int) (w : World) (hseed : Dg seed) (had : Aw ad) :
    Calls Tryd.prog 19 #[(.agg (seed.map (Value.int .u8)).toArray), (.agg (ad.map (Value.int .u32)).toArray)] w fun e w' => ∃ v, e = .returned v ∧ Below w.heap.size w w' ∧ OwnD w' w.heap.size 23 v (rowW (partZ seed ad)) := by
  have hP := Dg.part seed ad
  have b1 := (Below.refl w.heap.size w).alloc (Nat.le_refl _) (.cells (seed.map (Value.int .u8)).toArray 23 (0, 0))
  have b2 := b1.alloc b1.size (.cells (ad.map (Value.int .u32)).toArray 26 (0, 0))
  have Ks := hid ((Blk.new (w := w) (n := w.heap.size) rfl (seed.map (Value.int .u8)).toArray 23).old (.cells (ad.map (Value.int .u32)).toArray 26 (0, 0)))
  have Kad := hid (Blk.new (w := (w.alloc (.cells (seed.map (Value.int .u8)).toArray 23 (0, 0)))) (n := w.heap.size + 1) (by simp only [World.size_alloc]) (ad.map (Value.int .u32)).toArray 26)
  have Hb := hid b2
  have HzA := hid zsize
  have hbz := b2.size
  have Hbs := hid (show w.heap.size + 1 + 1 = ((w.alloc (.cells (seed.map (Value.int .u8)).toArray 23 (0, 0))).alloc (.cells (ad.map (Value.int .u32)).toArray 26 (0, 0))).heap.size by simp only [World.size_alloc])
  clear b1 b2
  have hs0 := Hb.out.size
  go_enter Tryd.func19, Tryd.ntmps19
  go_wp2_with fail
  have HO0 := hid (OwnD.nil ((w.alloc (.cells (seed.map (Value.int .u8)).toArray 23 (0, 0))).alloc (.cells (ad.map (Value.int .u32)).toArray 26 (0, 0))) (w.heap.size + 1 + 1) 23)
  go_loopw [5, 6] (fun v iv wr => ∃ k : Nat, k ≤ 67 ∧ iv = .int .i64 k ∧ OwnD wr (w.heap.size + 1 + 1) 23 v (preW (partZ seed ad) k) ∧ Blk wr (w.heap.size) (seed.map (Value.int .u8)).toArray 23 ∧ Blk wr (w.heap.size + 1) (ad.map (Value.int .u32)).toArray 26 ∧ Below w.heap.size w wr ∧ (w.heap.size + 1 + 1) ≤ wr.heap.size) (fun _ iv _ => 67 - (intOf iv).toNat)
  case atStart => exact ⟨0, Nat.zero_le _, rfl, HO0.out, Ks.out, Kad.out, Hb.out, by rw [Hbs.out]; exact Nat.le_refl _⟩
  case round =>
    clear HO0 Ks Kad Hb
    obtain ⟨k, hk, rfl, ho, ks, kad, bel, hsz⟩ := hrel
    have HO := hid ho
    have Ks := hid ks
    have Kad := hid kad
    have HB := hid bel
    clear ho ks kad bel
    by_cases hlt : k < 67
    · have hc0 : (k : Int) < 67 := by omega
      have HJ := hid (hP k)
      have HL := hid (preW_succ (partZ seed ad) k)
      have HLl := hid (preW_length (partZ seed ad) k)
      obtain ⟨i0, hi, hz0, hz1, hz2⟩ := info_parts info_dig
      generalize hJ : (partZ seed ad) k = J at *
      generalize hL : preW (partZ seed ad) k = L at *
      go_wp2_with fail
      refine FlowB.wp_region_butIn (u5.ownBlock.toList) (fun wz => OwnD wz (w.heap.size + 1 + 1) 23 u5 L) 9 (List.range 7) [7] [(.b 7, [], []), (.c 8, [], [])] (by kernel_rfl) (by kernel_rfl) HO.out (fun _ _ h hb => h.below hb) ?_
      apply Exists.intro
      refine ⟨fun w0 hb0 hF0 => ?_, ?_⟩
      · skip
        have x0 : ∀ w', (∃ x : Ext w0, w' = x.at_) → ∃ T, Blk w' (w.heap.size) (seed.map (Value.int .u8)).toArray T := fun w' ⟨x, hx⟩ => ⟨_, hx ▸ (hb0.blk Ks.out (own_low HO.out (by omega))).below x.same⟩
        have x1 : ∀ w', (∃ x : Ext w0, w' = x.at_) → ∃ T, Blk w' (w.heap.size + 1) (ad.map (Value.int .u32)).toArray T := fun w' ⟨x, hx⟩ => ⟨_, hx ▸ (hb0.blk Kad.out (own_low HO.out (by omega))).below x.same⟩
        have c0 := fun e : Ext w0 => refat_list ad k 0 0 e.at_ had
        have c1 := fun e : Ext w0 => refAt_any seed (setAd ad k 0 0) e.at_ hseed (had.set (by omega) (by omega) (by omega))
        rw [show atZ seed (setAd ad k 0 0) = partZ seed ad k from rfl, hJ] at c1
        simp only [pick, List.range, List.range.loop, List.getElem?_toArray, List.getElem?_cons_succ, List.getElem?_cons_zero, Option.toList_some, List.cons_append, List.nil_append]
        repeat (first | (go_big_quiet_want; refine quiet_load_blk 23 _ rfl (w.heap.size) rfl _ x0 _ Tryd.underlying23 rfl 32 size_digest hseed.size ?_; go_big_quiet_on; simp only [Act.put, List.setIfInBounds_toArray, List.set_cons_zero, List.set_cons_succ]) | (go_big_quiet_want; refine quiet_load_blk 26 _ rfl (w.heap.size + 1) rfl _ x1 _ Tryd.underlying26 rfl 8 sizeAdrs had.size ?_; go_big_quiet_on; simp only [Act.put, List.setIfInBounds_toArray, List.set_cons_zero, List.set_cons_succ]) | go_big_quiet_step (first | (go_at_call 71; with_reducible exact Calls.ext (c0 _)) | (go_at_call 70; with_reducible exact Calls.ext (c1 _))))
        exact wpQuiet_nil rfl
      refine FlowB.AlChk.one rfl (fun b => .slice (some ⟨b, 0, none⟩) 1 1) (.cells (J.map (Value.int .u8)).toArray 23 (0, 0)) rfl (FlowB.st_butIn _ (own_size HO.out)) (fun w2 hb2 hF2 => exec_build_one rfl rfl HJ.out) ?_
      refine FlowB.AlChk.nil ?_
      refine FlowB.Walk.blk rfl (fun b => .slice (some ⟨b, 0, none⟩) 1 1) (.cells (J.map (Value.int .u8)).toArray 23 (0, 0)) (by simp) ?_
      intro b9 w2 hb2 hF2 hge9 _
      apply Exists.intro
      refine ⟨fun w2 hb2 hF2 => wpQuiet_nil rfl, ?_⟩
      refine FlowB.AlChk.nil ?_
      refine FlowB.Walk.does rfl (fun _ _ => True) (fun v w' => OwnD w' (w.heap.size + 1 + 1) 23 v (L ++ [J])) (fun v w' w'' _ h _ => h) (fun v w' w'' h k => h.below k) rfl (fun w2 hb2 hF2 hG2 => ?_) ?_
      · have k9 : Blk w2 b9 (J.map (Value.int .u8)).toArray 23 := hF2.2
        obtain ⟨v', w', hr, q2, q3, q4⟩ := run_append_dig (P := Tryd.prog) _ Tryd.underlying28 hi hz0 zD_cells32 hz1 hz2 hG2 k9 HJ.out (by rw [HLl.out]; omega) (Nat.le_trans hsz hb2.size)
        exact ⟨v', w', FlowB.exec_append rfl rfl rfl hr, FlowB.ButIn.of_grown q3, trivial, q2⟩
      rintro v3 w3 hb3 hF3 _
      apply Exists.intro
      refine ⟨fun w2 hb2 hF2 => wpQuiet_nil rfl, ?_⟩
      refine FlowB.AlChk.nil ?_
      refine FlowB.Walk.fin fun w4 h4 _ hG4 => ?_
      simp only [List.drop_succ_cons, List.drop_zero]
      have HG4 := hid hG4
      rw [← HL.out] at HG4
      have Ks4 := hid (h4.blk Ks.out (own_low HO.out (by omega)))
      have Kad4 := hid (h4.blk Kad.out (own_low HO.out (by omega)))
      have HB4 := hid (h4.below HB.out HB.out.size (fun b hb => by have := own_from HO.out b hb; omega))
      have hsz4 := Nat.le_trans hsz h4.size
      clear h4 hG4
      go_wp2_with fail
      exact ⟨⟨k + 1, by omega, by first | rfl | simp, HG4.out, Ks4.out, Kad4.out, HB4.out, hsz4⟩, by simp [intOf]; omega⟩
    · have hk7 : k = 67 := by omega
      subst hk7
      have hc0 : ¬ ((67 : Int) < 67) := by omega
      have HF := hid (HO.out.re (base' := w.heap.size) (by omega))
      rw [preW_full] at HF
      go_wp2_with fail
      go_ret
      exact ⟨_, rfl, HB.out, HF.out⟩

set_option maxHeartbeats 4000000 in
set_option maxRecDepth 100000 in
theorem refruns_any (P : Nat → List Int) (F T : Nat → Nat) (ls : List (List Int)) (na : Option Addr) (nc ga ca gb cb : Nat) (pub ad : List Int) (w : World) (hP : ∀ i, Dg (P i)) (hN : DigsAt w na 67 nc ls) (hpub : Dg pub) (had : Aw ad)
    (hga : ga < w.heap.size) (hF : ∀ i, i < 67 → w.cell? ⟨ga, i, none⟩ = some (.int .i64 (F i : Int))) (hgb : gb < w.heap.size) (hT : ∀ i, i < 67 → w.cell? ⟨gb, i, none⟩ = some (.int .i64 (T i : Int))) (hFT : ∀ i, F i ≤ T i ∧ T i ≤ 15)
    (hr : ∀ i, i < 67 → ∀ W, Calls Tryd.prog 122 #[(.agg ((ls.getD i []).map (Value.int .u8)).toArray), .int .i64 (F i : Int), .int .i64 ((T i : Int) - (F i : Int)), (.agg (pub.map (Value.int .u8)).toArray), (.agg ((setAd ad i 0 0).map (Value.int .u32)).toArray)] W (fun e w' => e = .returned (.agg ((P i).map (Value.int .u8)).toArray) ∧ Below W.heap.size W w')) :
    Calls Tryd.prog 74 #[.slice na 67 nc, .slice (some ⟨ga, 0, none⟩) 67 ca, .slice (some ⟨gb, 0, none⟩) 67 cb, (.agg (pub.map (Value.int .u8)).toArray), (.agg (ad.map (Value.int .u32)).toArray)] w fun e w' => ∃ v, e = .returned v ∧ Below w.heap.size w w' ∧ OwnD w' w.heap.size 23 v (rowW P) := by
  have HN := hid hN
  have hle := hN.le
  have hmx := hN.max
  clear hN
  have b1 := (Below.refl w.heap.size w).alloc (Nat.le_refl _) (.cells (pub.map (Value.int .u8)).toArray 23 (0, 0))
  have b2 := b1.alloc b1.size (.cells (ad.map (Value.int .u32)).toArray 26 (0, 0))
  have Kp := hid ((Blk.new (w := w) (n := w.heap.size) rfl (pub.map (Value.int .u8)).toArray 23).old (.cells (ad.map (Value.int .u32)).toArray 26 (0, 0)))
  have Kad := hid (Blk.new (w := (w.alloc (.cells (pub.map (Value.int .u8)).toArray 23 (0, 0)))) (n := w.heap.size + 1) (by simp only [World.size_alloc]) (ad.map (Value.int .u32)).toArray 26)
  have Hb := hid b2
  have HzA := hid zsize
  have hbz := b2.size
  have Hbs := hid (show w.heap.size + 1 + 1 = ((w.alloc (.cells (pub.map (Value.int .u8)).toArray 23 (0, 0))).alloc (.cells (ad.map (Value.int .u32)).toArray 26 (0, 0))).heap.size by simp only [World.size_alloc])
  clear b1 b2
  have hs0 := Hb.out.size
  go_enter Tryd.func74, Tryd.ntmps74
  go_wp2_with fail
  have HO0 := hid (OwnD.nil ((w.alloc (.cells (pub.map (Value.int .u8)).toArray 23 (0, 0))).alloc (.cells (ad.map (Value.int .u32)).toArray 26 (0, 0))) (w.heap.size + 1 + 1) 23)
  go_loopw [11, 12] (fun v iv wr => ∃ k : Nat, k ≤ 67 ∧ iv = .int .i64 k ∧ OwnD wr (w.heap.size + 1 + 1) 23 v (preW P k) ∧ Blk wr (w.heap.size) (pub.map (Value.int .u8)).toArray 23 ∧ Blk wr (w.heap.size + 1) (ad.map (Value.int .u32)).toArray 26 ∧ Below w.heap.size w wr ∧ (w.heap.size + 1 + 1) ≤ wr.heap.size) (fun _ iv _ => 67 - (intOf iv).toNat)
  case atStart => exact ⟨0, Nat.zero_le _, rfl, HO0.out, Kp.out, Kad.out, Hb.out, by rw [Hbs.out]; exact Nat.le_refl _⟩
  case round =>
    clear HO0 Kp Kad Hb
    obtain ⟨k, hk, rfl, ho, kp, kad, bel, hsz⟩ := hrel
    have HO := hid ho
    have Kp := hid kp
    have Kad := hid kad
    have HB := hid bel
    clear ho kp kad bel
    by_cases hlt : k < 67
    · have hc0 : (k : Int) < 67 := by omega
      have HJ := hid (hP k)
      have HL := hid (preW_succ P k)
      have HLl := hid (preW_length P k)
      obtain ⟨i0, hi, hz0, hz1, hz2⟩ := info_parts info_dig
      have HX := hid (HN.out.get (j := k) (by omega))
      have HC := hid (hr k hlt)
      obtain ⟨xs, xo, rfl, hxs, hcell⟩ := HN.out.at_ (by omega)
      have Hc := hid (rangeAt_below (hcell k hlt) hxs HB.out)
      have hxs' := Nat.lt_of_lt_of_le hxs HB.out.size
      have Hga := hid ((HB.out.cell hga).trans (hF k hlt))
      have Hgb := hid ((HB.out.cell hgb).trans (hT k hlt))
      have hga' := Nat.lt_of_lt_of_le hga HB.out.size
      have hgb' := Nat.lt_of_lt_of_le hgb HB.out.size
      have hft := hFT k
      clear hcell
      generalize ls.getD k [] = X at *
      generalize F k = F1 at *
      generalize T k = T1 at *
      generalize hJ : P k = J at *
      generalize hL : preW P k = L at *
      go_wp2_with fail
      refine FlowB.wp_region_butIn (u11.ownBlock.toList) (fun wz => OwnD wz (w.heap.size + 1 + 1) 23 u11 L) 26 (List.range 24) [24] [(.b 24, [], []), (.c 25, [], [])] (by kernel_rfl) (by kernel_rfl) HO.out (fun _ _ h hb => h.below hb) ?_
      apply Exists.intro
      refine ⟨fun w0 hb0 hF0 => ?_, ?_⟩
      · skip
        have x0 : ∀ w', (∃ x : Ext w0, w' = x.at_) → ∃ T, Blk w' (w.heap.size) (pub.map (Value.int .u8)).toArray T := fun w' ⟨x, hx⟩ => ⟨_, hx ▸ (hb0.blk Kp.out (own_low HO.out (by omega))).below x.same⟩
        have x1 : ∀ w', (∃ x : Ext w0, w' = x.at_) → ∃ T, Blk w' (w.heap.size + 1) (ad.map (Value.int .u32)).toArray T := fun w' ⟨x, hx⟩ => ⟨_, hx ▸ (hb0.blk Kad.out (own_low HO.out (by omega))).below x.same⟩
        have x2 : ∀ w', (∃ x : Ext w0, w' = x.at_) → w'.rangeAt xs (xo + k * 32) (X.map (Value.int .u8)) := fun w' ⟨x, hx⟩ => hx ▸ rangeAt_below (hb0.range hxs' (own_low HO.out (by omega)) Hc.out) (Nat.lt_of_lt_of_le hxs' hb0.size) x.same
        have y0 : ∀ w', (∃ x : Ext w0, w' = x.at_) → w'.cell? ⟨ga, k, none⟩ = some (.int .i64 (F1 : Int)) := fun w' ⟨x, hx⟩ => by rw [hx]; exact (x.same.cell (Nat.lt_of_lt_of_le hga' hb0.size)).trans (hb0.cell hga' (own_low HO.out (by omega)) Hga.out)
        have y1 : ∀ w', (∃ x : Ext w0, w' = x.at_) → w'.cell? ⟨gb, k, none⟩ = some (.int .i64 (T1 : Int)) := fun w' ⟨x, hx⟩ => by rw [hx]; exact (x.same.cell (Nat.lt_of_lt_of_le hgb' hb0.size)).trans (hb0.cell hgb' (own_low HO.out (by omega)) Hgb.out)
        have c0 := fun e : Ext w0 => refat_list ad k 0 0 e.at_ had
        have c1 := fun e : Ext w0 => HC.out e.at_
        simp only [pick, List.range, List.range.loop, List.getElem?_toArray, List.getElem?_cons_succ, List.getElem?_cons_zero, Option.toList_some, List.cons_append, List.nil_append]
        repeat (first | (go_big_quiet_want; refine quiet_load_blk 23 _ rfl (w.heap.size) rfl _ x0 _ Tryd.underlying23 rfl 32 size_digest hpub.size ?_; go_big_quiet_on; simp only [Act.put, List.setIfInBounds_toArray, List.set_cons_zero, List.set_cons_succ]) | (go_big_quiet_want; refine quiet_load_blk 26 _ rfl (w.heap.size + 1) rfl _ x1 _ Tryd.underlying26 rfl 8 sizeAdrs had.size ?_; go_big_quiet_on; simp only [Act.put, List.setIfInBounds_toArray, List.set_cons_zero, List.set_cons_succ]) | (go_big_quiet_want; refine quiet_index_digs 28 _ _ rfl Tryd.underlying28 size_digest xs xo 67 nc rfl _ _ rfl k (by omega) (by omega) ?_; go_big_quiet_on; simp only [Act.put, List.setIfInBounds_toArray, List.set_cons_zero, List.set_cons_succ]) | (go_big_quiet_want; refine quiet_load_mid 23 _ rfl xs (xo + k * 32) rfl _ x2 _ Tryd.underlying23 rfl (by rw [List.length_map, HX.out.len]; exact size_digest) ?_; go_big_quiet_on; simp only [Act.put, List.setIfInBounds_toArray, List.set_cons_zero, List.set_cons_succ]) | (go_big_quiet_want; refine quiet_load_one 3 _ rfl ⟨ga, k, none⟩ rfl _ y0 _ Tryd.underlying3 rfl ?_; go_big_quiet_on; simp only [Act.put, List.setIfInBounds_toArray, List.set_cons_zero, List.set_cons_succ]) | (go_big_quiet_want; refine quiet_load_one 3 _ rfl ⟨gb, k, none⟩ rfl _ y1 _ Tryd.underlying3 rfl ?_; go_big_quiet_on; simp only [Act.put, List.setIfInBounds_toArray, List.set_cons_zero, List.set_cons_succ]) | go_big_quiet_step (first | (go_at_call 71; with_reducible exact Calls.ext (c0 _)) | (go_at_call 122; with_reducible exact Calls.ext (c1 _))))
        exact wpQuiet_nil rfl
      refine FlowB.AlChk.one rfl (fun b => .slice (some ⟨b, 0, none⟩) 1 1) (.cells (J.map (Value.int .u8)).toArray 23 (0, 0)) rfl (FlowB.st_butIn _ (own_size HO.out)) (fun w2 hb2 hF2 => exec_build_one rfl rfl HJ.out) ?_
      refine FlowB.AlChk.nil ?_
      refine FlowB.Walk.blk rfl (fun b => .slice (some ⟨b, 0, none⟩) 1 1) (.cells (J.map (Value.int .u8)).toArray 23 (0, 0)) (by simp) ?_
      intro b9 w2 hb2 hF2 hge9 _
      apply Exists.intro
      refine ⟨fun w2 hb2 hF2 => wpQuiet_nil rfl, ?_⟩
      refine FlowB.AlChk.nil ?_
      refine FlowB.Walk.does rfl (fun _ _ => True) (fun v w' => OwnD w' (w.heap.size + 1 + 1) 23 v (L ++ [J])) (fun v w' w'' _ h _ => h) (fun v w' w'' h k => h.below k) rfl (fun w2 hb2 hF2 hG2 => ?_) ?_
      · have k9 : Blk w2 b9 (J.map (Value.int .u8)).toArray 23 := hF2.2
        obtain ⟨v', w', hr, q2, q3, q4⟩ := run_append_dig (P := Tryd.prog) _ Tryd.underlying28 hi hz0 zD_cells32 hz1 hz2 hG2 k9 HJ.out (by rw [HLl.out]; omega) (Nat.le_trans hsz hb2.size)
        exact ⟨v', w', FlowB.exec_append rfl rfl rfl hr, FlowB.ButIn.of_grown q3, trivial, q2⟩
      rintro v3 w3 hb3 hF3 _
      apply Exists.intro
      refine ⟨fun w2 hb2 hF2 => wpQuiet_nil rfl, ?_⟩
      refine FlowB.AlChk.nil ?_
      refine FlowB.Walk.fin fun w4 h4 _ hG4 => ?_
      simp only [List.drop_succ_cons, List.drop_zero]
      have HG4 := hid hG4
      rw [← HL.out] at HG4
      have Kp4 := hid (h4.blk Kp.out (own_low HO.out (by omega)))
      have Kad4 := hid (h4.blk Kad.out (own_low HO.out (by omega)))
      have HB4 := hid (h4.below HB.out HB.out.size (fun b hb => by have := own_from HO.out b hb; omega))
      have hsz4 := Nat.le_trans hsz h4.size
      clear h4 hG4
      go_wp2_with fail
      exact ⟨⟨k + 1, by omega, by first | rfl | simp, HG4.out, Kp4.out, Kad4.out, HB4.out, hsz4⟩, by simp [intOf]; omega⟩
    · have hk7 : k = 67 := by omega
      subst hk7
      have hc0 : ¬ ((67 : Int) < 67) := by omega
      have HF := hid (HO.out.re (base' := w.heap.size) (by omega))
      rw [preW_full] at HF
      go_wp2_with fail
      go_ret
      exact ⟨_, rfl, HB.out, HF.out⟩

set_option maxHeartbeats 4000000 in
set_option maxRecDepth 100000 in
theorem refall_any (n : Int) (w : World) :
    Calls Tryd.prog 75 #[.int .i64 n] w fun e w' => ∃ g cap, e = .returned (.slice (some ⟨g, 0, none⟩) 67 cap) ∧ Below w.heap.size w w' ∧ w'.ownsRow w.heap.size 3 1 (.slice (some ⟨g, 0, none⟩) 67 cap) 67 (List.replicate 67 (Value.int .i64 n)) := by
  obtain ⟨i0, hi, hz0, hz1, hz2⟩ := info_parts infoInt
  go_enter Tryd.func75, Tryd.ntmps75
  go_wp2_with fail
  go_loopw [3, 4] (fun v i wr => ∃ k : Nat, k ≤ 67 ∧ i = .int .i64 k ∧ wr.ownsRow w.heap.size 3 1 v k (List.replicate k (Value.int .i64 n)) ∧ Below w.heap.size w wr) (fun _ i _ => 67 - (intOf i).toNat)
  case atStart => exact ⟨0, by omega, rfl, World.ownsRow_nil _ _ _ _, Below.refl _ _⟩
  case round =>
    obtain ⟨k, hk, rfl, hown, bel⟩ := hrel
    by_cases hlt : k < 67
    · have hc0 : (k : Int) < 67 := by omega
      have hbs := bel.size
      go_wp2_with (at_builtin; refine wpList_append_own _ rfl _ _ 111 rfl w.heap.size 3 i0 (.int .i64 0) 1 8 Tryd.underlying111 hi hz0 hz1 hz2 rfl (by decide) u3 k _ rfl (hown.alloc _) ⟨wr.heap.size, 0, none⟩ 1 1 [.int .i64 n] rfl rfl ?c1 ?c2 ?c3 ?c4 ?c5 ?_)
      case c1 => exact news_new wr [.int .i64 n] 3
      case c2 => simp [Value.oneCell']
      case c3 => unfold maxLen; omega
      case c4 => omega
      case c5 => simp; omega
      intro v' w1 hown' hgrow _
      have hlt1 := hown.lt
      have bel' := (bel.alloc hbs (Obj.cells #[.int .i64 n] 3)).grown hgrow (by simp; omega) (fun q hq => by have := hlt1 q hq; omega)
      clear hown bel hgrow hlt1
      go_wp2
      exact ⟨⟨k + 1, by omega, by go_num, by rw [List.replicate_succ']; exact hown', bel'⟩, by simp [intOf]; omega⟩
    · obtain rfl : k = 67 := by omega
      have hv : ∃ g cap, u3 = .slice (some ⟨g, 0, none⟩) 67 cap := by
        obtain ⟨_, h | ⟨g, cap, cur, h, _⟩⟩ := hown
        · omega
        · exact ⟨g, cap, h⟩
      obtain ⟨g, cap, rfl⟩ := hv
      go_wp2_with fail
      go_ret
      exact ⟨g, cap, rfl, bel, hown⟩
end Go.Proofs.YtjkfbeillmeomaaDoor
