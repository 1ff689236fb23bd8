/-
  Layer 20: a signature's bytes, as the program makes them.
-/
import Derived.Test.YtkakoiaahgchmaaGB
namespace Go.Proofs.Ytkakoiaahgchmaa
open Go.ChangeShapes Go.WideShapes Go.ChangeAt Go.RowKit

/-- The bytes of a part, of parts, of a signature. -/
def ptB (p : Prt) : List Int := p.1.flatten ++ p.2.flatten
def ptsB (ps : List Prt) : List Int := (ps.map ptB).flatten
def putZ (i : Int) (r : List Int) (ps : List Prt) : List Int := (be 8 (uZ i) ++ r) ++ ptsB ps
theorem ptsB_take (ps : List Prt) (k : Nat) (h : k < ps.length) : ptsB (ps.take (k + 1)) = ptsB (ps.take k) ++ (((ps.getD k ([], [])).1.flatten) ++ ((ps.getD k ([], [])).2.flatten)) := by
  unfold ptsB
  rw [List.take_succ_eq_append_getElem h, List.map_append, List.flatten_append, show ps.getD k ([], []) = ps[k] by simp [h]]
  simp [ptB]
theorem ptsT_le (ps : List Prt) (k : Nat) : k ≤ ps.length → (∀ j, j < k → (ps.getD j ([], [])).1.length = 67 ∧ (ps.getD j ([], [])).2.length ≤ 100) → (∀ j, j < k → (∀ d ∈ (ps.getD j ([], [])).1, Dg d) ∧ (∀ d ∈ (ps.getD j ([], [])).2, Dg d)) → (ptsB (ps.take k)).length ≤ k * 6000 := by
  induction k with
  | zero => intro _ _ _; simp [ptsB]
  | succ k ih =>
    intro hk h hd
    have h0 := h k (by omega)
    have d0 := hd k (by omega)
    have := ih (by omega) (fun j hj => h j (by omega)) (fun j hj => hd j (by omega))
    have e1 := flat_length (ds := (ps.getD k ([], [])).1) (fun d h => (d0.1 d h).len)
    have e2 := flat_length (ds := (ps.getD k ([], [])).2) (fun d h => (d0.2 d h).len)
    rw [ptsB_take ps k (by omega), List.length_append, List.length_append, e1, e2]
    omega
theorem TextAt.of_rng {w : World} {b o n : Nat} {bs : List Int} (h : w.rangeAt b o (bs.map (Value.int .u8))) (hb : b < w.heap.size) (hn : bs.length = n) (hm : n ≤ 9223372036854775807) (hs : ∀ x ∈ bs, 0 ≤ x ∧ x < 256) : TextAt w (some ⟨b, o, none⟩) n n bs :=
  ⟨hn, Nat.le_refl _, hm, hs, .inr ⟨b, o, none, rfl, fun j hj => ⟨rfl, hb, by rw [h j (.int .u8 (bs.getD j 0)) (by rw [List.getElem?_map, List.getD_eq_getElem?_getD, List.getElem?_eq_getElem (by omega)]; rfl)]⟩⟩⟩
theorem PartsAt.dgs {w : World} {a : Option Addr} {len cap : Nat} {ps : List Prt} (h : PartsAt w a len cap ps) {k : Nat} (hk : k < len) : (∀ d ∈ (ps.getD k ([], [])).1, Dg d) ∧ (∀ d ∈ (ps.getD k ([], [])).2, Dg d) := by
  obtain ⟨x, o, oa, oc, aa, ac, -, hpc⟩ := h.part hk
  exact ⟨hpc.ots.each, hpc.auth.each⟩
theorem FlowB.Typed.low {B B0 : Nat} {T : TypeId} {W a b : World} (h : FlowB.Typed B T a b) (h0 : Below B0 W a) (hB : B0 ≤ B) (hs : B0 ≤ a.heap.size) : Below B0 W b :=
  ⟨h.os.trans h0.os, h.tape.trans h0.tape, h.output.trans h0.output, Nat.le_trans h0.size h.size, fun k hk => (h.block k (Nat.lt_of_lt_of_le hk hs) (.inl (Nat.lt_of_lt_of_le hk hB))).trans (h0.block k hk)⟩
set_option maxHeartbeats 4000000 in
set_option maxRecDepth 100000 in
theorem wnumber_own (n : Int) (w : World) (_hn : -9223372036854775808 ≤ n ∧ n < 9223372036854775808) :
    Calls Try.prog 19 #[.int .i64 n] w fun e w' => ∃ v, e = .returned v ∧ Below w.heap.size w w' ∧ OwnB w' w.heap.size 5 v (be 8 (uZ n)) := by
  have hu := uZ_in n
  have hw : IntKind.u64.wrap n = uZ n := by unfold uZ; rfl
  have CN := hid (fun W : World => number_any (uZ n) 8 8 W hu.1 hu.2 (by decide))
  have hu2 : n % 18446744073709551616 = uZ n := rfl
  go_enter Try.func19, Try.ntmps19
  go_wp2_with fail
  refine (CN.out _).mono ?_
  rintro e w1 ⟨g, hg, rfl, b1, k1⟩
  have H := hid (And.intro b1 k1)
  clear b1 k1
  go_wp2_with fail
  go_ret
  exact ⟨_, rfl, H.out.1, OwnB.of_blk H.out.2 hg (be_length _ _) (by omega) (be_small _ _)⟩


set_option maxHeartbeats 4000000 in
set_option maxRecDepth 100000 in
theorem appd_any (B : Nat) (v : Value) (bs : List Int) (ya : Option Addr) (n c : Nat) (ds : List (List Int)) (W0 w : World) (hv : OwnB w B 5 v bs) (hB : B ≤ w.heap.size) (hW : Below W0.heap.size W0 w) (hWB : W0.heap.size ≤ B) (hD : DigsAt W0 ya n c ds) (hn9 : n ≤ 1000000) (hb : bs.length ≤ 1000000000) :
    Calls Try.prog 20 #[v, .slice ya n c] w fun e w' => ∃ v', e = .returned v' ∧ FlowB.Typed B 5 w w' ∧ OwnB w' B 5 v' (bs ++ ds.flatten) := by
  obtain ⟨i0, hi, hz0, hz1, hz2⟩ := info_parts info_byte
  have HO0 := hid hv
  have HD := hid hD
  have HW := hid hW
  have hnl := hD.length
  have HT0 := hid (FlowB.Typed.of_below (B := B) (T := 5) (Below.refl w.heap.size w))
  clear hv hD hW
  go_enter Try.func20, Try.ntmps20
  go_wp2_with fail
  go_loopw [0, 9] (fun bv iv wr => ∃ k : Nat, k ≤ n ∧ iv = .int .i64 k ∧ OwnB wr B 5 bv (bs ++ (ds.take k).flatten) ∧ FlowB.Typed B 5 w wr ∧ B ≤ wr.heap.size) (fun _ iv _ => n - (intOf iv).toNat)
  case atStart => exact ⟨0, Nat.zero_le _, rfl, by simpa using HO0.out, HT0.out, hB⟩
  case round =>
    obtain ⟨k, hk, rfl, ho, ht, hsz⟩ := hrel
    have HO := hid ho
    have HTy := hid ht
    have HWr := hid (ht.low HW.out hWB (Nat.le_trans hWB hB))
    clear ho ht
    by_cases hlt : k < n
    · have hc0 : (k : Int) < n := by omega
      have hkl : k < ds.length := by omega
      obtain ⟨y, yo, rfl, hy, hyc⟩ := HD.out.at_ (by omega)
      have HYR := hid (rangeAt_below (hyc k hlt) hy HWr.out)
      have HS := hid (HD.out.get hlt)
      have HF := hid (digs_take ds k hkl)
      have HLn := hid (flat_length (ds := ds.take k) (fun d h => ((HD.out.each d (List.mem_of_mem_take h)).len)))
      have Hkm := hid (show (ds.take k).length = k from by rw [List.length_take]; omega)
      clear hyc
      generalize ds.getD k [] = x at *
      go_wp2_with (first
        | (refine wpList_index_digs rfl 44 _ _ rfl Try.underlying44 size_digest y yo n c rfl _ _ rfl k rfl (by omega) ?_)
        | (refine wpList_load_mid rfl 25 _ rfl y (yo + k * 32) rfl _ _ HYR.out Try.underlying25 rfl (by rw [List.length_map, HS.out.len]; exact size_digest) ?_)
        | (refine wpList_store_blk rfl 25 _ _ rfl wr.heap.size (x.map (Value.int .u8)).toArray rfl rfl _ 25 (Blk.new rfl (byteCells 32 []) _) 32 size_digest zsize HS.out.size (ints_one _ _) ?_
           intro w2 hb2 hk2
           have h2 := hb2.below ((Below.refl wr.heap.size wr).alloc (Nat.le_refl _) _) (by simp only [World.size_alloc]; omega) (Nat.le_refl _)
           have HT2 := hid (HS.out.text hk2)
           have HO2 := hid (HO.out.below h2)
           have HTy2 := hid (HTy.out.trans (FlowB.Typed.of_below h2))
           have hsz2 : B ≤ w2.heap.size := Nat.le_trans hsz h2.size
           clear hb2 hk2 h2)
        | (at_builtin; refine wpList_append_text rfl _ _ rfl Try.underlying31 hi hz0 hz1 hz2 rfl HO2.out rfl HT2.out (by rw [List.length_append, HLn.out, Hkm.out]; omega) hsz2 ?_))
      intro v4 w4 own4 g4 b4
      rw [← HF.out] at own4
      have H4 := hid own4
      have H5 := hid (HTy2.out.trans (HO2.out.typed (Nat.le_refl _) g4))
      have hsz4 := Nat.le_trans hsz2 b4.size
      clear own4 g4 b4
      go_wp2_with fail
      exact ⟨⟨k + 1, by omega, by first | rfl | simp, H4.out, H5.out, hsz4⟩, by simp [intOf]; omega⟩
    · have hkn : k = n := by omega
      have hft : ds.take k = ds := List.take_of_length_le (by omega)
      rw [hft] at HO
      have hc0 : ¬ (k : Int) < n := by omega
      go_wp2_with fail
      go_returns
      exact ⟨_, rfl, HTy.out, HO.out⟩

set_option maxHeartbeats 4000000 in
set_option maxRecDepth 100000 in
theorem put_right (L V i : Int) (r : List Int) (a : Option Addr) (n c : Nat) (ps : List Prt) (w : World) (hrt : rightS L V = true) (hr : Dg r) (hP : PartsAt w a n c ps) (hi64 : -9223372036854775808 ≤ i ∧ i < 9223372036854775808) :
    Calls Try.prog 7 #[.agg (shC L V), .agg (sigC i r (.slice a n c)).toArray] w fun e w' => ((formB L V i ps = false ∧ e = .returned (.tuple #[.slice none 0 0, .int .i64 1])) ∨ (formB L V i ps = true ∧ ∃ v, e = .returned (.tuple #[v, .int .i64 0]) ∧ OwnB w' w.heap.size 5 v (putZ i r ps))) ∧ Below w.heap.size w w' := by
  have hmx := hP.max
  have hle := hP.le
  have hVb : 1 ≤ L ∧ L ≤ 4 ∧ 1 ≤ V ∧ V ≤ 4 := by simpa [rightS] using hrt
  have b1 := (Below.refl w.heap.size w).alloc (Nat.le_refl _) (.cells (shC L V) 23 (0, 0))
  have b2 := b1.alloc b1.size (.cells (sigC i r (.slice a n c)).toArray 28 (0, 0))
  have Ksh := hid ((Blk.new (w := w) (n := w.heap.size) rfl (shC L V) 23).old (.cells (sigC i r (.slice a n c)).toArray 28 (0, 0)))
  have Kg := hid (Blk.new (w := (w.alloc (.cells (shC L V) 23 (0, 0)))) (n := w.heap.size + 1) (by simp only [World.size_alloc]) (sigC i r (.slice a n c)).toArray 28)
  have Hb := hid b2
  have hbz := b2.size
  have Hbs := hid (show w.heap.size + 1 + 1 = ((w.alloc (.cells (shC L V) 23 (0, 0))).alloc (.cells (sigC i r (.slice a n c)).toArray 28 (0, 0))).heap.size by simp only [World.size_alloc])
  clear b1 b2 
  have HPw := hid hP
  have HR := hid hr
  have hnl := hP.length
  obtain ⟨i0, hi, hz0, hz1, hz2⟩ := info_parts info_byte
  clear hP
  go_enter Try.func7, Try.ntmps7
  go_wp2_with fail
  have CM := hid (fun W : World => many_any L V W)
  obtain ⟨M, hM⟩ : ∃ M, manyS L V = M := ⟨_, rfl⟩
  have HM := hid hM
  rw [hM] at CM
  clear hM
  by_cases h0 : i < 0
  · skip
    have hd0 : decide (i < 0) = true := decide_eq_true h0
    refine wp_region_flow 23 (List.range 23) [] [] (by kernel_rfl) (by kernel_rfl) ?_
    apply Exists.intro
    refine ⟨fun w0 hb0 hF0 => ?_, ?_⟩
    · skip
      have x0 : ∀ w', (∃ x : Ext w0, w' = x.at_) → ∃ T, Blk w' (w.heap.size) (shC L V) T := fun w' ⟨x, hx⟩ => ⟨_, hx ▸ (Ksh.out.below hb0).below x.same⟩
      have y0 : ∀ w', (∃ x : Ext w0, w' = x.at_) → w'.cell? ⟨w.heap.size + 1, 0, none⟩ = some (.int .i64 i) := fun w' ⟨x, hx⟩ => by rw [hx, ((Kg.out.below hb0).below x.same).cell]; rfl
      have c0 := fun e : Ext w0 => hright_b L V true hrt e.at_
      have c1 := fun e : Ext w0 => CM.out e.at_
      simp only [pick, List.range, List.range.loop, List.getElem?_toArray, List.getElem?_cons_succ, List.getElem?_cons_zero, Option.toList_some, List.cons_append, List.nil_append]
      repeat (first | (go_big_quiet_want; refine quiet_load_blk 23 _ rfl (w.heap.size) rfl _ x0 _ Try.underlying23 rfl 2 size_shape rfl ?_; go_big_quiet_on; simp only [Act.put, List.setIfInBounds_toArray, List.set_cons_zero, List.set_cons_succ]) | (go_big_quiet_want; refine quiet_load_one 3 _ rfl ⟨w.heap.size + 1, 0, none⟩ rfl _ y0 _ Try.underlying3 rfl ?_; go_big_quiet_on; simp only [Act.put, List.setIfInBounds_toArray, List.set_cons_zero, List.set_cons_succ]) | go_big_quiet_step (first | (go_at_call 17; with_reducible exact Calls.ext (c0 _)) | (go_at_call 18; with_reducible exact Calls.ext (c1 _))))
      exact wpQuiet_nil rfl
    refine AlChk.nil ?_
    refine Walk.fin fun w1 hw1 _ _ => ?_
    simp only [List.drop_succ_cons, List.drop_zero]
    have HBw1 := hid (Below.on Hb.out hw1)
    have hsw1 := HBw1.out.size
    have Kshw1 := hid (Ksh.out.below hw1)
    have Kgw1 := hid (Kg.out.below hw1)
    clear hw1
    go_wp2_with fail
    go_returns
    exact ⟨.inl ⟨formB_neg h0, rfl⟩, HBw1.out⟩
  have hd0 : decide (i < 0) = false := decide_eq_false h0
  by_cases h1 : i ≥ M
  · skip
    have hd1 : decide (i ≥ M) = true := decide_eq_true h1
    have hd1 : decide (M ≤ i) = true := decide_eq_true h1
    refine wp_region_flow 23 (List.range 23) [] [] (by kernel_rfl) (by kernel_rfl) ?_
    apply Exists.intro
    refine ⟨fun w0 hb0 hF0 => ?_, ?_⟩
    · skip
      have x0 : ∀ w', (∃ x : Ext w0, w' = x.at_) → ∃ T, Blk w' (w.heap.size) (shC L V) T := fun w' ⟨x, hx⟩ => ⟨_, hx ▸ (Ksh.out.below hb0).below x.same⟩
      have y0 : ∀ w', (∃ x : Ext w0, w' = x.at_) → w'.cell? ⟨w.heap.size + 1, 0, none⟩ = some (.int .i64 i) := fun w' ⟨x, hx⟩ => by rw [hx, ((Kg.out.below hb0).below x.same).cell]; rfl
      have c0 := fun e : Ext w0 => hright_b L V true hrt e.at_
      have c1 := fun e : Ext w0 => CM.out e.at_
      simp only [pick, List.range, List.range.loop, List.getElem?_toArray, List.getElem?_cons_succ, List.getElem?_cons_zero, Option.toList_some, List.cons_append, List.nil_append]
      repeat (first | (go_big_quiet_want; refine quiet_load_blk 23 _ rfl (w.heap.size) rfl _ x0 _ Try.underlying23 rfl 2 size_shape rfl ?_; go_big_quiet_on; simp only [Act.put, List.setIfInBounds_toArray, List.set_cons_zero, List.set_cons_succ]) | (go_big_quiet_want; refine quiet_load_one 3 _ rfl ⟨w.heap.size + 1, 0, none⟩ rfl _ y0 _ Try.underlying3 rfl ?_; go_big_quiet_on; simp only [Act.put, List.setIfInBounds_toArray, List.set_cons_zero, List.set_cons_succ]) | go_big_quiet_step (first | (go_at_call 17; with_reducible exact Calls.ext (c0 _)) | (go_at_call 18; with_reducible exact Calls.ext (c1 _))))
      exact wpQuiet_nil rfl
    refine AlChk.nil ?_
    refine Walk.fin fun w1 hw1 _ _ => ?_
    simp only [List.drop_succ_cons, List.drop_zero]
    have HBw1 := hid (Below.on Hb.out hw1)
    have hsw1 := HBw1.out.size
    have Kshw1 := hid (Ksh.out.below hw1)
    have Kgw1 := hid (Kg.out.below hw1)
    clear hw1
    go_wp2_with fail
    go_returns
    exact ⟨.inl ⟨formB_many (by rw [HM.out]; exact h1), rfl⟩, HBw1.out⟩
  have hd1 : decide (i ≥ M) = false := decide_eq_false h1
  have hd1 : decide (M ≤ i) = false := decide_eq_false h1
  by_cases h2 : (n : Int) = L
  · skip
    have hd2 : ((n : Int) != L) = false := by simp [h2]
    have hd2 : ((n : Int) == L) = true := by simp [h2]
    have H2 := hid h2
    clear h2
    refine wp_region_flow 23 (List.range 23) [] [] (by kernel_rfl) (by kernel_rfl) ?_
    apply Exists.intro
    refine ⟨fun w0 hb0 hF0 => ?_, ?_⟩
    · skip
      have x0 : ∀ w', (∃ x : Ext w0, w' = x.at_) → ∃ T, Blk w' (w.heap.size) (shC L V) T := fun w' ⟨x, hx⟩ => ⟨_, hx ▸ (Ksh.out.below hb0).below x.same⟩
      have y0 : ∀ w', (∃ x : Ext w0, w' = x.at_) → w'.cell? ⟨w.heap.size + 1, 0, none⟩ = some (.int .i64 i) := fun w' ⟨x, hx⟩ => by rw [hx, ((Kg.out.below hb0).below x.same).cell]; rfl
      have y1 : ∀ w', (∃ x : Ext w0, w' = x.at_) → w'.cell? ⟨w.heap.size, 0, none⟩ = some (.int .i64 L) := fun w' ⟨x, hx⟩ => by rw [hx, ((Ksh.out.below hb0).below x.same).cell]; rfl
      have c0 := fun e : Ext w0 => hright_b L V true hrt e.at_
      have c1 := fun e : Ext w0 => CM.out e.at_
      have yp : ∀ w', (∃ x : Ext w0, w' = x.at_) → w'.cell? ⟨w.heap.size + 1, 33, none⟩ = some (.slice a n c) := fun w' ⟨x, hx⟩ => hx ▸ sigC_parts HR.out ((Kg.out.below hb0).below x.same)
      simp only [pick, List.range, List.range.loop, List.getElem?_toArray, List.getElem?_cons_succ, List.getElem?_cons_zero, Option.toList_some, List.cons_append, List.nil_append]
      repeat (first | (go_big_quiet_want; refine quiet_load_blk 23 _ rfl (w.heap.size) rfl _ x0 _ Try.underlying23 rfl 2 size_shape rfl ?_; go_big_quiet_on; simp only [Act.put, List.setIfInBounds_toArray, List.set_cons_zero, List.set_cons_succ]) | (go_big_quiet_want; refine quiet_load_one 3 _ rfl ⟨w.heap.size + 1, 0, none⟩ rfl _ y0 _ Try.underlying3 rfl ?_; go_big_quiet_on; simp only [Act.put, List.setIfInBounds_toArray, List.set_cons_zero, List.set_cons_succ]) | (go_big_quiet_want; refine quiet_load_one 3 _ rfl ⟨w.heap.size, 0, none⟩ rfl _ y1 _ Try.underlying3 rfl ?_; go_big_quiet_on; simp only [Act.put, List.setIfInBounds_toArray, List.set_cons_zero, List.set_cons_succ]) | (go_big_quiet_want; refine quiet_load_one 26 _ rfl ⟨w.heap.size + 1, 33, none⟩ rfl _ yp _ Try.underlying26 rfl ?_; go_big_quiet_on; simp only [Act.put, List.setIfInBounds_toArray, List.set_cons_zero, List.set_cons_succ]) | go_big_quiet_step (first | (go_at_call 17; with_reducible exact Calls.ext (c0 _)) | (go_at_call 18; with_reducible exact Calls.ext (c1 _))))
      exact wpQuiet_nil rfl
    refine AlChk.nil ?_
    refine Walk.fin fun w1 hw1 _ _ => ?_
    simp only [List.drop_succ_cons, List.drop_zero]
    have HBw1 := hid (Below.on Hb.out hw1)
    have hsw1 := HBw1.out.size
    have Kshw1 := hid (Ksh.out.below hw1)
    have Kgw1 := hid (Kg.out.below hw1)
    clear hw1
    go_wp2_with fail
    refine wp_region_flow 5 [0, 1, 3, 4] [] [(.c 2, [], [])] (by kernel_rfl) (by kernel_rfl) ?_
    apply Exists.intro
    refine ⟨fun w0 hb0 hF0 => ?_, ?_⟩
    · skip
      have y0 : ∀ w', (∃ x : Ext w0, w' = x.at_) → w'.cell? ⟨w.heap.size + 1, 0, none⟩ = some (.int .i64 i) := fun w' ⟨x, hx⟩ => by rw [hx, ((Kgw1.out.below hb0).below x.same).cell]; rfl
      simp only [pick, List.getElem?_toArray, List.getElem?_cons_succ, List.getElem?_cons_zero, Option.toList_some, List.cons_append, List.nil_append]
      repeat (first | (go_big_quiet_want; refine quiet_load_one 3 _ rfl ⟨w.heap.size + 1, 0, none⟩ rfl _ y0 _ Try.underlying3 rfl ?_; go_big_quiet_on; simp only [Act.put, List.setIfInBounds_toArray, List.set_cons_zero, List.set_cons_succ]) | go_big_quiet_step (fail))
      exact wpQuiet_nil rfl
    refine AlChk.nil ?_
    refine Walk.call rfl 19 #[.int .i64 i] (fun v w' => OwnB w' w.heap.size 5 v (be 8 (uZ i))) (fun v w' w'' h k => h.below k) rfl (fun w1 hb1 hF1 => ⟨by go_simp, ?_⟩) ?_
    · skip
      refine (wnumber_own i w1 hi64).mono ?_
      rintro e w2 ⟨v', rfl, b', o'⟩
      exact ⟨_, rfl, b', o'.re (Nat.le_trans HBw1.out.size hb1.size)⟩
    rintro v0 w1 hb1 hF1 _
    apply Exists.intro
    refine ⟨fun w0 hb0 hF0 => ?_, ?_⟩
    · skip
      exact wpQuiet_nil rfl
    refine AlChk.nil ?_
    refine Walk.fin fun w2 hw2 hFw2 _ => ?_
    simp only [List.drop_succ_cons, List.drop_zero]
    have HFw2 := hid hFw2
    have HBw2 := hid (Below.on HBw1.out hw2)
    have hsw2 := HBw2.out.size
    have Kshw2 := hid (Kshw1.out.below hw2)
    have Kgw2 := hid (Kgw1.out.below hw2)
    clear hw2 hFw2
    have HOn := hid (show OwnB w2 w.heap.size 5 v0 (be 8 (uZ i)) from HFw2.out.2)
    have HTr := hid (TextAt.of_rng (n := 32) (sigC_r Kgw2.out) Kgw2.out.lt HR.out.len (by omega) HR.out.small)
    have g33 := sigC_parts HR.out Kgw2.out
    go_wp2_with (at_builtin; refine wpList_append_text rfl _ _ rfl Try.underlying31 hi hz0 hz1 hz2 rfl HOn.out rfl HTr.out (by rw [be_length]; omega) HBw2.out.size ?_)
    intro v4 w4 own4 g4 b4
    have HT4 := hid (HOn.out.typed (Nat.le_refl _) g4)
    have HO4 := hid own4
    have HB4 := hid (HT4.out.low HBw2.out (Nat.le_refl _) HBw2.out.size)
    have Ksh4 := hid (HT4.out.blk Kshw2.out (by decide))
    have Kg4 := hid (HT4.out.blk Kgw2.out (by decide))
    have g334 := sigC_parts HR.out Kg4.out
    clear own4 g4 b4 g33
    go_wp2_with fail
    go_loopw [6, 41] (fun bv iv wr => ∃ k : Nat, k ≤ n ∧ iv = .int .i64 k ∧ Blk wr (w.heap.size) (shC L V) 23 ∧ Blk wr (w.heap.size + 1) (sigC i r (.slice a n c)).toArray 28 ∧ Below w.heap.size w wr ∧ (∀ j, j < k → (ps.getD j ([], [])).1.length = 67 ∧ ((ps.getD j ([], [])).2.length : Int) = V) ∧ OwnB wr w.heap.size 5 bv ((be 8 (uZ i) ++ r) ++ ptsB (ps.take k))) (fun _ iv _ => n - (intOf iv).toNat)
    case atStart => exact ⟨0, Nat.zero_le _, rfl, Ksh4.out, Kg4.out, HB4.out, fun j hj => absurd hj (by omega), by simpa [ptsB] using HO4.out⟩
    case round =>
      obtain ⟨k, hk, rfl, ksh, kg, bel, hall, ho⟩ := hrel
      have Kshwr := hid ksh
      have Kgwr := hid kg
      have HBwr := hid bel
      have hswr := bel.size
      have Hall := hid hall
      have HO := hid ho
      have g33 := sigC_parts HR.out kg
      have s1 : wr.cell? ⟨w.heap.size, 1, none⟩ = some (.int .i64 V) := by rw [ksh.cell]; rfl
      clear ksh kg bel hall ho
      by_cases hlt : k < n
      · have hc0 : (k : Int) < n := by omega
        obtain ⟨x, o, oa, oc, aa, ac, rfl, hpcw⟩ := HPw.out.part hlt
        have HPCw := hid hpcw
        have hpc := hpcw.below HBwr.out
        have HPC := hid hpc
        have p0 := hpc.c0
        have p1 := hpc.c1
        clear hpc hpcw
        have hkl : k < ps.length := by omega
        have Hbad := hid (formB_part (L := L) (V := V) (i := i) hkl)
        have HTK := hid (ptsB_take ps k hkl)
        have hV4 := hVb
        have HLE := hid (ptsT_le ps k (by omega) (fun j hj => ⟨(Hall.out j hj).1, by have := (Hall.out j hj).2; omega⟩) (fun j hj => HPw.out.dgs (by omega)))
        obtain ⟨q, hq⟩ : ∃ q, ps.getD k ([], []) = q := ⟨_, rfl⟩
        have Hq := hid hq
        rw [hq] at Hbad HPC HPCw p0 p1 HTK
        clear hq
        by_cases h3 : q.1.length = 67
        · have hd3 : ((q.1.length : Int) != 67) = false := by simp; omega
          have hd3 : ((q.1.length : Int) == 67) = true := by simp; omega
          have H3 := hid h3
          clear h3
          by_cases h4 : (q.2.length : Int) = V
          · skip
            have hd4 : ((q.2.length : Int) != V) = false := by simp [h4]
            have hd4 : ((q.2.length : Int) == V) = true := by simp [h4]
            have H4 := hid h4
            clear h4
            have Kshw3 := hid (Kshwr.out.old (.cells #[.slice oa q.1.length oc, .slice aa q.2.length ac] 46 (0, 0)))
            have hlshw3 := Kshwr.out.lt
            have Kgw3 := hid (Kgwr.out.old (.cells #[.slice oa q.1.length oc, .slice aa q.2.length ac] 46 (0, 0)))
            have hlgw3 := Kgwr.out.lt
            have Kxw3 := hid (Blk.new (w := wr) rfl #[.slice oa q.1.length oc, .slice aa q.2.length ac] 46)
            have HBw3 := hid (HBwr.out.alloc HBwr.out.size (.cells #[.slice oa q.1.length oc, .slice aa q.2.length ac] 46 (0, 0)))
            have hsw3 := HBw3.out.size
            have hfw3 : w.heap.size ≤ wr.heap.size := HBwr.out.size
            have v1 : (wr.alloc (.cells #[.slice oa q.1.length oc, .slice aa q.2.length ac] 46 (0, 0))).cell? ⟨w.heap.size, 1, none⟩ = some (.int .i64 V) := by rw [Kshw3.out.cell]; rfl
            have hne : ¬ wr.heap.size = w.heap.size := by omega
            have hne2 : ¬ w.heap.size = wr.heap.size := by omega
            go_wp2_with (first
               | (refine wpList_index_s 2 (by first | rfl | go_simp) 26 _ _ rfl Try.underlying26 size_part x (o) (n) (c) rfl _ _ rfl k (by omega) (by omega) ?_)
               | (refine wpList_load_mid rfl 46 _ rfl x (o + k * 2) rfl _ _ HPC.out.range Try.underlying46 rfl (by exact size_part) ?_))
            have hbnd : ((be 8 (uZ i) ++ r) ++ ptsB (ps.take k)).length ≤ 100000 := by have := HLE.out; have := HR.out.len; have := H2.out; rw [List.length_append, List.length_append, be_length]; omega
            have HO5 := hid (HO.out.below ((Below.refl wr.heap.size wr).alloc (Nat.le_refl _) (.cells #[.slice oa q.1.length oc, .slice aa q.2.length ac] 46 (0, 0))))
            have hfl := flat_length (ds := q.1) (fun d h => (HPCw.out.ots.each d h).len)
            refine (appd_any w.heap.size _ _ oa _ oc q.1 w (wr.alloc (.cells #[.slice oa q.1.length oc, .slice aa q.2.length ac] 46 (0, 0))) HO5.out HBw3.out.size HBw3.out (Nat.le_refl _) HPCw.out.ots (by have := H3.out; omega) (by omega)).mono ?_
            rintro e w5 ⟨v5, rfl, t5, o5⟩
            have HB5 := hid (t5.low HBw3.out (Nat.le_refl _) HBw3.out.size)
            have Ksh5 := hid (t5.blk Kshw3.out (by decide))
            have Kg5 := hid (t5.blk Kgw3.out (by decide))
            have Kx5 := hid (t5.blk Kxw3.out (by decide))
            have HO6 := hid o5
            have x51 : w5.cell? ⟨wr.heap.size, 1, none⟩ = some (.slice aa q.2.length ac) := by rw [Kx5.out.cell]; rfl
            clear t5 o5
            go_wp2_with fail
            refine (appd_any w.heap.size _ _ aa _ ac q.2 w w5 HO6.out HB5.out.size HB5.out (Nat.le_refl _) HPCw.out.auth (by have := H4.out; omega) (by rw [List.length_append, hfl, H3.out]; omega)).mono ?_
            rintro e w6 ⟨v6, rfl, t6, o6⟩
            have HB6 := hid (t6.low HB5.out (Nat.le_refl _) HB5.out.size)
            have Ksh6 := hid (t6.blk Ksh5.out (by decide))
            have Kg6 := hid (t6.blk Kg5.out (by decide))
            rw [List.append_assoc, List.append_assoc, ← HTK.out] at o6
            have HO7 := hid o6
            clear t6 o6 x51
            go_wp2_with fail
            exact ⟨⟨k + 1, by omega, by first | rfl | simp, Ksh6.out, Kg6.out, HB6.out, fun j hj => by
              by_cases hjk : j = k
              · subst hjk; rw [Hq.out]; exact ⟨H3.out, H4.out⟩
              · exact Hall.out j (by omega), by simpa using HO7.out⟩, by simp [intOf]; omega⟩
          · skip
            have hd4 : ((q.2.length : Int) != V) = true := by simp [h4]
            have hd4 : ((q.2.length : Int) == V) = false := by simp [h4]
            have Kshw3 := hid (Kshwr.out.old (.cells #[.slice oa q.1.length oc, .slice aa q.2.length ac] 46 (0, 0)))
            have hlshw3 := Kshwr.out.lt
            have Kgw3 := hid (Kgwr.out.old (.cells #[.slice oa q.1.length oc, .slice aa q.2.length ac] 46 (0, 0)))
            have hlgw3 := Kgwr.out.lt
            have Kxw3 := hid (Blk.new (w := wr) rfl #[.slice oa q.1.length oc, .slice aa q.2.length ac] 46)
            have HBw3 := hid (HBwr.out.alloc HBwr.out.size (.cells #[.slice oa q.1.length oc, .slice aa q.2.length ac] 46 (0, 0)))
            have hsw3 := HBw3.out.size
            have hfw3 : w.heap.size ≤ wr.heap.size := HBwr.out.size
            have v1 : (wr.alloc (.cells #[.slice oa q.1.length oc, .slice aa q.2.length ac] 46 (0, 0))).cell? ⟨w.heap.size, 1, none⟩ = some (.int .i64 V) := by rw [Kshw3.out.cell]; rfl
            have hne : ¬ wr.heap.size = w.heap.size := by omega
            have hne2 : ¬ w.heap.size = wr.heap.size := by omega
            go_wp2_with (first
               | (refine wpList_index_s 2 (by first | rfl | go_simp) 26 _ _ rfl Try.underlying26 size_part x (o) (n) (c) rfl _ _ rfl k (by omega) (by omega) ?_)
               | (refine wpList_load_mid rfl 46 _ rfl x (o + k * 2) rfl _ _ HPC.out.range Try.underlying46 rfl (by exact size_part) ?_))
            go_returns
            exact ⟨.inl ⟨Hbad.out (fun h => h4 h.2), rfl⟩, HBw3.out⟩
        · have hd3 : ((q.1.length : Int) != 67) = true := by simp; omega
          have hd3 : ((q.1.length : Int) == 67) = false := by simp; omega
          skip
          have Kshw3 := hid (Kshwr.out.old (.cells #[.slice oa q.1.length oc, .slice aa q.2.length ac] 46 (0, 0)))
          have hlshw3 := Kshwr.out.lt
          have Kgw3 := hid (Kgwr.out.old (.cells #[.slice oa q.1.length oc, .slice aa q.2.length ac] 46 (0, 0)))
          have hlgw3 := Kgwr.out.lt
          have Kxw3 := hid (Blk.new (w := wr) rfl #[.slice oa q.1.length oc, .slice aa q.2.length ac] 46)
          have HBw3 := hid (HBwr.out.alloc HBwr.out.size (.cells #[.slice oa q.1.length oc, .slice aa q.2.length ac] 46 (0, 0)))
          have hsw3 := HBw3.out.size
          have hfw3 : w.heap.size ≤ wr.heap.size := HBwr.out.size
          have v1 : (wr.alloc (.cells #[.slice oa q.1.length oc, .slice aa q.2.length ac] 46 (0, 0))).cell? ⟨w.heap.size, 1, none⟩ = some (.int .i64 V) := by rw [Kshw3.out.cell]; rfl
          have hne : ¬ wr.heap.size = w.heap.size := by omega
          have hne2 : ¬ w.heap.size = wr.heap.size := by omega
          go_wp2_with (first
             | (refine wpList_index_s 2 (by first | rfl | go_simp) 26 _ _ rfl Try.underlying26 size_part x (o) (n) (c) rfl _ _ rfl k (by omega) (by omega) ?_)
             | (refine wpList_load_mid rfl 46 _ rfl x (o + k * 2) rfl _ _ HPC.out.range Try.underlying46 rfl (by exact size_part) ?_))
          go_returns
          exact ⟨.inl ⟨Hbad.out (fun h => h3 h.1), rfl⟩, HBw3.out⟩
      · obtain rfl : k = n := by omega
        have hc0 : ¬ ((k : Int) < k) := by omega
        have hft : ps.take k = ps := List.take_of_length_le (by omega)
        rw [hft] at HO
        go_wp2_with fail
        go_returns
        exact ⟨.inr ⟨formB_good hrt (by omega) (by rw [HM.out]; omega) (by rw [hnl]; exact H2.out) (fun j hj => Hall.out j (by omega)), _, rfl, HO.out⟩, HBwr.out⟩
  · skip
    have hd2 : ((n : Int) != L) = true := by simp [h2]
    have hd2 : ((n : Int) == L) = false := by simp [h2]
    refine wp_region_flow 23 (List.range 23) [] [] (by kernel_rfl) (by kernel_rfl) ?_
    apply Exists.intro
    refine ⟨fun w0 hb0 hF0 => ?_, ?_⟩
    · skip
      have x0 : ∀ w', (∃ x : Ext w0, w' = x.at_) → ∃ T, Blk w' (w.heap.size) (shC L V) T := fun w' ⟨x, hx⟩ => ⟨_, hx ▸ (Ksh.out.below hb0).below x.same⟩
      have y0 : ∀ w', (∃ x : Ext w0, w' = x.at_) → w'.cell? ⟨w.heap.size + 1, 0, none⟩ = some (.int .i64 i) := fun w' ⟨x, hx⟩ => by rw [hx, ((Kg.out.below hb0).below x.same).cell]; rfl
      have y1 : ∀ w', (∃ x : Ext w0, w' = x.at_) → w'.cell? ⟨w.heap.size, 0, none⟩ = some (.int .i64 L) := fun w' ⟨x, hx⟩ => by rw [hx, ((Ksh.out.below hb0).below x.same).cell]; rfl
      have c0 := fun e : Ext w0 => hright_b L V true hrt e.at_
      have c1 := fun e : Ext w0 => CM.out e.at_
      have yp : ∀ w', (∃ x : Ext w0, w' = x.at_) → w'.cell? ⟨w.heap.size + 1, 33, none⟩ = some (.slice a n c) := fun w' ⟨x, hx⟩ => hx ▸ sigC_parts HR.out ((Kg.out.below hb0).below x.same)
      simp only [pick, List.range, List.range.loop, List.getElem?_toArray, List.getElem?_cons_succ, List.getElem?_cons_zero, Option.toList_some, List.cons_append, List.nil_append]
      repeat (first | (go_big_quiet_want; refine quiet_load_blk 23 _ rfl (w.heap.size) rfl _ x0 _ Try.underlying23 rfl 2 size_shape rfl ?_; go_big_quiet_on; simp only [Act.put, List.setIfInBounds_toArray, List.set_cons_zero, List.set_cons_succ]) | (go_big_quiet_want; refine quiet_load_one 3 _ rfl ⟨w.heap.size + 1, 0, none⟩ rfl _ y0 _ Try.underlying3 rfl ?_; go_big_quiet_on; simp only [Act.put, List.setIfInBounds_toArray, List.set_cons_zero, List.set_cons_succ]) | (go_big_quiet_want; refine quiet_load_one 3 _ rfl ⟨w.heap.size, 0, none⟩ rfl _ y1 _ Try.underlying3 rfl ?_; go_big_quiet_on; simp only [Act.put, List.setIfInBounds_toArray, List.set_cons_zero, List.set_cons_succ]) | (go_big_quiet_want; refine quiet_load_one 26 _ rfl ⟨w.heap.size + 1, 33, none⟩ rfl _ yp _ Try.underlying26 rfl ?_; go_big_quiet_on; simp only [Act.put, List.setIfInBounds_toArray, List.set_cons_zero, List.set_cons_succ]) | go_big_quiet_step (first | (go_at_call 17; with_reducible exact Calls.ext (c0 _)) | (go_at_call 18; with_reducible exact Calls.ext (c1 _))))
      exact wpQuiet_nil rfl
    refine AlChk.nil ?_
    refine Walk.fin fun w1 hw1 _ _ => ?_
    simp only [List.drop_succ_cons, List.drop_zero]
    have HBw1 := hid (Below.on Hb.out hw1)
    have hsw1 := HBw1.out.size
    have Kshw1 := hid (Ksh.out.below hw1)
    have Kgw1 := hid (Kg.out.below hw1)
    clear hw1
    go_wp2_with fail
    go_returns
    exact ⟨.inl ⟨formB_len (by rw [hnl]; exact h2), rfl⟩, HBw1.out⟩
end Go.Proofs.Ytkakoiaahgchmaa
