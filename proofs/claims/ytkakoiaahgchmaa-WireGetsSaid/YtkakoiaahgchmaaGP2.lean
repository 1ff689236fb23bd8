/-
  Layer 20: a signature's bytes, as the reference makes them.
-/
import Derived.Test.YtkakoiaahgchmaaGP1
namespace Go.Proofs.Ytkakoiaahgchmaa
open Go.ChangeShapes Go.WideShapes Go.ChangeAt Go.RowKit

/-- The beginning of a signature's bytes. -/
def preZ (i : Int) (r : List Int) : List Int := be 8 (uZ i) ++ r
theorem preZ_length {i : Int} {r : List Int} (h : Dg r) : (preZ i r).length = 40 := by simp [preZ, be_length, h.len]
set_option maxHeartbeats 4000000 in
set_option maxRecDepth 100000 in
theorem all_at (B : Nat) (v : Value) (bs : List Int) (ya : Option Addr) (n c : Nat) (ds : List (List Int)) (W0 w : World) (hv : OwnB w B 5 v bs) (hB : B ≤ w.heap.size) (hW : Below W0.heap.size W0 w) (hWB : W0.heap.size ≤ B) (hD : DigsAt W0 ya n c ds) (hn9 : n ≤ 1000000) (hb : bs.length ≤ 1000000000) :
    Calls Try.prog 24 #[v, .slice ya n c] w fun e w' => ∃ v', e = .returned v' ∧ FlowB.Typed B 5 w w' ∧ OwnB w' B 5 v' (bs ++ ds.flatten) := by
  obtain ⟨i0, hi, hz0, hz1, hz2⟩ := info_parts info_byte
  have HO0 := hid hv
  have HD := hid hD
  have HW := hid hW
  have hnl := hD.length
  have HT0 := hid (FlowB.Typed.of_below (B := B) (T := 5) (Below.refl w.heap.size w))
  clear hv hD hW
  go_enter Try.func24, Try.ntmps24
  go_wp2_with fail
  go_loopw [0, 5] (fun bv iv wr => ∃ k : Nat, k ≤ n ∧ iv = .int .i64 k ∧ OwnB wr B 5 bv (bs ++ (ds.take k).flatten) ∧ FlowB.Typed B 5 w wr ∧ B ≤ wr.heap.size) (fun _ iv _ => n - (intOf iv).toNat)
  case atStart => exact ⟨0, Nat.zero_le _, rfl, by simpa using HO0.out, HT0.out, hB⟩
  case round =>
    obtain ⟨k, hk, rfl, ho, ht, hsz⟩ := hrel
    have HO := hid ho
    have HTy := hid ht
    clear ho ht
    by_cases hlt : k < n
    · have hc0 : (k : Int) < n := by omega
      have hkl : k < ds.length := by omega
      have HWr := hid (HTy.out.low HW.out hWB (Nat.le_trans hWB hB))
      obtain ⟨y, yo, rfl, hy, hyc⟩ := HD.out.at_ (by omega)
      have HS := hid (HD.out.get hlt)
      have HT2 := hid (TextAt.of_rng (n := 32) (rangeAt_below (hyc k hlt) hy HWr.out) (Nat.lt_of_lt_of_le hy HWr.out.size) HS.out.len (by omega) HS.out.small)
      clear hyc
      have HF := hid (digs_take ds k hkl)
      have HLn := hid (flat_length (ds := ds.take k) (fun d h => (HD.out.each d (List.mem_of_mem_take h)).len))
      have Hkm := hid (show (ds.take k).length = k from by rw [List.length_take]; omega)
      generalize ds.getD k [] = x at *
      go_wp2_with (first
        | (refine wpList_index_s 32 (by first | rfl | go_simp) 44 _ _ rfl Try.underlying44 size_digest y yo n c rfl _ _ rfl k (by omega) (by omega) ?_)
        | (at_builtin; refine wpList_append_text rfl _ _ rfl Try.underlying31 hi hz0 hz1 hz2 rfl HO.out rfl HT2.out (by rw [List.length_append, HLn.out, Hkm.out]; omega) hsz ?_))
      intro v4 w4 own4 g4 b4
      rw [← HF.out] at own4
      have H4 := hid own4
      have H5 := hid (HTy.out.trans (HO.out.typed (Nat.le_refl _) g4))
      have hsz4 := Nat.le_trans hsz b4.size
      clear own4 g4 b4
      go_wp2_with fail
      exact ⟨⟨k + 1, by omega, by go_num, H4.out, H5.out, hsz4⟩, by simp [intOf]; omega⟩
    · have hkn : k = n := by omega
      have hft : ds.take k = ds := List.take_of_length_le (by omega)
      rw [hft] at HO
      have hc0 : ¬ (k : Int) < n := by omega
      go_wp2_with fail
      go_returns
      exact ⟨_, rfl, HTy.out, HO.out⟩

set_option maxHeartbeats 4000000 in
set_option maxRecDepth 100000 in
theorem refput_any (i : Int) (r : List Int) (a : Option Addr) (n c : Nat) (ps : List Prt) (w : World) (hi : -9223372036854775808 ≤ i ∧ i < 9223372036854775808) (hrd : Dg r) (hP : PartsAt w a n c ps) (hn20 : n ≤ 20) (hfr : ∀ j, j < ps.length → (ps.getD j ([], [])).1.length = 67 ∧ (ps.getD j ([], [])).2.length ≤ 100) :
    Calls Try.prog 11 #[.agg (sigC i r (.slice a n c)).toArray] w fun e w' => ∃ v, e = .returned v ∧ OwnB w' w.heap.size 5 v (putZ i r ps) ∧ Below w.heap.size w w' := by
  have HPw := hid hP
  have hnl := hP.length
  clear hP
  have Hi := hid hi
  have Hrd := hid hrd
  have b1 := (Below.refl w.heap.size w).alloc (Nat.le_refl _) (.cells (sigC i r (.slice a n c)).toArray 28 (0, 0))
  have Kg := hid (Blk.new (w := w) (n := w.heap.size) rfl (sigC i r (.slice a n c)).toArray 28)
  have Hb := hid b1
  have hbz := b1.size
  have Hbs := hid (show w.heap.size + 1 = (w.alloc (.cells (sigC i r (.slice a n c)).toArray 28 (0, 0))).heap.size by simp only [World.size_alloc])
  clear b1 
  go_enter Try.func11, Try.ntmps11
  go_wp2_with fail
  have HBB : Hid (w.heap.size + 1 ≤ (w.alloc (.cells (sigC i r (.slice a n c)).toArray 28 (0, 0))).heap.size) := hid (Nat.le_of_eq Hbs.out)
  obtain ⟨i0, hi, hz0, hz1, hz2⟩ := info_parts info_byte
  refine FlowB.wp_region_typed (w.heap.size + 1) 5 8 [0, 1, 4, 5] [2, 6] [(.b 2, [], []), (.c 3, [], []), (.b 6, [], []), (.c 7, [], [])] (by kernel_rfl) (by kernel_rfl) ?_
  apply Exists.intro
  refine ⟨fun w0 hb0 hF0 => ?_, ?_⟩
  · skip
    have y0 : ∀ w', (∃ x : Ext w0, w' = x.at_) → w'.cell? ⟨w.heap.size, 0, none⟩ = some (.int .i64 i) := fun w' ⟨x, hx⟩ => by rw [hx, ((hb0.blk Kg.out (by decide)).below x.same).cell]; rfl
    have z0 : ∀ w', (∃ x : Ext w0, w' = x.at_) → w'.rangeAt (w.heap.size) 1 (r.map (Value.int .u8)) := fun w' ⟨x, hx⟩ => hx ▸ sigC_r ((hb0.blk Kg.out (by decide)).below x.same)
    simp only [pick, List.getElem?_toArray, List.getElem?_cons_succ, List.getElem?_cons_zero, Option.toList_some, List.cons_append, List.nil_append]
    repeat (first | (go_big_quiet_want; refine quiet_load_one 3 _ rfl ⟨w.heap.size, 0, none⟩ rfl _ y0 _ Try.underlying3 rfl ?_; go_big_quiet_on; simp only [Act.put, List.setIfInBounds_toArray, List.set_cons_zero, List.set_cons_succ]) | (go_big_quiet_want; refine quiet_load_mid 25 _ rfl (w.heap.size) 1 rfl _ z0 _ Try.underlying25 rfl (by rw [List.length_map, hrd.len]; exact size_digest) ?_; go_big_quiet_on; simp only [Act.put, List.setIfInBounds_toArray, List.set_cons_zero, List.set_cons_succ]) | go_big_quiet_step (fail))
    exact wpQuiet_nil rfl
  refine FlowB.AlChk.one rfl (fun b => .slice (some ⟨b, 0, none⟩) 1 1) (.cells #[.int .i64 i] 3 (0, 0)) rfl (FlowB.st_typed _ _ _ (by decide)) (fun w2 hb2 hF2 => by go_simp) ?_
  refine FlowB.AlChk.one rfl (fun b => .slice (some ⟨b, 0, none⟩) 1 1) (.cells (dcs [r]) 25 (0, 0)) rfl (FlowB.st_typed _ _ _ (by decide)) (fun w2 hb2 hF2 => exec_run_build_one1 rfl rfl Hrd.out) ?_
  refine FlowB.AlChk.nil ?_
  refine FlowB.Walk.blk rfl (fun b => .slice (some ⟨b, 0, none⟩) 1 1) (.cells #[.int .i64 i] 3 (0, 0)) (by simp) ?_
  intro bi w5 hb5 hF5 hge5 _
  apply Exists.intro
  refine ⟨fun w4 hb4 hF4 => wpQuiet_nil rfl, ?_⟩
  refine FlowB.AlChk.nil ?_
  refine FlowB.Walk.call rfl 25 #[(.slice none 0 0), .slice (some ⟨bi, 0, none⟩) 1 1] (fun _ _ => True) (fun v w' => OwnB w' (w.heap.size + 1) 5 v ([] ++ eightZ [i])) (fun v w' w'' _ h _ => h) (fun v w' w'' h k => h.below k) rfl (fun w6 hb6 hF6 hG6 => ⟨by go_simp, ?_⟩) ?_
  · have kb : Blk w6 bi (([i] : List Int).map (Value.int .i64)).toArray 3 := hF6.2
    refine (eight_any (w.heap.size + 1) (.slice none 0 0) [] bi 1 [i] w6 (OwnB.nil w6 (w.heap.size + 1) 5) (Nat.le_trans HBB.out hb6.size) kb rfl (by omega) (fun x hx => by
      simp only [List.mem_cons, List.not_mem_nil, or_false] at hx
      rcases hx with rfl
      · exact Hi.out) (by simp)).mono ?_
    rintro e w7 ⟨v', rfl, t7, o7⟩
    exact ⟨v', rfl, t7, trivial, o7⟩
  rintro v8 w6 hb6 hF6 _
  apply Exists.intro
  refine ⟨fun w4 hb4 hF4 => wpQuiet_nil rfl, ?_⟩
  refine FlowB.AlChk.nil ?_
  refine FlowB.Walk.blk rfl (fun b => .slice (some ⟨b, 0, none⟩) 1 1) (.cells (dcs [r]) 25 (0, 0)) (by simp) ?_
  intro bd w7 hb7 hF7 hge7 _
  apply Exists.intro
  refine ⟨fun w4 hb4 hF4 => wpQuiet_nil rfl, ?_⟩
  refine FlowB.AlChk.nil ?_
  refine FlowB.Walk.call rfl 24 #[v8, .slice (some ⟨bd, 0, none⟩) 1 1] (fun _ _ => True) (fun v w' => OwnB w' (w.heap.size + 1) 5 v (preZ i r)) (fun v w' w'' _ h _ => h) (fun v w' w'' h k => h.below k) rfl (fun w8 hb8 hF8 hG8 => ⟨by go_simp, ?_⟩) ?_
  · have kb : Blk w8 bd (dcs [r]) 25 := hF8.2
    refine (all_any (w.heap.size + 1) v8 ([] ++ eightZ [i]) bd 1 [r] w8 hG8 (Nat.le_trans HBB.out hb8.size) kb (fun d hd => by
      simp only [List.mem_cons, List.not_mem_nil, or_false] at hd
      rcases hd with rfl
      · exact Hrd.out) rfl (by omega) (by rw [List.length_append, eightZ_length]; simp)).mono ?_
    rintro e w9 ⟨v', rfl, t9, o9⟩
    rw [show [] ++ eightZ [i] ++ ([r] : List (List Int)).flatten = (preZ i r) by unfold preZ eightZ; simp] at o9
    exact ⟨v', rfl, t9, trivial, o9⟩
  rintro v9 w8 hb8 hF8 _
  apply Exists.intro
  refine ⟨fun w4 hb4 hF4 => wpQuiet_nil rfl, ?_⟩
  refine FlowB.AlChk.nil ?_
  refine FlowB.Walk.fin fun w9 h9 _ hG9 => ?_
  simp only [List.drop_succ_cons, List.drop_zero]
  have HO9 := hid hG9
  have HB9 := hid (Below.trans0 (h9.below HBB.out) Hb.out (by omega))
  have Kg9 := hid (h9.blk Kg.out (by decide))
  have hs9 : w.heap.size + 1 ≤ w9.heap.size := Nat.le_trans HBB.out h9.size
  clear h9 hG9
  go_wp2_with fail
  go_loopw [3, 4] (fun bv iv wr => ∃ k : Nat, k ≤ n ∧ iv = .int .i64 k ∧ Blk wr (w.heap.size) (sigC i r (.slice a n c)).toArray 28 ∧ Below w.heap.size w wr ∧ w.heap.size + 1 ≤ wr.heap.size ∧ OwnB wr (w.heap.size + 1) 5 bv (preZ i r ++ ptsB (ps.take k))) (fun _ iv _ => n - (intOf iv).toNat)
  case atStart => exact ⟨0, Nat.zero_le _, rfl, Kg9.out, HB9.out, hs9, by simpa [ptsB] using HO9.out⟩
  case round =>
    obtain ⟨k, hk, rfl, kg, bel, hsz, ho⟩ := hrel
    have Kgwr := hid kg
    have HBwr := hid bel
    have hswr := bel.size
    have HO := hid ho
    have g33 := sigC_parts hrd kg
    clear kg bel ho
    by_cases hlt : k < n
    · have hc0 : (k : Int) < n := by omega
      obtain ⟨x, o, oa, oc, aa, ac, rfl, hpcw⟩ := HPw.out.part hlt
      have HPCw := hid hpcw
      have hpc := hpcw.below HBwr.out
      have HPC := hid hpc
      clear hpc hpcw
      have hkl : k < ps.length := by omega
      have HTK := hid (ptsB_take ps k hkl)
      have HLE := hid (ptsT_le ps k (by omega) (fun j hj => hfr j (by omega)) (fun j hj => HPw.out.dgs (by omega)))
      have hq1 := hfr k hkl
      obtain ⟨q, hq⟩ : ∃ q, ps.getD k ([], []) = q := ⟨_, rfl⟩
      rw [hq] at HPC HPCw HTK hq1
      have Hpre := hid (preZ_length (i := i) hrd)
      clear hq
      go_wp2_with fail
      obtain ⟨bv, hbv⟩ : ∃ x, x = u3 := ⟨_, rfl⟩
      rw [← hbv] at HO ⊢
      have G0 : OwnB wr (w.heap.size + 1) 5 bv (preZ i r ++ ptsB (ps.take k)) := HO.out
      have hfl := flat_length (ds := q.1) (fun d h => (HPCw.out.ots.each d h).len)
      refine FlowB.wp_region_typed_g (w.heap.size + 1) 5 (fun wz => OwnB wz (w.heap.size + 1) 5 bv (preZ i r ++ ptsB (ps.take k))) 15 [0, 1, 2, 3, 4, 5, 6, 8, 9, 10, 11, 12, 13] [] [(.c 7, [], []), (.c 14, [], [])] (by kernel_rfl) (by kernel_rfl) G0 (fun _ _ h hb => h.below hb) ?_
      apply Exists.intro
      refine ⟨fun w0 hb0 hF0 => ?_, ?_⟩
      · skip
        have hlow := fun (x' : Ext w0) => Below.on (hb0.low HBwr.out (by omega) hswr) x'.same
        have yp : ∀ w', (∃ x : Ext w0, w' = x.at_) → w'.cell? ⟨w.heap.size, 33, none⟩ = some (.slice (some ⟨x, o, none⟩) n c) := fun w' ⟨x, hx⟩ => hx ▸ sigC_parts hrd ((hb0.blk Kgwr.out (by decide)).below x.same)
        have q0 : ∀ w', (∃ x : Ext w0, w' = x.at_) → w'.cell? ⟨x, o + k * 2, none⟩ = some (.slice oa q.1.length oc) := fun w' ⟨x, hx⟩ => hx ▸ (HPCw.out.below (hlow x)).c0
        have q1 : ∀ w', (∃ x : Ext w0, w' = x.at_) → w'.cell? ⟨x, o + k * 2 + 1, none⟩ = some (.slice aa q.2.length ac) := fun w' ⟨x, hx⟩ => hx ▸ (HPCw.out.below (hlow x)).c1
        simp only [pick, List.getElem?_toArray, List.getElem?_cons_succ, List.getElem?_cons_zero, Option.toList_some, List.cons_append, List.nil_append]
        repeat (first | (go_big_quiet_want; refine quiet_index_s 2 26 _ _ rfl Try.underlying26 size_part x o n c rfl _ _ rfl k (by omega) (by omega) ?_; go_big_quiet_on; simp only [Act.put, List.setIfInBounds_toArray, List.set_cons_zero, List.set_cons_succ]) | (go_big_quiet_want; refine quiet_load_one 26 _ rfl ⟨w.heap.size, 33, none⟩ rfl _ yp _ Try.underlying26 rfl ?_; go_big_quiet_on; simp only [Act.put, List.setIfInBounds_toArray, List.set_cons_zero, List.set_cons_succ]) | (go_big_quiet_want; refine quiet_load_one 44 _ rfl ⟨x, o + k * 2, none⟩ rfl _ q0 _ Try.underlying44 rfl ?_; go_big_quiet_on; simp only [Act.put, List.setIfInBounds_toArray, List.set_cons_zero, List.set_cons_succ]) | (go_big_quiet_want; refine quiet_load_one 44 _ rfl ⟨x, o + k * 2 + 1, none⟩ rfl _ q1 _ Try.underlying44 rfl ?_; go_big_quiet_on; simp only [Act.put, List.setIfInBounds_toArray, List.set_cons_zero, List.set_cons_succ]) | go_big_quiet_step (fail))
        exact wpQuiet_nil rfl
      refine FlowB.AlChk.nil ?_
      refine FlowB.Walk.call rfl 24 #[bv, .slice oa q.1.length oc] (fun _ _ => True) (fun v w' => OwnB w' (w.heap.size + 1) 5 v ((preZ i r ++ ptsB (ps.take k)) ++ q.1.flatten)) (fun v w' w'' _ h _ => h) (fun v w' w'' h k => h.below k) rfl (fun w6 hb6 hF6 hG6 => ⟨by go_simp, ?_⟩) ?_
      · refine (all_at (w.heap.size + 1) bv _ oa _ oc q.1 w w6 hG6 (Nat.le_trans hsz hb6.size) (hb6.low HBwr.out (by omega) hswr) (by omega) HPCw.out.ots (by omega) (by have := HLE.out; have := Hpre.out; rw [List.length_append]; omega)).mono ?_
        rintro e w7 ⟨v', rfl, t7, o7⟩
        exact ⟨v', rfl, t7, trivial, o7⟩
      rintro v8 w6 hb6 hF6 _
      apply Exists.intro
      refine ⟨fun w4 hb4 hF4 => wpQuiet_nil rfl, ?_⟩
      refine FlowB.AlChk.nil ?_
      refine FlowB.Walk.call rfl 24 #[v8, .slice aa q.2.length ac] (fun _ _ => True) (fun v w' => OwnB w' (w.heap.size + 1) 5 v (((preZ i r ++ ptsB (ps.take k)) ++ q.1.flatten) ++ q.2.flatten)) (fun v w' w'' _ h _ => h) (fun v w' w'' h k => h.below k) rfl (fun w6 hb6 hF6 hG6 => ⟨by go_simp, ?_⟩) ?_
      · refine (all_at (w.heap.size + 1) v8 _ aa _ ac q.2 w w6 hG6 (Nat.le_trans hsz hb6.size) (hb6.low HBwr.out (by omega) hswr) (by omega) HPCw.out.auth (by omega) (by have := HLE.out; have := Hpre.out; rw [List.length_append, List.length_append, hfl]; omega)).mono ?_
        rintro e w7 ⟨v', rfl, t7, o7⟩
        exact ⟨v', rfl, t7, trivial, o7⟩
      rintro v9 w6 hb6 hF6 _
      apply Exists.intro
      refine ⟨fun w4 hb4 hF4 => wpQuiet_nil rfl, ?_⟩
      refine FlowB.AlChk.nil ?_
      refine FlowB.Walk.fin fun w9 h9 _ hG9 => ?_
      simp only [List.drop_succ_cons, List.drop_zero]
      rw [List.append_assoc, List.append_assoc, ← HTK.out] at hG9
      have H9 := hid hG9
      have HB8 := hid (h9.low HBwr.out (by omega) hswr)
      have Kg8 := hid (h9.blk Kgwr.out (by decide))
      have hs8 := Nat.le_trans hsz h9.size
      clear h9 hG9 G0
      go_wp2_with fail
      exact ⟨⟨k + 1, by omega, by first | rfl | simp, Kg8.out, HB8.out, hs8, H9.out⟩, by simp [intOf]; omega⟩
    · have hkn : k = n := by omega
      have hft : ps.take k = ps := List.take_of_length_le (by omega)
      rw [hft] at HO
      have hc0 : ¬ (k : Int) < n := by omega
      go_wp2_with fail
      go_returns
      exact ⟨_, rfl, HO.out.re (by omega), HBwr.out⟩
end Go.Proofs.Ytkakoiaahgchmaa
