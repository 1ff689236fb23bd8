/-
  Layer 11: HyperVerifies.
-/
import Derived.Test.YtjkfbeillmeomaaDoorQVerR
import Derived.Test.YtjkfbeillmeomaaDoorQHyper4
namespace Go.Proofs.YtjkfbeillmeomaaDoor
set_option maxRecDepth 100000
open Go.ChangeShapes Go.WideShapes Go.ChangeAt Go.RowKit
theorem verify_b (L V i : Int) (root pub r : List Int) (a : Option Addr) (pn c : Nat) (ps : List Prt) (ta : Option Addr) (tn tc : Nat) (ts : List (List Int)) (w : World) (hr : Dg r) (hroot : Dg root) (hpub : Dg pub) (hP : PartsAt w a pn c ps) (hT : TextsAt w ta tn tc ts) (htn : tn ≤ 4000000000000) (hsl : sumLen ts < 1000000000000000000) (tab : ShaTab w) :
    Calls Tryd.prog 51 #[.agg (pubC L V root pub).toArray, .agg (sigC i r (.slice a pn c)).toArray, .slice ta tn tc] w fun e w' => e = .returned (.bool (verB L V i root pub r ps ts.flatten)) ∧ Below w.heap.size w w' := by
  cases hrt : rightS L V with
  | false =>
    have h : verB L V i root pub r ps ts.flatten = false := by unfold verB; rw [formB_right hrt]; rfl
    rw [h]
    exact verify_bad L V root pub _ _ w hrt (sigC_size hr)
  | true =>
    have hr2 := hrt
    simp only [rightS, decide_eq_true_eq] at hr2
    obtain ⟨n, rfl⟩ := Int.eq_ofNat_of_zero_le (show 0 ≤ V by omega)
    cases hf : formB L n i ps with
    | false =>
      have h : verB L n i root pub r ps ts.flatten = false := by unfold verB; rw [hf]; rfl
      rw [h]
      exact verify_false L n i root pub r a pn c ps _ w hrt hf hr hP
    | true =>
      have h : verB L n i root pub r ps ts.flatten = decide (verK pub n ((2 ^ n : Nat) : Int) i ps (msgZ r root i ts.flatten) ps.length = root) := by unfold verB; rw [hf, Bool.true_and, Int.toNat_natCast]
      rw [h]
      exact verify_good L i n root pub r a pn c ps ta tn tc ts w hf hr hroot hpub hP hT htn hsl tab
theorem refverify_b (L V i : Int) (root pub r : List Int) (a : Option Addr) (pn c : Nat) (ps : List Prt) (ta : Option Addr) (tn tc : Nat) (m : List Int) (w : World) (hr : Dg r) (hroot : Dg root) (hpub : Dg pub) (hP : PartsAt w a pn c ps) (hT : TextAt w ta tn tc m) (htn : tn ≤ 140737488320000) :
    Calls Tryd.prog 52 #[.agg (pubC L V root pub).toArray, .agg (sigC i r (.slice a pn c)).toArray, .slice ta tn tc] w fun e w' => e = .returned (.bool (verB L V i root pub r ps m)) ∧ Below w.heap.size w w' := by
  cases hrt : rightS L V with
  | false =>
    have h : verB L V i root pub r ps m = false := by unfold verB; rw [formB_right hrt]; rfl
    rw [h]
    exact refverify_bad L V i root pub r a pn c ps _ w hrt hr hP
  | true =>
    have hr2 := hrt
    simp only [rightS, decide_eq_true_eq] at hr2
    obtain ⟨n, rfl⟩ := Int.eq_ofNat_of_zero_le (show 0 ≤ V by omega)
    cases hf : formB L n i ps with
    | false =>
      have h : verB L n i root pub r ps m = false := by unfold verB; rw [hf]; rfl
      rw [h]
      exact refverify_false L n i root pub r a pn c ps _ w hrt hf hr hP
    | true =>
      have h : verB L n i root pub r ps m = decide (verK pub n ((2 ^ n : Nat) : Int) i ps (msgZ r root i m) ps.length = root) := by unfold verB; rw [hf, Bool.true_and, Int.toNat_natCast]
      rw [h]
      exact refverify_good L i n root pub r a pn c ps ta tn tc m w hf hr hroot hpub hP hT htn
set_option maxHeartbeats 4000000 in
theorem hyperVerifies_many (L V i : Int) (root pub r : List Int) (a : Option Addr) (pn c : Nat) (ps : List Prt) (ta : Option Addr) (tn tc : Nat) (_ts : List (List Int)) (w : World) (hr : Dg r) (hP : PartsAt w a pn c ps) (hf : fewP ps = false) :
    Calls Tryd.prog 13 #[.agg (pubC L V root pub).toArray, .agg (sigC i r (.slice a pn c)).toArray, .slice ta tn tc] w fun e w' => e = .returned (.bool true) ∧ Below w.heap.size w w' := by
  have CF := hid (fun (W : World) (h : PartsAt W a pn c ps) => by have := reffew_any i r a pn c ps W hr h; rw [hf] at this; exact this)
  have b1 := (Below.refl w.heap.size w).alloc (Nat.le_refl _) (.cells (pubC L V root pub).toArray 68 (0, 0))
  have b2 := b1.alloc b1.size (.cells (sigC i r (.slice a pn c)).toArray 75 (0, 0))
  have Kp := hid ((Blk.new (w := w) (n := w.heap.size) rfl (pubC L V root pub).toArray 68).old (.cells (sigC i r (.slice a pn c)).toArray 75 (0, 0)))
  have Kg := hid (Blk.new (w := (w.alloc (.cells (pubC L V root pub).toArray 68 (0, 0)))) (n := w.heap.size + 1) (by simp only [World.size_alloc]) (sigC i r (.slice a pn c)).toArray 75)
  have Hb := hid b2
  have hbz := b2.size
  have Hbs := hid (show w.heap.size + 1 + 1 = ((w.alloc (.cells (pubC L V root pub).toArray 68 (0, 0))).alloc (.cells (sigC i r (.slice a pn c)).toArray 75 (0, 0))).heap.size by simp only [World.size_alloc])
  clear b1 b2 
  go_enter Tryd.func13, Tryd.ntmps13
  go_wp2_with (refine wpList_load_blk rfl 75 _ rfl (w.heap.size + 1) rfl _ 75 Kg.out _ Tryd.underlying75 rfl 34 size_sig (sigC_size hr) ?_)
  refine (CF.out _ (hP.below Hb.out)).mono ?_
  rintro e w1 ⟨rfl, bw1⟩
  have HBw1 := hid (Below.on Hb.out bw1)
  have hsw1 := HBw1.out.size
  have Kpw1 := hid (Kp.out.below bw1)
  have Kgw1 := hid (Kg.out.below bw1)
  clear bw1
  go_wp2_with fail
  refine (knows11 _).mono ?_
  rintro e w2 ⟨rfl, bw2⟩
  have HBw2 := hid (Below.on HBw1.out bw2)
  have hsw2 := HBw2.out.size
  have Kpw2 := hid (Kpw1.out.below bw2)
  have Kgw2 := hid (Kgw1.out.below bw2)
  clear bw2
  go_wp2_with fail
  go_returns
  exact ⟨rfl, HBw2.out⟩
set_option maxHeartbeats 4000000 in
theorem hyperVerifies_long (L V i : Int) (root pub r : List Int) (a : Option Addr) (pn c : Nat) (ps : List Prt) (ta : Option Addr) (tn tc : Nat) (ts : List (List Int)) (w : World) (hr : Dg r) (hP : PartsAt w a pn c ps) (hT : TextsAt w ta tn tc ts) (hreach : ∀ t ∈ ts, t.length ≤ 140737488351232) (hf : fewP ps = true) (ht : fewB ts 1000 = false) :
    Calls Tryd.prog 13 #[.agg (pubC L V root pub).toArray, .agg (sigC i r (.slice a pn c)).toArray, .slice ta tn tc] w fun e w' => e = .returned (.bool true) ∧ Below w.heap.size w w' := by
  have CF := hid (fun (W : World) (h : PartsAt W a pn c ps) => by have := reffew_any i r a pn c ps W hr h; rw [hf] at this; exact this)
  have CT := hid (fun (W : World) (h : TextsAt W ta tn tc ts) => by have := few_any ta tn tc ts 1000 W h hreach; rw [ht] at this; exact this)
  have b1 := (Below.refl w.heap.size w).alloc (Nat.le_refl _) (.cells (pubC L V root pub).toArray 68 (0, 0))
  have b2 := b1.alloc b1.size (.cells (sigC i r (.slice a pn c)).toArray 75 (0, 0))
  have Kp := hid ((Blk.new (w := w) (n := w.heap.size) rfl (pubC L V root pub).toArray 68).old (.cells (sigC i r (.slice a pn c)).toArray 75 (0, 0)))
  have Kg := hid (Blk.new (w := (w.alloc (.cells (pubC L V root pub).toArray 68 (0, 0)))) (n := w.heap.size + 1) (by simp only [World.size_alloc]) (sigC i r (.slice a pn c)).toArray 75)
  have Hb := hid b2
  have hbz := b2.size
  have Hbs := hid (show w.heap.size + 1 + 1 = ((w.alloc (.cells (pubC L V root pub).toArray 68 (0, 0))).alloc (.cells (sigC i r (.slice a pn c)).toArray 75 (0, 0))).heap.size by simp only [World.size_alloc])
  clear b1 b2 
  go_enter Tryd.func13, Tryd.ntmps13
  go_wp2_with (refine wpList_load_blk rfl 75 _ rfl (w.heap.size + 1) rfl _ 75 Kg.out _ Tryd.underlying75 rfl 34 size_sig (sigC_size hr) ?_)
  refine (CF.out _ (hP.below Hb.out)).mono ?_
  rintro e w1 ⟨rfl, bw1⟩
  have HBw1 := hid (Below.on Hb.out bw1)
  have hsw1 := HBw1.out.size
  have Kpw1 := hid (Kp.out.below bw1)
  have Kgw1 := hid (Kg.out.below bw1)
  clear bw1
  go_wp2_with fail
  refine (CT.out _ (hT.below HBw1.out)).mono ?_
  rintro e w50 ⟨rfl, rfl⟩
  go_wp2_with fail
  refine (knows11 _).mono ?_
  rintro e w2 ⟨rfl, bw2⟩
  have HBw2 := hid (Below.on HBw1.out bw2)
  have hsw2 := HBw2.out.size
  have Kpw2 := hid (Kpw1.out.below bw2)
  have Kgw2 := hid (Kgw1.out.below bw2)
  clear bw2
  go_wp2_with fail
  go_returns
  exact ⟨rfl, HBw2.out⟩
set_option maxHeartbeats 4000000 in
theorem hyperVerifies_good (L V i : Int) (root pub r : List Int) (a : Option Addr) (pn c : Nat) (ps : List Prt) (ta : Option Addr) (tn tc : Nat) (ts : List (List Int)) (w : World) (hr : Dg r) (hroot : Dg root) (hpub : Dg pub) (hP : PartsAt w a pn c ps) (hT : TextsAt w ta tn tc ts) (hreach : ∀ t ∈ ts, t.length ≤ 140737488351232) (hf : fewP ps = true) (ht : fewB ts 1000 = true) (tab : ShaTab w) :
    Calls Tryd.prog 13 #[.agg (pubC L V root pub).toArray, .agg (sigC i r (.slice a pn c)).toArray, .slice ta tn tc] w fun e w' => e = .returned (.bool true) ∧ Below w.heap.size w w' := by
  obtain ⟨hs1, hs2⟩ := fewB_spec ht
  have hlt := hT.length
  have hfl := flatten_length ts
  have CF := hid (fun (W : World) (h : PartsAt W a pn c ps) => by have := reffew_any i r a pn c ps W hr h; rw [hf] at this; exact this)
  have CT := hid (fun (W : World) (h : TextsAt W ta tn tc ts) => by have := few_any ta tn tc ts 1000 W h hreach; rw [ht] at this; exact this)
  have CV := hid (fun (W : World) (h1 : PartsAt W a pn c ps) (h2 : TextsAt W ta tn tc ts) (t : ShaTab W) => verify_b L V i root pub r a pn c ps ta tn tc ts W hr hroot hpub h1 h2 (by omega) (by omega) t)
  have CR := hid (fun (fa : Option Addr) (fn fc : Nat) (W : World) (h1 : PartsAt W a pn c ps) (h2 : TextAt W fa fn fc ts.flatten) => refverify_b L V i root pub r a pn c ps fa fn fc ts.flatten W hr hroot hpub h1 h2 (by have := h2.length; omega))
  generalize (verB L V i root pub r ps ts.flatten) = B at *
  have b1 := (Below.refl w.heap.size w).alloc (Nat.le_refl _) (.cells (pubC L V root pub).toArray 68 (0, 0))
  have b2 := b1.alloc b1.size (.cells (sigC i r (.slice a pn c)).toArray 75 (0, 0))
  have Kp := hid ((Blk.new (w := w) (n := w.heap.size) rfl (pubC L V root pub).toArray 68).old (.cells (sigC i r (.slice a pn c)).toArray 75 (0, 0)))
  have Kg := hid (Blk.new (w := (w.alloc (.cells (pubC L V root pub).toArray 68 (0, 0)))) (n := w.heap.size + 1) (by simp only [World.size_alloc]) (sigC i r (.slice a pn c)).toArray 75)
  have Hb := hid b2
  have hbz := b2.size
  have Hbs := hid (show w.heap.size + 1 + 1 = ((w.alloc (.cells (pubC L V root pub).toArray 68 (0, 0))).alloc (.cells (sigC i r (.slice a pn c)).toArray 75 (0, 0))).heap.size by simp only [World.size_alloc])
  have Htab := hid tab
  clear b1 b2 tab 
  go_enter Tryd.func13, Tryd.ntmps13
  go_wp2_with (refine wpList_load_blk rfl 75 _ rfl (w.heap.size + 1) rfl _ 75 Kg.out _ Tryd.underlying75 rfl 34 size_sig (sigC_size hr) ?_)
  refine (CF.out _ (hP.below Hb.out)).mono ?_
  rintro e w1 ⟨rfl, bw1⟩
  have HBw1 := hid (Below.on Hb.out bw1)
  have hsw1 := HBw1.out.size
  have Kpw1 := hid (Kp.out.below bw1)
  have Kgw1 := hid (Kg.out.below bw1)
  clear bw1
  go_wp2_with fail
  refine (CT.out _ (hT.below HBw1.out)).mono ?_
  rintro e w50 ⟨rfl, rfl⟩
  go_wp2_with fail
  refine wp_region_flow 13 [0, 1, 2, 3, 4, 5, 6] [] [(.c 7, [8, 9, 10, 11, 12], [])] (by kernel_rfl) (by kernel_rfl) ?_
  apply Exists.intro
  refine ⟨fun w0 hb0 hF0 => ?_, ?_⟩
  · skip
    have x0 : ∀ w', (∃ x : Ext w0, w' = x.at_) → ∃ T, Blk w' (w.heap.size) (pubC L V root pub).toArray T := fun w' ⟨x, hx⟩ => ⟨_, hx ▸ (Kpw1.out.below hb0).below x.same⟩
    have x1 : ∀ w', (∃ x : Ext w0, w' = x.at_) → ∃ T, Blk w' (w.heap.size + 1) (sigC i r (.slice a pn c)).toArray T := fun w' ⟨x, hx⟩ => ⟨_, hx ▸ (Kgw1.out.below hb0).below x.same⟩
    have c0 := fun e : Ext w0 => CV.out e.at_ ((hP.below HBw1.out).below hb0 |>.below e.same) ((hT.below HBw1.out).below hb0 |>.below e.same) ((Htab.out.below (Below.on HBw1.out hb0)).below e.same)
    simp only [pick, List.getElem?_toArray, List.getElem?_cons_succ, List.getElem?_cons_zero, Option.toList_some, List.cons_append, List.nil_append]
    repeat (first | (go_big_quiet_want; refine quiet_load_blk 68 _ rfl (w.heap.size) rfl _ x0 _ Tryd.underlying68 rfl 66 size_public (pubC_size hroot hpub) ?_; go_big_quiet_on; simp only [Act.put, List.setIfInBounds_toArray, List.set_cons_zero, List.set_cons_succ]) | (go_big_quiet_want; refine quiet_load_blk 75 _ rfl (w.heap.size + 1) rfl _ x1 _ Tryd.underlying75 rfl 34 size_sig (sigC_size hr) ?_; go_big_quiet_on; simp only [Act.put, List.setIfInBounds_toArray, List.set_cons_zero, List.set_cons_succ]) | go_big_quiet_step (first | (go_at_call 51; with_reducible exact Calls.ext (c0 _))))
    exact wpQuiet_nil rfl
  refine AlChk.nil ?_
  refine Walk.call rfl 53 #[.slice ta tn tc] (TextV ts.flatten) (fun v w' w'' h k => h.below k) rfl (fun w1 hb1 hF1 => ⟨by go_simp, ?_⟩) ?_
  · skip
    refine (join_any ta tn tc ts w1 ((hT.below HBw1.out).below hb1) (by omega)).mono ?_
    rintro e w2 ⟨v, rfl, o2, b2⟩
    exact ⟨v, rfl, b2, TextV.of_own o2⟩
  rintro v0 w1 hb1 hF1 ⟨fa, fn, fc, rfl, hFT⟩
  apply Exists.intro
  refine ⟨fun w0 hb0 hF0 => ?_, ?_⟩
  · skip
    have c0 := fun e : Ext w0 => CR.out fa fn fc e.at_ ((((hP.below HBw1.out).below hb0).below e.same)) ((show TextV ts.flatten (.slice fa fn fc) w0 from hF0.2).text.below e.same)
    have c1 := fun e : Ext w0 => knows11 e.at_
    simp only [pick, List.getElem?_toArray, List.getElem?_cons_succ, List.getElem?_cons_zero, Option.toList_some, List.cons_append, List.nil_append, Act.put, List.setIfInBounds_toArray, List.set_cons_zero, List.set_cons_succ]
    repeat (first | go_big_quiet_step (first | (go_at_call 52; with_reducible exact Calls.ext (c0 _)) | (go_at_call 46; with_reducible exact Calls.ext (c1 _))))
    exact wpQuiet_nil rfl
  refine AlChk.nil ?_
  refine Walk.fin fun w2 hw2 hFw2 _ => ?_
  simp only [List.drop_succ_cons, List.drop_zero]
  have HFw2 := hid hFw2
  have HBw2 := hid (Below.on HBw1.out hw2)
  have hsw2 := HBw2.out.size
  have Kpw2 := hid (Kpw1.out.below hw2)
  have Kgw2 := hid (Kgw1.out.below hw2)
  clear hw2 hFw2
  go_wp2_with fail
  go_returns
  exact ⟨rfl, HBw2.out⟩
end Go.Proofs.YtjkfbeillmeomaaDoor
