/-
  Put together, as far as wanted: VLLogM VLLogN VLLogQ VLNFlowD VPtA VPtB VPtC VPtF VPrA VPrB VPrC VPrD VPrE VPrF VPrG VPrH VPrY VPrI VPrJ.
-/
import Derived.Test.YtkakoiaahgchmaaGreatDoorVA4
namespace Go.Proofs.YtkakoiaahgchmaaGreatDoor
set_option maxRecDepth 100000
open Go.ChangeShapes Go.WideShapes Go.ChangeAt Go.RowKit
structure GEnv (w : World) (ba bt bs bl bw : Nat) (A : List Int) (ya : Option Addr) (yn yc : Nat) (ds : List (List Int)) : Prop where
  kb : Blk w ba (A.map (Value.int .u8)).toArray 25
  kt : Blk w bt #[.func (.func 107) #[] #[.pointer (some ⟨bl, 0, none⟩), .pointer (some ⟨bw, 0, none⟩)]] 116
  ka : Blk w bs #[.func (.func 77) #[] #[.pointer (some ⟨ba, 0, none⟩), .pointer (some ⟨bt, 0, none⟩), .pointer (some ⟨bs, 0, none⟩)]] 119
  kw : Blk w bw #[.slice ya yn yc] 33
  way : DigsAt w ya yn yc ds
  tab : ShaTab w
  nb : ba ≠ bl
  nt : bt ≠ bl
  na : bs ≠ bl
  nw : bw ≠ bl
theorem GEnv.but {w w' : World} {ba bt bs bl bw : Nat} {A : List Int} {ya : Option Addr} {yn yc : Nat} {ds : List (List Int)} {left : Int} (h : GEnv w ba bt bs bl bw A ya yn yc ds) (kl : Blk w bl #[.int .i64 left] 3) (hb : But bl w w') : GEnv w' ba bt bs bl bw A ya yn yc ds := by
  obtain ⟨kb, kt, ka, kw, hw, tab, nb, nt, na, nw⟩ := h
  refine ⟨hb.blk kb nb, hb.blk kt nt, hb.blk ka na, hb.blk kw nw, ?_, ?_, nb, nt, na, nw⟩
  · obtain ⟨h1, h2, h3, h4, h5 | ⟨x, o, s, rfl, hc⟩⟩ := hw
    · exact ⟨h1, h2, h3, h4, .inl h5⟩
    · refine ⟨h1, h2, h3, h4, .inr ⟨x, o, s, rfl, fun j hj => ?_⟩⟩
      obtain ⟨q0, q1, q2⟩ := hc j hj
      have hd := Dg.getD h4 (j := j) (by omega)
      have hne : x ≠ bl := blk_not kl (q2 0 (.int .u8 ((ds.getD j []).getD 0 0)) hd.head) (fun n e => by cases e)
      exact ⟨q0, Nat.lt_of_lt_of_le q1 hb.size, fun k v hv => (hb.cell q1 hne).trans (q2 k v hv)⟩
  · exact tab.but hb (fun e => blk_not kl (tab.keys 0 (by omega)) (fun n e => by cases e) e.symm) (fun e => blk_not kl tab.start.1 (fun n e => by cases e) e.symm)
theorem But.freshIn {b : Nat} {S : List Nat} {w w' w'' : World} (h : But b w w') (h2 : FlowB.ButIn S w' w'') (hS : ∀ x ∈ S, w.heap.size ≤ x) : But b w w'' :=
  ⟨h2.os.trans h.os, h2.tape.trans h.tape, h2.output.trans h.output, Nat.le_trans h.size h2.size, fun k hk hne => (h2.block k (Nat.lt_of_lt_of_le hk h.size) (fun e => by have := hS k e; omega)).trans (h.block k hk hne)⟩
set_option maxHeartbeats 4000000 in
theorem gtake_any {w : World} {ba bt bs bl bw : Nat} {A : List Int} {ya : Option Addr} {yn yc : Nat} {ds : List (List Int)} {left : Int} (h : GEnv w ba bt bs bl bw A ya yn yc ds) (kl : Blk w bl #[.int .i64 left] 3) (hlo : -1000 ≤ left) (hhi : left ≤ yn) (hyn : yn ≤ 1000000) :
    Calls Tryz.prog 107 #[.pointer (some ⟨bl, 0, none⟩), .pointer (some ⟨bw, 0, none⟩)] w fun e w' => e = .returned (.agg ((takeZ ds left).map (Value.int .u8)).toArray) ∧ But bl w w' ∧ Blk w' bl #[.int .i64 (left - 1)] 3 := by
  unfold takeZ
  by_cases h0 : left - 1 < 0
  · rw [if_pos h0]
    exact take_none bl bw left ya yn yc w h.nw.symm kl h.kw hlo h0
  · rw [if_neg h0]
    obtain ⟨q, hq⟩ := Int.eq_ofNat_of_zero_le (show 0 ≤ left - 1 by omega)
    obtain rfl : left = (q : Int) + 1 := by omega
    obtain ⟨x, o, hxa, hx, hc⟩ := h.way.at_ (by omega)
    have hd := h.way.get (j := q) (by omega)
    have hkw := h.kw
    subst hxa
    have hne : x ≠ bl := blk_not kl (hc q (by omega) 0 (.int .u8 ((ds.getD q []).getD 0 0)) hd.head) (fun n e => by cases e)
    have := take_some bl bw x o q yn yc (ds.getD q []) w h.nw.symm kl hkw (by omega) (by omega) hx hne (hc q (by omega)) hd
    rw [show (q : Int) + 1 - 1 = (q : Int) by omega, Int.toNat_natCast]
    exact this
/-- What climbing from a beginning comes to, and how many digests are left then. -/
def groZ : Nat → List Int → Nat → Nat → Bool → List (List Int) → Int → (List Int × List Int) × Int
  | 0, A, _, _, _, _, left => ((A, A), left)
  | f + 1, A, m, n, cut, ds, left => if m = n then (if cut then ((takeZ ds left, takeZ ds left), left - 1) else ((A, A), left))
    else if m ≤ halfN n then
      (((groZ f A m (halfN n) cut ds (left - 1)).1.1, nodeL (groZ f A m (halfN n) cut ds (left - 1)).1.2 (takeZ ds left)), (groZ f A m (halfN n) cut ds (left - 1)).2)
    else ((nodeL (takeZ ds left) (groZ f A (m - halfN n) (n - halfN n) true ds (left - 1)).1.1, nodeL (takeZ ds left) (groZ f A (m - halfN n) (n - halfN n) true ds (left - 1)).1.2), (groZ f A (m - halfN n) (n - halfN n) true ds (left - 1)).2)
set_option maxHeartbeats 4000000 in
theorem gro_same (m : Int) (left : Int) (ba bt bs bl bw : Nat) (A : List Int) (ya : Option Addr) (yn yc : Nat) (ds : List (List Int)) (w : World) (he : GEnv w ba bt bs bl bw A ya yn yc ds) (kl : Blk w bl #[.int .i64 left] 3) (hA : Dg A) :
    Calls Tryz.prog 77 #[.int .i64 m, .int .i64 m, .bool false, .pointer (some ⟨ba, 0, none⟩), .pointer (some ⟨bt, 0, none⟩), .pointer (some ⟨bs, 0, none⟩)] w fun e w' => e = .returned (.tuple #[.agg (A.map (Value.int .u8)).toArray, .agg (A.map (Value.int .u8)).toArray]) ∧ But bl w w' ∧ Blk w' bl #[.int .i64 left] 3 := by
  have b1 := (Below.refl w.heap.size w).alloc (Nat.le_refl _) (.cells #[.int .u8 0, .int .u8 0, .int .u8 0, .int .u8 0, .int .u8 0, .int .u8 0, .int .u8 0, .int .u8 0, .int .u8 0, .int .u8 0, .int .u8 0, .int .u8 0, .int .u8 0, .int .u8 0, .int .u8 0, .int .u8 0, .int .u8 0, .int .u8 0, .int .u8 0, .int .u8 0, .int .u8 0, .int .u8 0, .int .u8 0, .int .u8 0, .int .u8 0, .int .u8 0, .int .u8 0, .int .u8 0, .int .u8 0, .int .u8 0, .int .u8 0, .int .u8 0] 25 (0, 0))
  have b2 := b1.alloc b1.size (.cells #[.int .u8 0, .int .u8 0, .int .u8 0, .int .u8 0, .int .u8 0, .int .u8 0, .int .u8 0, .int .u8 0, .int .u8 0, .int .u8 0, .int .u8 0, .int .u8 0, .int .u8 0, .int .u8 0, .int .u8 0, .int .u8 0, .int .u8 0, .int .u8 0, .int .u8 0, .int .u8 0, .int .u8 0, .int .u8 0, .int .u8 0, .int .u8 0, .int .u8 0, .int .u8 0, .int .u8 0, .int .u8 0, .int .u8 0, .int .u8 0, .int .u8 0, .int .u8 0] 25 (0, 0))
  have Kr1 := hid ((Blk.new (w := w) (n := w.heap.size) rfl #[.int .u8 0, .int .u8 0, .int .u8 0, .int .u8 0, .int .u8 0, .int .u8 0, .int .u8 0, .int .u8 0, .int .u8 0, .int .u8 0, .int .u8 0, .int .u8 0, .int .u8 0, .int .u8 0, .int .u8 0, .int .u8 0, .int .u8 0, .int .u8 0, .int .u8 0, .int .u8 0, .int .u8 0, .int .u8 0, .int .u8 0, .int .u8 0, .int .u8 0, .int .u8 0, .int .u8 0, .int .u8 0, .int .u8 0, .int .u8 0, .int .u8 0, .int .u8 0] 25).old (.cells #[.int .u8 0, .int .u8 0, .int .u8 0, .int .u8 0, .int .u8 0, .int .u8 0, .int .u8 0, .int .u8 0, .int .u8 0, .int .u8 0, .int .u8 0, .int .u8 0, .int .u8 0, .int .u8 0, .int .u8 0, .int .u8 0, .int .u8 0, .int .u8 0, .int .u8 0, .int .u8 0, .int .u8 0, .int .u8 0, .int .u8 0, .int .u8 0, .int .u8 0, .int .u8 0, .int .u8 0, .int .u8 0, .int .u8 0, .int .u8 0, .int .u8 0, .int .u8 0] 25 (0, 0)))
  have Kr2 := hid (Blk.new (w := (w.alloc (.cells #[.int .u8 0, .int .u8 0, .int .u8 0, .int .u8 0, .int .u8 0, .int .u8 0, .int .u8 0, .int .u8 0, .int .u8 0, .int .u8 0, .int .u8 0, .int .u8 0, .int .u8 0, .int .u8 0, .int .u8 0, .int .u8 0, .int .u8 0, .int .u8 0, .int .u8 0, .int .u8 0, .int .u8 0, .int .u8 0, .int .u8 0, .int .u8 0, .int .u8 0, .int .u8 0, .int .u8 0, .int .u8 0, .int .u8 0, .int .u8 0, .int .u8 0, .int .u8 0] 25 (0, 0)))) (n := w.heap.size + 1) (by simp only [World.size_alloc]) #[.int .u8 0, .int .u8 0, .int .u8 0, .int .u8 0, .int .u8 0, .int .u8 0, .int .u8 0, .int .u8 0, .int .u8 0, .int .u8 0, .int .u8 0, .int .u8 0, .int .u8 0, .int .u8 0, .int .u8 0, .int .u8 0, .int .u8 0, .int .u8 0, .int .u8 0, .int .u8 0, .int .u8 0, .int .u8 0, .int .u8 0, .int .u8 0, .int .u8 0, .int .u8 0, .int .u8 0, .int .u8 0, .int .u8 0, .int .u8 0, .int .u8 0, .int .u8 0] 25)
  have Hb := hid b2
  have hbz := b2.size
  have Hbs := hid (show w.heap.size + 1 + 1 = ((w.alloc (.cells #[.int .u8 0, .int .u8 0, .int .u8 0, .int .u8 0, .int .u8 0, .int .u8 0, .int .u8 0, .int .u8 0, .int .u8 0, .int .u8 0, .int .u8 0, .int .u8 0, .int .u8 0, .int .u8 0, .int .u8 0, .int .u8 0, .int .u8 0, .int .u8 0, .int .u8 0, .int .u8 0, .int .u8 0, .int .u8 0, .int .u8 0, .int .u8 0, .int .u8 0, .int .u8 0, .int .u8 0, .int .u8 0, .int .u8 0, .int .u8 0, .int .u8 0, .int .u8 0] 25 (0, 0))).alloc (.cells #[.int .u8 0, .int .u8 0, .int .u8 0, .int .u8 0, .int .u8 0, .int .u8 0, .int .u8 0, .int .u8 0, .int .u8 0, .int .u8 0, .int .u8 0, .int .u8 0, .int .u8 0, .int .u8 0, .int .u8 0, .int .u8 0, .int .u8 0, .int .u8 0, .int .u8 0, .int .u8 0, .int .u8 0, .int .u8 0, .int .u8 0, .int .u8 0, .int .u8 0, .int .u8 0, .int .u8 0, .int .u8 0, .int .u8 0, .int .u8 0, .int .u8 0, .int .u8 0] 25 (0, 0))).heap.size by simp only [World.size_alloc])
  clear b1 b2 
  have HE := hid (he.but kl (But.of Hb.out))
  have Kl := hid (kl.below Hb.out)
  have hbl := kl.lt
  have hbA := he.kb.lt
  clear he kl
  go_enter Tryz.func77, Tryz.ntmps77
  go_wp2_with (first
     | (refine wpList_load_blk rfl 25 _ rfl ba rfl _ 25 HE.out.kb _ Tryz.underlying25 rfl 32 size_digest hA.size ?_)
     | (
        refine wpList_store_blk rfl 25 _ _ rfl (w.heap.size + 1 + 1) (A.map (Value.int .u8)).toArray rfl rfl _ 25 (Blk.new (by simp only [World.size_alloc]) (byteCells 32 []) _) 32 size_digest zsize hA.size (ints_one _ _) ?_
        intro w1 hb1 hk1
        have h1 := hb1.below ((Below.refl (w.heap.size + 1 + 1) (((w.alloc (.cells #[.int .u8 0, .int .u8 0, .int .u8 0, .int .u8 0, .int .u8 0, .int .u8 0, .int .u8 0, .int .u8 0, .int .u8 0, .int .u8 0, .int .u8 0, .int .u8 0, .int .u8 0, .int .u8 0, .int .u8 0, .int .u8 0, .int .u8 0, .int .u8 0, .int .u8 0, .int .u8 0, .int .u8 0, .int .u8 0, .int .u8 0, .int .u8 0, .int .u8 0, .int .u8 0, .int .u8 0, .int .u8 0, .int .u8 0, .int .u8 0, .int .u8 0, .int .u8 0] 25 (0, 0))).alloc (.cells #[.int .u8 0, .int .u8 0, .int .u8 0, .int .u8 0, .int .u8 0, .int .u8 0, .int .u8 0, .int .u8 0, .int .u8 0, .int .u8 0, .int .u8 0, .int .u8 0, .int .u8 0, .int .u8 0, .int .u8 0, .int .u8 0, .int .u8 0, .int .u8 0, .int .u8 0, .int .u8 0, .int .u8 0, .int .u8 0, .int .u8 0, .int .u8 0, .int .u8 0, .int .u8 0, .int .u8 0, .int .u8 0, .int .u8 0, .int .u8 0, .int .u8 0, .int .u8 0] 25 (0, 0))))).alloc (by simp only [World.size_alloc]; omega) _) (by simp only [World.size_alloc]; omega) (Nat.le_refl _)
        rw [Hbs.out] at h1
        have HBw1 := hid (Below.on Hb.out h1)
        have Kr1w1 := hid (Kr1.out.below h1)
        have Kr2w1 := hid (Kr2.out.below h1)
        have Klw1 := hid (Kl.out.below h1)
        have Kxw1 := hid hk1
        have hsw1 := HBw1.out.size
        clear hb1 hk1 h1))
  refine FlowB.wp_region_butIn [w.heap.size, w.heap.size + 1] (fun wz => Blk wz (w.heap.size) #[.int .u8 0, .int .u8 0, .int .u8 0, .int .u8 0, .int .u8 0, .int .u8 0, .int .u8 0, .int .u8 0, .int .u8 0, .int .u8 0, .int .u8 0, .int .u8 0, .int .u8 0, .int .u8 0, .int .u8 0, .int .u8 0, .int .u8 0, .int .u8 0, .int .u8 0, .int .u8 0, .int .u8 0, .int .u8 0, .int .u8 0, .int .u8 0, .int .u8 0, .int .u8 0, .int .u8 0, .int .u8 0, .int .u8 0, .int .u8 0, .int .u8 0, .int .u8 0] 25 ∧ Blk wz (w.heap.size + 1) #[.int .u8 0, .int .u8 0, .int .u8 0, .int .u8 0, .int .u8 0, .int .u8 0, .int .u8 0, .int .u8 0, .int .u8 0, .int .u8 0, .int .u8 0, .int .u8 0, .int .u8 0, .int .u8 0, .int .u8 0, .int .u8 0, .int .u8 0, .int .u8 0, .int .u8 0, .int .u8 0, .int .u8 0, .int .u8 0, .int .u8 0, .int .u8 0, .int .u8 0, .int .u8 0, .int .u8 0, .int .u8 0, .int .u8 0, .int .u8 0, .int .u8 0, .int .u8 0] 25) 4 [0, 1] [] [(.c 2, [], []), (.c 3, [], [])] (by kernel_rfl) (by kernel_rfl) ⟨Kr1w1.out, Kr2w1.out⟩ (fun _ _ h hb => ⟨h.1.below hb, h.2.below hb⟩) ?_
  apply Exists.intro
  refine ⟨fun w0 hb0 hF0 => ?_, ?_⟩
  · skip
    have x0 : ∀ w', (∃ x : Ext w0, w' = x.at_) → ∃ T, Blk w' (w.heap.size + 1 + 1) (A.map (Value.int .u8)).toArray T := fun w' ⟨x, hx⟩ => ⟨_, hx ▸ (hb0.blk Kxw1.out (by simp only [List.mem_cons, List.not_mem_nil, or_false]; omega)).below x.same⟩
    simp only [pick, List.getElem?_toArray, List.getElem?_cons_succ, List.getElem?_cons_zero, Option.toList_some, List.cons_append, List.nil_append]
    repeat (first | (go_big_quiet_want; refine quiet_load_blk 25 _ rfl (w.heap.size + 1 + 1) rfl _ x0 _ Tryz.underlying25 rfl 32 size_digest hA.size ?_; go_big_quiet_on; simp only [Act.put, List.setIfInBounds_toArray, List.set_cons_zero, List.set_cons_succ]) | go_big_quiet_step (fail))
    exact wpQuiet_nil rfl
  refine FlowB.AlChk.nil ?_
  refine FlowB.Walk.skips rfl (fun wz => Blk wz (w.heap.size) (A.map (Value.int .u8)).toArray 25 ∧ Blk wz (w.heap.size + 1) #[.int .u8 0, .int .u8 0, .int .u8 0, .int .u8 0, .int .u8 0, .int .u8 0, .int .u8 0, .int .u8 0, .int .u8 0, .int .u8 0, .int .u8 0, .int .u8 0, .int .u8 0, .int .u8 0, .int .u8 0, .int .u8 0, .int .u8 0, .int .u8 0, .int .u8 0, .int .u8 0, .int .u8 0, .int .u8 0, .int .u8 0, .int .u8 0, .int .u8 0, .int .u8 0, .int .u8 0, .int .u8 0, .int .u8 0, .int .u8 0, .int .u8 0, .int .u8 0] 25) (fun _ _ h hb => ⟨h.1.below hb, h.2.below hb⟩) rfl (fun w1 hb1 hF1 hG1 => ?_) ?_
  · exact FlowB.store_skips 25 _ _ rfl (w.heap.size) (A.map (Value.int .u8)).toArray rfl rfl _ 25 hG1.1 32 size_digest rfl hA.size (ints_one _ _) (by simp) (fun w2 h2 h3 => ⟨h3, h2.blk hG1.2 (by omega)⟩)
  intro w1 hb1 hF1
  apply Exists.intro
  refine ⟨fun w2 hb2 hF2 => wpQuiet_nil rfl, ?_⟩
  refine FlowB.AlChk.nil ?_
  refine FlowB.Walk.skips rfl (fun wz => Blk wz (w.heap.size) (A.map (Value.int .u8)).toArray 25 ∧ Blk wz (w.heap.size + 1) (A.map (Value.int .u8)).toArray 25) (fun _ _ h hb => ⟨h.1.below hb, h.2.below hb⟩) rfl (fun w1 hb1 hF1 hG1 => ?_) ?_
  · exact FlowB.store_skips 25 _ _ rfl (w.heap.size + 1) (A.map (Value.int .u8)).toArray rfl rfl _ 25 hG1.2 32 size_digest rfl hA.size (ints_one _ _) (by simp) (fun w2 h2 h3 => ⟨h2.blk hG1.1 (by omega), h3⟩)
  intro w1 hb1 hF1
  apply Exists.intro
  refine ⟨fun w2 hb2 hF2 => wpQuiet_nil rfl, ?_⟩
  refine FlowB.AlChk.nil ?_
  refine FlowB.Walk.fin fun w2 hw2 _ hGw2 => ?_
  simp only [List.drop_succ_cons, List.drop_zero]
  have HIw2 := hid hw2
  have HBw2 := hid (hw2.below HBw1.out HBw1.out.size (by simp only [List.mem_cons, List.not_mem_nil, or_false, forall_eq_or_imp, forall_eq]; omega))
  have HGw2 := hid hGw2
  clear hw2 hGw2
  go_wp2_with fail
  exact bodyPost_ret (v := .tuple #[.agg (A.map (Value.int .u8)).toArray, .agg (A.map (Value.int .u8)).toArray]) (results_blk2 Tryz.results77 _ (w.heap.size) (w.heap.size + 1) rfl rfl _ _ 25 HGw2.out.1 HGw2.out.2 _ Tryz.underlying25 rfl 32 size_digest hA.size hA.size) rfl ⟨rfl, (But.of HBw2.out), (HIw2.out.blk Klw1.out (by simp only [List.mem_cons, List.not_mem_nil, or_false]; omega))⟩
set_option maxHeartbeats 4000000 in
theorem gro_cut (m : Int) (left : Int) (ba bt bs bl bw : Nat) (A : List Int) (ya : Option Addr) (yn yc : Nat) (ds : List (List Int)) (w : World) (he : GEnv w ba bt bs bl bw A ya yn yc ds) (kl : Blk w bl #[.int .i64 left] 3) (hA : Dg A) (hlo : -1000 ≤ left) (hhi : left ≤ yn) (hyn : yn ≤ 1000000) :
    Calls Tryz.prog 77 #[.int .i64 m, .int .i64 m, .bool true, .pointer (some ⟨ba, 0, none⟩), .pointer (some ⟨bt, 0, none⟩), .pointer (some ⟨bs, 0, none⟩)] w fun e w' => e = .returned (.tuple #[.agg ((takeZ ds left).map (Value.int .u8)).toArray, .agg ((takeZ ds left).map (Value.int .u8)).toArray]) ∧ But bl w w' ∧ Blk w' bl #[.int .i64 (left - 1)] 3 := by
  have CT := hid (fun (W : World) (h : GEnv W ba bt bs bl bw A ya yn yc ds) (k1 : Blk W bl #[.int .i64 left] 3) => gtake_any h k1 hlo hhi hyn)
  have hwl := he.way.length
  have HO := hid (Dg.take he.way.each (left := left) (by omega))
  generalize takeZ ds left = O at *
  have b1 := (Below.refl w.heap.size w).alloc (Nat.le_refl _) (.cells #[.int .u8 0, .int .u8 0, .int .u8 0, .int .u8 0, .int .u8 0, .int .u8 0, .int .u8 0, .int .u8 0, .int .u8 0, .int .u8 0, .int .u8 0, .int .u8 0, .int .u8 0, .int .u8 0, .int .u8 0, .int .u8 0, .int .u8 0, .int .u8 0, .int .u8 0, .int .u8 0, .int .u8 0, .int .u8 0, .int .u8 0, .int .u8 0, .int .u8 0, .int .u8 0, .int .u8 0, .int .u8 0, .int .u8 0, .int .u8 0, .int .u8 0, .int .u8 0] 25 (0, 0))
  have b2 := b1.alloc b1.size (.cells #[.int .u8 0, .int .u8 0, .int .u8 0, .int .u8 0, .int .u8 0, .int .u8 0, .int .u8 0, .int .u8 0, .int .u8 0, .int .u8 0, .int .u8 0, .int .u8 0, .int .u8 0, .int .u8 0, .int .u8 0, .int .u8 0, .int .u8 0, .int .u8 0, .int .u8 0, .int .u8 0, .int .u8 0, .int .u8 0, .int .u8 0, .int .u8 0, .int .u8 0, .int .u8 0, .int .u8 0, .int .u8 0, .int .u8 0, .int .u8 0, .int .u8 0, .int .u8 0] 25 (0, 0))
  have Kr1 := hid ((Blk.new (w := w) (n := w.heap.size) rfl #[.int .u8 0, .int .u8 0, .int .u8 0, .int .u8 0, .int .u8 0, .int .u8 0, .int .u8 0, .int .u8 0, .int .u8 0, .int .u8 0, .int .u8 0, .int .u8 0, .int .u8 0, .int .u8 0, .int .u8 0, .int .u8 0, .int .u8 0, .int .u8 0, .int .u8 0, .int .u8 0, .int .u8 0, .int .u8 0, .int .u8 0, .int .u8 0, .int .u8 0, .int .u8 0, .int .u8 0, .int .u8 0, .int .u8 0, .int .u8 0, .int .u8 0, .int .u8 0] 25).old (.cells #[.int .u8 0, .int .u8 0, .int .u8 0, .int .u8 0, .int .u8 0, .int .u8 0, .int .u8 0, .int .u8 0, .int .u8 0, .int .u8 0, .int .u8 0, .int .u8 0, .int .u8 0, .int .u8 0, .int .u8 0, .int .u8 0, .int .u8 0, .int .u8 0, .int .u8 0, .int .u8 0, .int .u8 0, .int .u8 0, .int .u8 0, .int .u8 0, .int .u8 0, .int .u8 0, .int .u8 0, .int .u8 0, .int .u8 0, .int .u8 0, .int .u8 0, .int .u8 0] 25 (0, 0)))
  have Kr2 := hid (Blk.new (w := (w.alloc (.cells #[.int .u8 0, .int .u8 0, .int .u8 0, .int .u8 0, .int .u8 0, .int .u8 0, .int .u8 0, .int .u8 0, .int .u8 0, .int .u8 0, .int .u8 0, .int .u8 0, .int .u8 0, .int .u8 0, .int .u8 0, .int .u8 0, .int .u8 0, .int .u8 0, .int .u8 0, .int .u8 0, .int .u8 0, .int .u8 0, .int .u8 0, .int .u8 0, .int .u8 0, .int .u8 0, .int .u8 0, .int .u8 0, .int .u8 0, .int .u8 0, .int .u8 0, .int .u8 0] 25 (0, 0)))) (n := w.heap.size + 1) (by simp only [World.size_alloc]) #[.int .u8 0, .int .u8 0, .int .u8 0, .int .u8 0, .int .u8 0, .int .u8 0, .int .u8 0, .int .u8 0, .int .u8 0, .int .u8 0, .int .u8 0, .int .u8 0, .int .u8 0, .int .u8 0, .int .u8 0, .int .u8 0, .int .u8 0, .int .u8 0, .int .u8 0, .int .u8 0, .int .u8 0, .int .u8 0, .int .u8 0, .int .u8 0, .int .u8 0, .int .u8 0, .int .u8 0, .int .u8 0, .int .u8 0, .int .u8 0, .int .u8 0, .int .u8 0] 25)
  have Hb := hid b2
  have hbz := b2.size
  have Hbs := hid (show w.heap.size + 1 + 1 = ((w.alloc (.cells #[.int .u8 0, .int .u8 0, .int .u8 0, .int .u8 0, .int .u8 0, .int .u8 0, .int .u8 0, .int .u8 0, .int .u8 0, .int .u8 0, .int .u8 0, .int .u8 0, .int .u8 0, .int .u8 0, .int .u8 0, .int .u8 0, .int .u8 0, .int .u8 0, .int .u8 0, .int .u8 0, .int .u8 0, .int .u8 0, .int .u8 0, .int .u8 0, .int .u8 0, .int .u8 0, .int .u8 0, .int .u8 0, .int .u8 0, .int .u8 0, .int .u8 0, .int .u8 0] 25 (0, 0))).alloc (.cells #[.int .u8 0, .int .u8 0, .int .u8 0, .int .u8 0, .int .u8 0, .int .u8 0, .int .u8 0, .int .u8 0, .int .u8 0, .int .u8 0, .int .u8 0, .int .u8 0, .int .u8 0, .int .u8 0, .int .u8 0, .int .u8 0, .int .u8 0, .int .u8 0, .int .u8 0, .int .u8 0, .int .u8 0, .int .u8 0, .int .u8 0, .int .u8 0, .int .u8 0, .int .u8 0, .int .u8 0, .int .u8 0, .int .u8 0, .int .u8 0, .int .u8 0, .int .u8 0] 25 (0, 0))).heap.size by simp only [World.size_alloc])
  clear b1 b2 
  have HE := hid (he.but kl (But.of Hb.out))
  have Kl := hid (kl.below Hb.out)
  have hbl := kl.lt
  have hbA := he.kb.lt
  clear he kl
  go_enter Tryz.func77, Tryz.ntmps77
  go_wp2_with (first
     | (refine wpList_load_blk rfl 25 _ rfl ba rfl _ 25 HE.out.kb _ Tryz.underlying25 rfl 32 size_digest hA.size ?_)
     | (
        refine wpList_store_blk rfl 25 _ _ rfl (w.heap.size + 1 + 1) (A.map (Value.int .u8)).toArray rfl rfl _ 25 (Blk.new (by simp only [World.size_alloc]) (byteCells 32 []) _) 32 size_digest zsize hA.size (ints_one _ _) ?_
        intro w1 hb1 hk1
        have h1 := hb1.below ((Below.refl (w.heap.size + 1 + 1) (((w.alloc (.cells #[.int .u8 0, .int .u8 0, .int .u8 0, .int .u8 0, .int .u8 0, .int .u8 0, .int .u8 0, .int .u8 0, .int .u8 0, .int .u8 0, .int .u8 0, .int .u8 0, .int .u8 0, .int .u8 0, .int .u8 0, .int .u8 0, .int .u8 0, .int .u8 0, .int .u8 0, .int .u8 0, .int .u8 0, .int .u8 0, .int .u8 0, .int .u8 0, .int .u8 0, .int .u8 0, .int .u8 0, .int .u8 0, .int .u8 0, .int .u8 0, .int .u8 0, .int .u8 0] 25 (0, 0))).alloc (.cells #[.int .u8 0, .int .u8 0, .int .u8 0, .int .u8 0, .int .u8 0, .int .u8 0, .int .u8 0, .int .u8 0, .int .u8 0, .int .u8 0, .int .u8 0, .int .u8 0, .int .u8 0, .int .u8 0, .int .u8 0, .int .u8 0, .int .u8 0, .int .u8 0, .int .u8 0, .int .u8 0, .int .u8 0, .int .u8 0, .int .u8 0, .int .u8 0, .int .u8 0, .int .u8 0, .int .u8 0, .int .u8 0, .int .u8 0, .int .u8 0, .int .u8 0, .int .u8 0] 25 (0, 0))))).alloc (by simp only [World.size_alloc]; omega) _) (by simp only [World.size_alloc]; omega) (Nat.le_refl _)
        rw [Hbs.out] at h1
        have HBw1 := hid (Below.on Hb.out h1)
        have Kr1w1 := hid (Kr1.out.below h1)
        have Kr2w1 := hid (Kr2.out.below h1)
        have Klw1 := hid (Kl.out.below h1)
        have Kxw1 := hid hk1
        have hsw1 := HBw1.out.size
        have HE1 := hid (HE.out.but Kl.out (But.of h1))
        have HC1 := hid (But.of (b := bl) h1)
        have ct1 : w1.cell? ⟨bt, 0, none⟩ = some (.func (.func 107) #[] #[.pointer (some ⟨bl, 0, none⟩), .pointer (some ⟨bw, 0, none⟩)]) := by rw [HE1.out.kt.cell]; rfl
        clear hb1 hk1 h1))
  refine (CT.out w1 HE1.out Klw1.out).mono ?_
  rintro e w2 ⟨rfl, b2, k2⟩
  have HC2 := hid (But.trans HC1.out b2)
  have Kl2 := hid k2
  have Kr12 := hid (b2.blk Kr1w1.out (by omega))
  have Kr22 := hid (b2.blk Kr2w1.out (by omega))
  have Kx2 := hid (b2.blk Kxw1.out (by omega))
  clear b2 k2
  go_wp2_with (
        refine wpList_store_blk rfl 25 _ _ rfl (w.heap.size + 1 + 1) (O.map (Value.int .u8)).toArray rfl rfl _ 25 Kx2.out 32 size_digest hA.size HO.out.size (ints_one _ _) ?_
        intro w3 hb3 hk3
        have HC3 := hid (But.fresh (But.trans (But.of Hb.out) HC2.out) hb3 (by omega))
        have Kr1w3 := hid (hb3.blk Kr12.out (by omega))
        have Kr2w3 := hid (hb3.blk Kr22.out (by omega))
        have Klw3 := hid (hb3.blk Kl2.out (by omega))
        have Kxw3 := hid hk3
        clear hb3 hk3)
  simp only [Act.put]
  refine FlowB.wp_region_butIn [w.heap.size, w.heap.size + 1] (fun wz => Blk wz (w.heap.size) #[.int .u8 0, .int .u8 0, .int .u8 0, .int .u8 0, .int .u8 0, .int .u8 0, .int .u8 0, .int .u8 0, .int .u8 0, .int .u8 0, .int .u8 0, .int .u8 0, .int .u8 0, .int .u8 0, .int .u8 0, .int .u8 0, .int .u8 0, .int .u8 0, .int .u8 0, .int .u8 0, .int .u8 0, .int .u8 0, .int .u8 0, .int .u8 0, .int .u8 0, .int .u8 0, .int .u8 0, .int .u8 0, .int .u8 0, .int .u8 0, .int .u8 0, .int .u8 0] 25 ∧ Blk wz (w.heap.size + 1) #[.int .u8 0, .int .u8 0, .int .u8 0, .int .u8 0, .int .u8 0, .int .u8 0, .int .u8 0, .int .u8 0, .int .u8 0, .int .u8 0, .int .u8 0, .int .u8 0, .int .u8 0, .int .u8 0, .int .u8 0, .int .u8 0, .int .u8 0, .int .u8 0, .int .u8 0, .int .u8 0, .int .u8 0, .int .u8 0, .int .u8 0, .int .u8 0, .int .u8 0, .int .u8 0, .int .u8 0, .int .u8 0, .int .u8 0, .int .u8 0, .int .u8 0, .int .u8 0] 25) 4 [0, 1] [] [(.c 2, [], []), (.c 3, [], [])] (by kernel_rfl) (by kernel_rfl) ⟨Kr1w3.out, Kr2w3.out⟩ (fun _ _ h hb => ⟨h.1.below hb, h.2.below hb⟩) ?_
  apply Exists.intro
  refine ⟨fun w0 hb0 hF0 => ?_, ?_⟩
  · skip
    have x0 : ∀ w', (∃ x : Ext w0, w' = x.at_) → ∃ T, Blk w' (w.heap.size + 1 + 1) (O.map (Value.int .u8)).toArray T := fun w' ⟨x, hx⟩ => ⟨_, hx ▸ (hb0.blk Kxw3.out (by simp only [List.mem_cons, List.not_mem_nil, or_false]; omega)).below x.same⟩
    simp only [pick, List.getElem?_toArray, List.getElem?_cons_succ, List.getElem?_cons_zero, Option.toList_some, List.cons_append, List.nil_append]
    repeat (first | (go_big_quiet_want; refine quiet_load_blk 25 _ rfl (w.heap.size + 1 + 1) rfl _ x0 _ Tryz.underlying25 rfl 32 size_digest HO.out.size ?_; go_big_quiet_on; simp only [Act.put, List.setIfInBounds_toArray, List.set_cons_zero, List.set_cons_succ]) | go_big_quiet_step (fail))
    exact wpQuiet_nil rfl
  refine FlowB.AlChk.nil ?_
  refine FlowB.Walk.skips rfl (fun wz => Blk wz (w.heap.size) (O.map (Value.int .u8)).toArray 25 ∧ Blk wz (w.heap.size + 1) #[.int .u8 0, .int .u8 0, .int .u8 0, .int .u8 0, .int .u8 0, .int .u8 0, .int .u8 0, .int .u8 0, .int .u8 0, .int .u8 0, .int .u8 0, .int .u8 0, .int .u8 0, .int .u8 0, .int .u8 0, .int .u8 0, .int .u8 0, .int .u8 0, .int .u8 0, .int .u8 0, .int .u8 0, .int .u8 0, .int .u8 0, .int .u8 0, .int .u8 0, .int .u8 0, .int .u8 0, .int .u8 0, .int .u8 0, .int .u8 0, .int .u8 0, .int .u8 0] 25) (fun _ _ h hb => ⟨h.1.below hb, h.2.below hb⟩) rfl (fun w1 hb1 hF1 hG1 => ?_) ?_
  · exact FlowB.store_skips 25 _ _ rfl (w.heap.size) (O.map (Value.int .u8)).toArray rfl rfl _ 25 hG1.1 32 size_digest rfl HO.out.size (ints_one _ _) (by simp) (fun w2 h2 h3 => ⟨h3, h2.blk hG1.2 (by omega)⟩)
  intro w1 hb1 hF1
  apply Exists.intro
  refine ⟨fun w2 hb2 hF2 => wpQuiet_nil rfl, ?_⟩
  refine FlowB.AlChk.nil ?_
  refine FlowB.Walk.skips rfl (fun wz => Blk wz (w.heap.size) (O.map (Value.int .u8)).toArray 25 ∧ Blk wz (w.heap.size + 1) (O.map (Value.int .u8)).toArray 25) (fun _ _ h hb => ⟨h.1.below hb, h.2.below hb⟩) rfl (fun w1 hb1 hF1 hG1 => ?_) ?_
  · exact FlowB.store_skips 25 _ _ rfl (w.heap.size + 1) (O.map (Value.int .u8)).toArray rfl rfl _ 25 hG1.2 32 size_digest rfl HO.out.size (ints_one _ _) (by simp) (fun w2 h2 h3 => ⟨h2.blk hG1.1 (by omega), h3⟩)
  intro w1 hb1 hF1
  apply Exists.intro
  refine ⟨fun w2 hb2 hF2 => wpQuiet_nil rfl, ?_⟩
  refine FlowB.AlChk.nil ?_
  refine FlowB.Walk.fin fun w2 hw2 _ hGw2 => ?_
  simp only [List.drop_succ_cons, List.drop_zero]
  have HIw2 := hid hw2
  have HGw2 := hid hGw2
  clear hw2 hGw2
  go_wp2_with fail
  exact bodyPost_ret (v := .tuple #[.agg (O.map (Value.int .u8)).toArray, .agg (O.map (Value.int .u8)).toArray]) (results_blk2 Tryz.results77 _ (w.heap.size) (w.heap.size + 1) rfl rfl _ _ 25 HGw2.out.1 HGw2.out.2 _ Tryz.underlying25 rfl 32 size_digest HO.out.size HO.out.size) rfl ⟨rfl, (But.freshIn HC3.out HIw2.out (by simp only [List.mem_cons, List.not_mem_nil, or_false, forall_eq_or_imp, forall_eq]; omega)), (HIw2.out.blk Klw3.out (by simp only [List.mem_cons, List.not_mem_nil, or_false]; omega))⟩
set_option maxHeartbeats 4000000 in
theorem gro_l (m n k : Nat) (cut : Bool) (left : Int) (ba bt bs bl bw : Nat) (A : List Int) (ya : Option Addr) (yn yc : Nat) (ds : List (List Int)) (w : World) (he : GEnv w ba bt bs bl bw A ya yn yc ds) (kl : Blk w bl #[.int .i64 left] 3) (hmn : m < n) (hn : 2 ≤ n) (hn2 : n ≤ 200) (hkk : halfN n = k) (hik : m ≤ k) (hlo : -1000 ≤ left) (hhi : left ≤ yn) (hyn : yn ≤ 1000000)
    (R1 R2 : List Int) (L2 : Int) (hR1 : Dg R1) (hR2 : Dg R2) (ca : ∀ W : World, GEnv W ba bt bs bl bw A ya yn yc ds → Blk W bl #[.int .i64 (left - 1)] 3 → Calls Tryz.prog 77 #[.int .i64 (m : Int), .int .i64 (k : Int), .bool cut, .pointer (some ⟨ba, 0, none⟩), .pointer (some ⟨bt, 0, none⟩), .pointer (some ⟨bs, 0, none⟩)] W fun e w' => e = .returned (.tuple #[.agg (R1.map (Value.int .u8)).toArray, .agg (R2.map (Value.int .u8)).toArray]) ∧ But bl W w' ∧ Blk w' bl #[.int .i64 L2] 3) :
    Calls Tryz.prog 77 #[.int .i64 m, .int .i64 n, .bool cut, .pointer (some ⟨ba, 0, none⟩), .pointer (some ⟨bt, 0, none⟩), .pointer (some ⟨bs, 0, none⟩)] w fun e w' => e = .returned (.tuple #[.agg (R1.map (Value.int .u8)).toArray, .agg ((nodeL R2 (takeZ ds left)).map (Value.int .u8)).toArray]) ∧ But bl w w' ∧ Blk w' bl #[.int .i64 L2] 3 := by
  obtain ⟨hk1, hk2⟩ := halfN_lt hn
  rw [hkk] at hk1 hk2
  have hmI : ¬ ((m : Int) = (n : Int)) := by omega
  have CH := hid (fun W : World => (lohalf_any n W hn (by omega)).mono (fun e w' (h : e = .returned (.int .i64 (halfN n : Int)) ∧ w' = W) => show e = .returned (.int .i64 (halfN n : Int)) ∧ Below W.heap.size W w' from ⟨h.1, by rw [h.2]; exact Below.refl _ _⟩))
  rw [hkk] at CH
  have CT := hid (fun (W : World) (h : GEnv W ba bt bs bl bw A ya yn yc ds) (k1 : Blk W bl #[.int .i64 left] 3) => gtake_any h k1 hlo hhi hyn)
  have CA := hid ca
  have hwl := he.way.length
  have HO := hid (Dg.take he.way.each (left := left) (by omega))
  have HR1 := hid hR1
  have HR2 := hid hR2
  generalize takeZ ds left = O at *
  have CN := hid (fun (W : World) (t : ShaTab W) => lonode_any R2 O W HR2.out HO.out t)
  have HX9 := hid (Dg.nodeL R2 O)
  generalize nodeL R2 O = X9 at *
  have hikI : (m : Int) ≤ k := by omega
  clear ca hR1 hR2 hkk hwl
  have b1 := (Below.refl w.heap.size w).alloc (Nat.le_refl _) (.cells #[.int .u8 0, .int .u8 0, .int .u8 0, .int .u8 0, .int .u8 0, .int .u8 0, .int .u8 0, .int .u8 0, .int .u8 0, .int .u8 0, .int .u8 0, .int .u8 0, .int .u8 0, .int .u8 0, .int .u8 0, .int .u8 0, .int .u8 0, .int .u8 0, .int .u8 0, .int .u8 0, .int .u8 0, .int .u8 0, .int .u8 0, .int .u8 0, .int .u8 0, .int .u8 0, .int .u8 0, .int .u8 0, .int .u8 0, .int .u8 0, .int .u8 0, .int .u8 0] 25 (0, 0))
  have b2 := b1.alloc b1.size (.cells #[.int .u8 0, .int .u8 0, .int .u8 0, .int .u8 0, .int .u8 0, .int .u8 0, .int .u8 0, .int .u8 0, .int .u8 0, .int .u8 0, .int .u8 0, .int .u8 0, .int .u8 0, .int .u8 0, .int .u8 0, .int .u8 0, .int .u8 0, .int .u8 0, .int .u8 0, .int .u8 0, .int .u8 0, .int .u8 0, .int .u8 0, .int .u8 0, .int .u8 0, .int .u8 0, .int .u8 0, .int .u8 0, .int .u8 0, .int .u8 0, .int .u8 0, .int .u8 0] 25 (0, 0))
  have Kr1 := hid ((Blk.new (w := w) (n := w.heap.size) rfl #[.int .u8 0, .int .u8 0, .int .u8 0, .int .u8 0, .int .u8 0, .int .u8 0, .int .u8 0, .int .u8 0, .int .u8 0, .int .u8 0, .int .u8 0, .int .u8 0, .int .u8 0, .int .u8 0, .int .u8 0, .int .u8 0, .int .u8 0, .int .u8 0, .int .u8 0, .int .u8 0, .int .u8 0, .int .u8 0, .int .u8 0, .int .u8 0, .int .u8 0, .int .u8 0, .int .u8 0, .int .u8 0, .int .u8 0, .int .u8 0, .int .u8 0, .int .u8 0] 25).old (.cells #[.int .u8 0, .int .u8 0, .int .u8 0, .int .u8 0, .int .u8 0, .int .u8 0, .int .u8 0, .int .u8 0, .int .u8 0, .int .u8 0, .int .u8 0, .int .u8 0, .int .u8 0, .int .u8 0, .int .u8 0, .int .u8 0, .int .u8 0, .int .u8 0, .int .u8 0, .int .u8 0, .int .u8 0, .int .u8 0, .int .u8 0, .int .u8 0, .int .u8 0, .int .u8 0, .int .u8 0, .int .u8 0, .int .u8 0, .int .u8 0, .int .u8 0, .int .u8 0] 25 (0, 0)))
  have Kr2 := hid (Blk.new (w := (w.alloc (.cells #[.int .u8 0, .int .u8 0, .int .u8 0, .int .u8 0, .int .u8 0, .int .u8 0, .int .u8 0, .int .u8 0, .int .u8 0, .int .u8 0, .int .u8 0, .int .u8 0, .int .u8 0, .int .u8 0, .int .u8 0, .int .u8 0, .int .u8 0, .int .u8 0, .int .u8 0, .int .u8 0, .int .u8 0, .int .u8 0, .int .u8 0, .int .u8 0, .int .u8 0, .int .u8 0, .int .u8 0, .int .u8 0, .int .u8 0, .int .u8 0, .int .u8 0, .int .u8 0] 25 (0, 0)))) (n := w.heap.size + 1) (by simp only [World.size_alloc]) #[.int .u8 0, .int .u8 0, .int .u8 0, .int .u8 0, .int .u8 0, .int .u8 0, .int .u8 0, .int .u8 0, .int .u8 0, .int .u8 0, .int .u8 0, .int .u8 0, .int .u8 0, .int .u8 0, .int .u8 0, .int .u8 0, .int .u8 0, .int .u8 0, .int .u8 0, .int .u8 0, .int .u8 0, .int .u8 0, .int .u8 0, .int .u8 0, .int .u8 0, .int .u8 0, .int .u8 0, .int .u8 0, .int .u8 0, .int .u8 0, .int .u8 0, .int .u8 0] 25)
  have Hb := hid b2
  have hbz := b2.size
  have Hbs := hid (show w.heap.size + 1 + 1 = ((w.alloc (.cells #[.int .u8 0, .int .u8 0, .int .u8 0, .int .u8 0, .int .u8 0, .int .u8 0, .int .u8 0, .int .u8 0, .int .u8 0, .int .u8 0, .int .u8 0, .int .u8 0, .int .u8 0, .int .u8 0, .int .u8 0, .int .u8 0, .int .u8 0, .int .u8 0, .int .u8 0, .int .u8 0, .int .u8 0, .int .u8 0, .int .u8 0, .int .u8 0, .int .u8 0, .int .u8 0, .int .u8 0, .int .u8 0, .int .u8 0, .int .u8 0, .int .u8 0, .int .u8 0] 25 (0, 0))).alloc (.cells #[.int .u8 0, .int .u8 0, .int .u8 0, .int .u8 0, .int .u8 0, .int .u8 0, .int .u8 0, .int .u8 0, .int .u8 0, .int .u8 0, .int .u8 0, .int .u8 0, .int .u8 0, .int .u8 0, .int .u8 0, .int .u8 0, .int .u8 0, .int .u8 0, .int .u8 0, .int .u8 0, .int .u8 0, .int .u8 0, .int .u8 0, .int .u8 0, .int .u8 0, .int .u8 0, .int .u8 0, .int .u8 0, .int .u8 0, .int .u8 0, .int .u8 0, .int .u8 0] 25 (0, 0))).heap.size by simp only [World.size_alloc])
  clear b1 b2 
  have HE0 := hid he
  have Kl0 := hid kl
  have HE := hid (he.but kl (But.of Hb.out))
  have Kl := hid (kl.below Hb.out)
  have hbl := kl.lt
  have hbA := he.kb.lt
  have hllt := Kl.out.lt
  clear he kl
  go_enter Tryz.func77, Tryz.ntmps77
  go_wp2_with fail
  refine FlowB.wp_region_butIn [bl] (fun wz => Blk wz bl #[.int .i64 left] 3) 5 [0, 1, 2] [4] [(.c 3, [], []), (.b 4, [], [])] (by kernel_rfl) (by kernel_rfl) Kl.out (fun _ _ h hb => h.below hb) ?_
  apply Exists.intro
  refine ⟨fun w0 hb0 hF0 => ?_, ?_⟩
  · skip
    have yt : ∀ w', (∃ x : Ext w0, w' = x.at_) → w'.cell? ⟨bt, 0, none⟩ = some (.func (.func 107) #[] #[.pointer (some ⟨bl, 0, none⟩), .pointer (some ⟨bw, 0, none⟩)]) := fun w' ⟨x, hx⟩ => by rw [hx, ((((HE.out.but Kl.out (but_of_in hb0)).kt).below x.same)).cell]; rfl
    have c0 := fun e : Ext w0 => CH.out e.at_
    simp only [pick, List.getElem?_toArray, List.getElem?_cons_succ, List.getElem?_cons_zero, Option.toList_some, List.cons_append, List.nil_append]
    repeat (first | (go_big_quiet_want; refine quiet_load_one 116 _ rfl ⟨bt, 0, none⟩ rfl _ yt _ Tryz.underlying116 rfl ?_; go_big_quiet_on; simp only [Act.put, List.setIfInBounds_toArray, List.set_cons_zero, List.set_cons_succ]) | go_big_quiet_step ((go_at_call 78; with_reducible exact Calls.ext (c0 _))))
    exact wpQuiet_nil rfl
  refine FlowB.AlChk.one rfl (fun b => .pointer (some ⟨b, 0, none⟩)) (.cells (byteCells 32 []) 25 (0, 0)) rfl (st_butIn_q _ (by simp only [World.size_alloc]; omega)) (fun w2 hb2 hF2 => by go_simp; rfl) ?_
  refine FlowB.AlChk.nil ?_
  refine FlowB.Walk.call rfl 107 #[.pointer (some ⟨bl, 0, none⟩), .pointer (some ⟨bw, 0, none⟩)] (fun v _ => v = .agg (O.map (Value.int .u8)).toArray) (fun _ w' => Blk w' bl #[.int .i64 (left - 1)] 3) (fun _ _ _ _ h _ => h) (fun _ _ _ h k => h.below k) rfl (fun w1 hb1 hF1 hG1 => ⟨by go_simp, ?_⟩) ?_
  · refine (CT.out w1 (HE.out.but Kl.out (but_of_in hb1)) hG1).mono ?_
    rintro e w2 ⟨rfl, b2, k2⟩
    exact ⟨_, rfl, FlowB.ButIn.of_but b2 (by simp), rfl, k2⟩
  rintro v1 w1 hb1 hF1 rfl
  apply Exists.intro
  refine ⟨fun w2 hb2 hF2 => wpQuiet_nil rfl, ?_⟩
  refine FlowB.AlChk.nil ?_
  refine FlowB.Walk.blk rfl (fun b => .pointer (some ⟨b, 0, none⟩)) (.cells (byteCells 32 []) 25 (0, 0)) (by simp) ?_
  intro b9 wz hbz_ hFz hge9 _
  apply Exists.intro
  refine ⟨fun w2 hb2 hF2 => wpQuiet_nil rfl, ?_⟩
  refine FlowB.AlChk.nil ?_
  refine FlowB.Walk.fin fun w3 h3 hF3 hG3 => ?_
  simp only [List.drop_succ_cons, List.drop_zero]
  have HB3 := hid (but_of_in h3)
  have K93 := hid (show Blk w3 b9 (byteCells 32 []) 25 from hF3.2)
  have Kl3 := hid (show Blk w3 bl #[.int .i64 (left - 1)] 3 from hG3)
  rw [← Hbs.out] at hge9
  have Kr13 := hid (HB3.out.blk Kr1.out (by omega))
  have Kr23 := hid (HB3.out.blk Kr2.out (by omega))
  clear h3 hF3 hG3 hbz_ hFz
  go_wp2_with (
        refine wpList_store_blk rfl 25 _ _ rfl b9 (O.map (Value.int .u8)).toArray rfl rfl _ 25 K93.out 32 size_digest zsize HO.out.size (ints_one _ _) ?_
        intro w4 hb4 hk4
        have HB4 := hid (But.fresh HB3.out hb4 (by rw [← Hbs.out]; omega))
        have K94 := hid hk4
        have Kl4 := hid (hb4.blk Kl3.out (by omega))
        have Kr14 := hid (hb4.blk Kr13.out (by omega))
        have Kr24 := hid (hb4.blk Kr23.out (by omega))
        have HE4 := hid (HE.out.but Kl.out HB4.out)
        have hs94 := K94.out.lt
        have cg4 : w4.cell? ⟨bs, 0, none⟩ = some (.func (.func 77) #[] #[.pointer (some ⟨ba, 0, none⟩), .pointer (some ⟨bt, 0, none⟩), .pointer (some ⟨bs, 0, none⟩)]) := by rw [HE4.out.ka.cell]; rfl
        clear hb4 hk4)
  refine (CA.out w4 HE4.out Kl4.out).mono ?_
  rintro e w5 ⟨rfl, b5, k5⟩
  have HB5 := hid (But.trans HB4.out b5)
  have Kl5 := hid k5
  have Kr15 := hid (b5.blk Kr14.out (by omega))
  have Kr25 := hid (b5.blk Kr24.out (by omega))
  have K95 := hid (b5.blk K94.out (by omega))
  have hs5 := K95.out.lt
  have hs5b := Kr25.out.lt
  have hs5c := Kl5.out.lt
  clear b5 k5
  go_wp2_with (first
     | (
        refine wpList_store_blk rfl 25 _ _ rfl (w5.heap.size) (R1.map (Value.int .u8)).toArray rfl rfl _ 25 ((Blk.new rfl (byteCells 32 []) _).old _) 32 size_digest zsize HR1.out.size (ints_one _ _) ?_
        intro w6 hb6 hk6
        have h6 := hb6.below (((Below.refl w5.heap.size w5).alloc (Nat.le_refl _) _).alloc (by simp only [World.size_alloc]; omega) _) (by simp only [World.size_alloc]; omega) (Nat.le_refl _)
        have H6 := hid h6
        have Ku6 := hid hk6
        have Kv6 := hid (hb6.blk (Blk.new (n := w5.heap.size + 1) (by simp only [World.size_alloc]) (byteCells 32 []) 25) (by omega))
        clear hb6 hk6 h6)
     | (
        refine wpList_store_blk rfl 25 _ _ rfl (w5.heap.size + 1) (R2.map (Value.int .u8)).toArray rfl rfl _ 25 Kv6.out 32 size_digest zsize HR2.out.size (ints_one _ _) ?_
        intro w7 hb7 hk7
        have h7 := hb7.below H6.out H6.out.size (by omega)
        have HC7 := hid (But.trans (But.of Hb.out) (But.trans HB5.out (But.of h7)))
        have Kuw7 := hid (hb7.blk Ku6.out (by omega))
        have Kvw7 := hid hk7
        have Kr1w7 := hid (Kr15.out.below h7)
        have Kr2w7 := hid (Kr25.out.below h7)
        have Kow7 := hid (K95.out.below h7)
        have Klw7 := hid (Kl5.out.below h7)
        clear hb7 hk7 h7))
  simp only [Act.put]
  refine FlowB.wp_region_butIn [w.heap.size, w.heap.size + 1] (fun wz => Blk wz (w.heap.size) #[.int .u8 0, .int .u8 0, .int .u8 0, .int .u8 0, .int .u8 0, .int .u8 0, .int .u8 0, .int .u8 0, .int .u8 0, .int .u8 0, .int .u8 0, .int .u8 0, .int .u8 0, .int .u8 0, .int .u8 0, .int .u8 0, .int .u8 0, .int .u8 0, .int .u8 0, .int .u8 0, .int .u8 0, .int .u8 0, .int .u8 0, .int .u8 0, .int .u8 0, .int .u8 0, .int .u8 0, .int .u8 0, .int .u8 0, .int .u8 0, .int .u8 0, .int .u8 0] 25 ∧ Blk wz (w.heap.size + 1) #[.int .u8 0, .int .u8 0, .int .u8 0, .int .u8 0, .int .u8 0, .int .u8 0, .int .u8 0, .int .u8 0, .int .u8 0, .int .u8 0, .int .u8 0, .int .u8 0, .int .u8 0, .int .u8 0, .int .u8 0, .int .u8 0, .int .u8 0, .int .u8 0, .int .u8 0, .int .u8 0, .int .u8 0, .int .u8 0, .int .u8 0, .int .u8 0, .int .u8 0, .int .u8 0, .int .u8 0, .int .u8 0, .int .u8 0, .int .u8 0, .int .u8 0, .int .u8 0] 25) 6 [0, 1, 2, 3] [] [(.c 4, [], []), (.c 5, [], [])] (by kernel_rfl) (by kernel_rfl) ⟨Kr1w7.out, Kr2w7.out⟩ (fun _ _ h hb => ⟨h.1.below hb, h.2.below hb⟩) ?_
  apply Exists.intro
  refine ⟨fun w0 hb0 hF0 => ?_, ?_⟩
  · skip
    have x0 : ∀ w', (∃ x : Ext w0, w' = x.at_) → ∃ T, Blk w' (w5.heap.size) (R1.map (Value.int .u8)).toArray T := fun w' ⟨x, hx⟩ => ⟨_, hx ▸ (hb0.blk Kuw7.out (by simp only [List.mem_cons, List.not_mem_nil, or_false]; omega)).below x.same⟩
    have x1 : ∀ w', (∃ x : Ext w0, w' = x.at_) → ∃ T, Blk w' (w5.heap.size + 1) (R2.map (Value.int .u8)).toArray T := fun w' ⟨x, hx⟩ => ⟨_, hx ▸ (hb0.blk Kvw7.out (by simp only [List.mem_cons, List.not_mem_nil, or_false]; omega)).below x.same⟩
    have x2 : ∀ w', (∃ x : Ext w0, w' = x.at_) → ∃ T, Blk w' (b9) (O.map (Value.int .u8)).toArray T := fun w' ⟨x, hx⟩ => ⟨_, hx ▸ (hb0.blk Kow7.out (by simp only [List.mem_cons, List.not_mem_nil, or_false]; omega)).below x.same⟩
    have c0 := fun e : Ext w0 => CN.out e.at_ ((HE0.out.but Kl0.out (But.freshIn HC7.out hb0 (by simp only [List.mem_cons, List.not_mem_nil, or_false, forall_eq_or_imp, forall_eq]; omega))).tab.below e.same)
    simp only [pick, List.getElem?_toArray, List.getElem?_cons_succ, List.getElem?_cons_zero, Option.toList_some, List.cons_append, List.nil_append]
    repeat (first | (go_big_quiet_want; refine quiet_load_blk 25 _ rfl (w5.heap.size) rfl _ x0 _ Tryz.underlying25 rfl 32 size_digest HR1.out.size ?_; go_big_quiet_on; simp only [Act.put, List.setIfInBounds_toArray, List.set_cons_zero, List.set_cons_succ]) | (go_big_quiet_want; refine quiet_load_blk 25 _ rfl (w5.heap.size + 1) rfl _ x1 _ Tryz.underlying25 rfl 32 size_digest HR2.out.size ?_; go_big_quiet_on; simp only [Act.put, List.setIfInBounds_toArray, List.set_cons_zero, List.set_cons_succ]) | (go_big_quiet_want; refine quiet_load_blk 25 _ rfl (b9) rfl _ x2 _ Tryz.underlying25 rfl 32 size_digest HO.out.size ?_; go_big_quiet_on; simp only [Act.put, List.setIfInBounds_toArray, List.set_cons_zero, List.set_cons_succ]) | go_big_quiet_step (first | (go_at_call 79; with_reducible exact Calls.ext (c0 _))))
    exact wpQuiet_nil rfl
  refine FlowB.AlChk.nil ?_
  refine FlowB.Walk.skips rfl (fun wz => Blk wz (w.heap.size) (R1.map (Value.int .u8)).toArray 25 ∧ Blk wz (w.heap.size + 1) #[.int .u8 0, .int .u8 0, .int .u8 0, .int .u8 0, .int .u8 0, .int .u8 0, .int .u8 0, .int .u8 0, .int .u8 0, .int .u8 0, .int .u8 0, .int .u8 0, .int .u8 0, .int .u8 0, .int .u8 0, .int .u8 0, .int .u8 0, .int .u8 0, .int .u8 0, .int .u8 0, .int .u8 0, .int .u8 0, .int .u8 0, .int .u8 0, .int .u8 0, .int .u8 0, .int .u8 0, .int .u8 0, .int .u8 0, .int .u8 0, .int .u8 0, .int .u8 0] 25) (fun _ _ h hb => ⟨h.1.below hb, h.2.below hb⟩) rfl (fun w1 hb1 hF1 hG1 => ?_) ?_
  · exact FlowB.store_skips 25 _ _ rfl (w.heap.size) (R1.map (Value.int .u8)).toArray rfl rfl _ 25 hG1.1 32 size_digest rfl HR1.out.size (ints_one _ _) (by simp) (fun w2 h2 h3 => ⟨h3, h2.blk hG1.2 (by omega)⟩)
  intro w1 hb1 hF1
  apply Exists.intro
  refine ⟨fun w2 hb2 hF2 => wpQuiet_nil rfl, ?_⟩
  refine FlowB.AlChk.nil ?_
  refine FlowB.Walk.skips rfl (fun wz => Blk wz (w.heap.size) (R1.map (Value.int .u8)).toArray 25 ∧ Blk wz (w.heap.size + 1) (X9.map (Value.int .u8)).toArray 25) (fun _ _ h hb => ⟨h.1.below hb, h.2.below hb⟩) rfl (fun w1 hb1 hF1 hG1 => ?_) ?_
  · exact FlowB.store_skips 25 _ _ rfl (w.heap.size + 1) (X9.map (Value.int .u8)).toArray rfl rfl _ 25 hG1.2 32 size_digest rfl HX9.out.size (ints_one _ _) (by simp) (fun w2 h2 h3 => ⟨h2.blk hG1.1 (by omega), h3⟩)
  intro w1 hb1 hF1
  apply Exists.intro
  refine ⟨fun w2 hb2 hF2 => wpQuiet_nil rfl, ?_⟩
  refine FlowB.AlChk.nil ?_
  refine FlowB.Walk.fin fun w1 hw1 _ hGw1 => ?_
  simp only [List.drop_succ_cons, List.drop_zero]
  have HIw1 := hid hw1
  have HGw1 := hid hGw1
  clear hw1 hGw1
  go_wp2_with fail
  exact bodyPost_ret (v := .tuple #[.agg (R1.map (Value.int .u8)).toArray, .agg (X9.map (Value.int .u8)).toArray]) (results_blk2 Tryz.results77 _ (w.heap.size) (w.heap.size + 1) rfl rfl _ _ 25 HGw1.out.1 HGw1.out.2 _ Tryz.underlying25 rfl 32 size_digest HR1.out.size HX9.out.size) rfl ⟨rfl, (But.freshIn HC7.out HIw1.out (by simp only [List.mem_cons, List.not_mem_nil, or_false, forall_eq_or_imp, forall_eq]; omega)), (HIw1.out.blk Klw7.out (by simp only [List.mem_cons, List.not_mem_nil, or_false]; omega))⟩
set_option maxHeartbeats 4000000 in
theorem gro_r (m n k : Nat) (cut : Bool) (left : Int) (ba bt bs bl bw : Nat) (A : List Int) (ya : Option Addr) (yn yc : Nat) (ds : List (List Int)) (w : World) (he : GEnv w ba bt bs bl bw A ya yn yc ds) (kl : Blk w bl #[.int .i64 left] 3) (hmn : m < n) (hn : 2 ≤ n) (hn2 : n ≤ 200) (hkk : halfN n = k) (hik : ¬ m ≤ k) (hlo : -1000 ≤ left) (hhi : left ≤ yn) (hyn : yn ≤ 1000000)
    (R1 R2 : List Int) (L2 : Int) (hR1 : Dg R1) (hR2 : Dg R2) (ca : ∀ W : World, GEnv W ba bt bs bl bw A ya yn yc ds → Blk W bl #[.int .i64 (left - 1)] 3 → Calls Tryz.prog 77 #[.int .i64 ((m : Int) - (k : Int)), .int .i64 ((n : Int) - (k : Int)), .bool true, .pointer (some ⟨ba, 0, none⟩), .pointer (some ⟨bt, 0, none⟩), .pointer (some ⟨bs, 0, none⟩)] W fun e w' => e = .returned (.tuple #[.agg (R1.map (Value.int .u8)).toArray, .agg (R2.map (Value.int .u8)).toArray]) ∧ But bl W w' ∧ Blk w' bl #[.int .i64 L2] 3) :
    Calls Tryz.prog 77 #[.int .i64 m, .int .i64 n, .bool cut, .pointer (some ⟨ba, 0, none⟩), .pointer (some ⟨bt, 0, none⟩), .pointer (some ⟨bs, 0, none⟩)] w fun e w' => e = .returned (.tuple #[.agg ((nodeL (takeZ ds left) R1).map (Value.int .u8)).toArray, .agg ((nodeL (takeZ ds left) R2).map (Value.int .u8)).toArray]) ∧ But bl w w' ∧ Blk w' bl #[.int .i64 L2] 3 := by
  obtain ⟨hk1, hk2⟩ := halfN_lt hn
  rw [hkk] at hk1 hk2
  have hmI : ¬ ((m : Int) = (n : Int)) := by omega
  have CH := hid (fun W : World => (lohalf_any n W hn (by omega)).mono (fun e w' (h : e = .returned (.int .i64 (halfN n : Int)) ∧ w' = W) => show e = .returned (.int .i64 (halfN n : Int)) ∧ Below W.heap.size W w' from ⟨h.1, by rw [h.2]; exact Below.refl _ _⟩))
  rw [hkk] at CH
  have CT := hid (fun (W : World) (h : GEnv W ba bt bs bl bw A ya yn yc ds) (k1 : Blk W bl #[.int .i64 left] 3) => gtake_any h k1 hlo hhi hyn)
  have CA := hid ca
  have hwl := he.way.length
  have HO := hid (Dg.take he.way.each (left := left) (by omega))
  have HR1 := hid hR1
  have HR2 := hid hR2
  generalize takeZ ds left = O at *
  have CN := hid (fun (W : World) (t : ShaTab W) => lonode_any O R1 W HO.out HR1.out t)
  have CM := hid (fun (W : World) (t : ShaTab W) => lonode_any O R2 W HO.out HR2.out t)
  have HX8 := hid (Dg.nodeL O R1)
  have HX9 := hid (Dg.nodeL O R2)
  generalize nodeL O R1 = X8 at *
  generalize nodeL O R2 = X9 at *
  have hikI : ¬ ((m : Int) ≤ k) := by omega
  have hw1 : wrap64 ((n : Int) - (k : Int)) = (n : Int) - (k : Int) := by unfold wrap64; omega
  have hw2 : wrap64 ((m : Int) - (k : Int)) = (m : Int) - (k : Int) := by unfold wrap64; omega
  clear ca hR1 hR2 hkk hwl
  have b1 := (Below.refl w.heap.size w).alloc (Nat.le_refl _) (.cells #[.int .u8 0, .int .u8 0, .int .u8 0, .int .u8 0, .int .u8 0, .int .u8 0, .int .u8 0, .int .u8 0, .int .u8 0, .int .u8 0, .int .u8 0, .int .u8 0, .int .u8 0, .int .u8 0, .int .u8 0, .int .u8 0, .int .u8 0, .int .u8 0, .int .u8 0, .int .u8 0, .int .u8 0, .int .u8 0, .int .u8 0, .int .u8 0, .int .u8 0, .int .u8 0, .int .u8 0, .int .u8 0, .int .u8 0, .int .u8 0, .int .u8 0, .int .u8 0] 25 (0, 0))
  have b2 := b1.alloc b1.size (.cells #[.int .u8 0, .int .u8 0, .int .u8 0, .int .u8 0, .int .u8 0, .int .u8 0, .int .u8 0, .int .u8 0, .int .u8 0, .int .u8 0, .int .u8 0, .int .u8 0, .int .u8 0, .int .u8 0, .int .u8 0, .int .u8 0, .int .u8 0, .int .u8 0, .int .u8 0, .int .u8 0, .int .u8 0, .int .u8 0, .int .u8 0, .int .u8 0, .int .u8 0, .int .u8 0, .int .u8 0, .int .u8 0, .int .u8 0, .int .u8 0, .int .u8 0, .int .u8 0] 25 (0, 0))
  have Kr1 := hid ((Blk.new (w := w) (n := w.heap.size) rfl #[.int .u8 0, .int .u8 0, .int .u8 0, .int .u8 0, .int .u8 0, .int .u8 0, .int .u8 0, .int .u8 0, .int .u8 0, .int .u8 0, .int .u8 0, .int .u8 0, .int .u8 0, .int .u8 0, .int .u8 0, .int .u8 0, .int .u8 0, .int .u8 0, .int .u8 0, .int .u8 0, .int .u8 0, .int .u8 0, .int .u8 0, .int .u8 0, .int .u8 0, .int .u8 0, .int .u8 0, .int .u8 0, .int .u8 0, .int .u8 0, .int .u8 0, .int .u8 0] 25).old (.cells #[.int .u8 0, .int .u8 0, .int .u8 0, .int .u8 0, .int .u8 0, .int .u8 0, .int .u8 0, .int .u8 0, .int .u8 0, .int .u8 0, .int .u8 0, .int .u8 0, .int .u8 0, .int .u8 0, .int .u8 0, .int .u8 0, .int .u8 0, .int .u8 0, .int .u8 0, .int .u8 0, .int .u8 0, .int .u8 0, .int .u8 0, .int .u8 0, .int .u8 0, .int .u8 0, .int .u8 0, .int .u8 0, .int .u8 0, .int .u8 0, .int .u8 0, .int .u8 0] 25 (0, 0)))
  have Kr2 := hid (Blk.new (w := (w.alloc (.cells #[.int .u8 0, .int .u8 0, .int .u8 0, .int .u8 0, .int .u8 0, .int .u8 0, .int .u8 0, .int .u8 0, .int .u8 0, .int .u8 0, .int .u8 0, .int .u8 0, .int .u8 0, .int .u8 0, .int .u8 0, .int .u8 0, .int .u8 0, .int .u8 0, .int .u8 0, .int .u8 0, .int .u8 0, .int .u8 0, .int .u8 0, .int .u8 0, .int .u8 0, .int .u8 0, .int .u8 0, .int .u8 0, .int .u8 0, .int .u8 0, .int .u8 0, .int .u8 0] 25 (0, 0)))) (n := w.heap.size + 1) (by simp only [World.size_alloc]) #[.int .u8 0, .int .u8 0, .int .u8 0, .int .u8 0, .int .u8 0, .int .u8 0, .int .u8 0, .int .u8 0, .int .u8 0, .int .u8 0, .int .u8 0, .int .u8 0, .int .u8 0, .int .u8 0, .int .u8 0, .int .u8 0, .int .u8 0, .int .u8 0, .int .u8 0, .int .u8 0, .int .u8 0, .int .u8 0, .int .u8 0, .int .u8 0, .int .u8 0, .int .u8 0, .int .u8 0, .int .u8 0, .int .u8 0, .int .u8 0, .int .u8 0, .int .u8 0] 25)
  have Hb := hid b2
  have hbz := b2.size
  have Hbs := hid (show w.heap.size + 1 + 1 = ((w.alloc (.cells #[.int .u8 0, .int .u8 0, .int .u8 0, .int .u8 0, .int .u8 0, .int .u8 0, .int .u8 0, .int .u8 0, .int .u8 0, .int .u8 0, .int .u8 0, .int .u8 0, .int .u8 0, .int .u8 0, .int .u8 0, .int .u8 0, .int .u8 0, .int .u8 0, .int .u8 0, .int .u8 0, .int .u8 0, .int .u8 0, .int .u8 0, .int .u8 0, .int .u8 0, .int .u8 0, .int .u8 0, .int .u8 0, .int .u8 0, .int .u8 0, .int .u8 0, .int .u8 0] 25 (0, 0))).alloc (.cells #[.int .u8 0, .int .u8 0, .int .u8 0, .int .u8 0, .int .u8 0, .int .u8 0, .int .u8 0, .int .u8 0, .int .u8 0, .int .u8 0, .int .u8 0, .int .u8 0, .int .u8 0, .int .u8 0, .int .u8 0, .int .u8 0, .int .u8 0, .int .u8 0, .int .u8 0, .int .u8 0, .int .u8 0, .int .u8 0, .int .u8 0, .int .u8 0, .int .u8 0, .int .u8 0, .int .u8 0, .int .u8 0, .int .u8 0, .int .u8 0, .int .u8 0, .int .u8 0] 25 (0, 0))).heap.size by simp only [World.size_alloc])
  clear b1 b2 
  have HE0 := hid he
  have Kl0 := hid kl
  have HE := hid (he.but kl (But.of Hb.out))
  have Kl := hid (kl.below Hb.out)
  have hbl := kl.lt
  have hbA := he.kb.lt
  have hllt := Kl.out.lt
  clear he kl
  go_enter Tryz.func77, Tryz.ntmps77
  go_wp2_with fail
  refine FlowB.wp_region_butIn [bl] (fun wz => Blk wz bl #[.int .i64 left] 3) 5 [0, 1, 2] [4] [(.c 3, [], []), (.b 4, [], [])] (by kernel_rfl) (by kernel_rfl) Kl.out (fun _ _ h hb => h.below hb) ?_
  apply Exists.intro
  refine ⟨fun w0 hb0 hF0 => ?_, ?_⟩
  · skip
    have yt : ∀ w', (∃ x : Ext w0, w' = x.at_) → w'.cell? ⟨bt, 0, none⟩ = some (.func (.func 107) #[] #[.pointer (some ⟨bl, 0, none⟩), .pointer (some ⟨bw, 0, none⟩)]) := fun w' ⟨x, hx⟩ => by rw [hx, ((((HE.out.but Kl.out (but_of_in hb0)).kt).below x.same)).cell]; rfl
    have c0 := fun e : Ext w0 => CH.out e.at_
    simp only [pick, List.getElem?_toArray, List.getElem?_cons_succ, List.getElem?_cons_zero, Option.toList_some, List.cons_append, List.nil_append]
    repeat (first | (go_big_quiet_want; refine quiet_load_one 116 _ rfl ⟨bt, 0, none⟩ rfl _ yt _ Tryz.underlying116 rfl ?_; go_big_quiet_on; simp only [Act.put, List.setIfInBounds_toArray, List.set_cons_zero, List.set_cons_succ]) | go_big_quiet_step ((go_at_call 78; with_reducible exact Calls.ext (c0 _))))
    exact wpQuiet_nil rfl
  refine FlowB.AlChk.one rfl (fun b => .pointer (some ⟨b, 0, none⟩)) (.cells (byteCells 32 []) 25 (0, 0)) rfl (st_butIn_q _ (by simp only [World.size_alloc]; omega)) (fun w2 hb2 hF2 => by go_simp; rfl) ?_
  refine FlowB.AlChk.nil ?_
  refine FlowB.Walk.call rfl 107 #[.pointer (some ⟨bl, 0, none⟩), .pointer (some ⟨bw, 0, none⟩)] (fun v _ => v = .agg (O.map (Value.int .u8)).toArray) (fun _ w' => Blk w' bl #[.int .i64 (left - 1)] 3) (fun _ _ _ _ h _ => h) (fun _ _ _ h k => h.below k) rfl (fun w1 hb1 hF1 hG1 => ⟨by go_simp, ?_⟩) ?_
  · refine (CT.out w1 (HE.out.but Kl.out (but_of_in hb1)) hG1).mono ?_
    rintro e w2 ⟨rfl, b2, k2⟩
    exact ⟨_, rfl, FlowB.ButIn.of_but b2 (by simp), rfl, k2⟩
  rintro v1 w1 hb1 hF1 rfl
  apply Exists.intro
  refine ⟨fun w2 hb2 hF2 => wpQuiet_nil rfl, ?_⟩
  refine FlowB.AlChk.nil ?_
  refine FlowB.Walk.blk rfl (fun b => .pointer (some ⟨b, 0, none⟩)) (.cells (byteCells 32 []) 25 (0, 0)) (by simp) ?_
  intro b9 wz hbz_ hFz hge9 _
  apply Exists.intro
  refine ⟨fun w2 hb2 hF2 => wpQuiet_nil rfl, ?_⟩
  refine FlowB.AlChk.nil ?_
  refine FlowB.Walk.fin fun w3 h3 hF3 hG3 => ?_
  simp only [List.drop_succ_cons, List.drop_zero]
  have HB3 := hid (but_of_in h3)
  have K93 := hid (show Blk w3 b9 (byteCells 32 []) 25 from hF3.2)
  have Kl3 := hid (show Blk w3 bl #[.int .i64 (left - 1)] 3 from hG3)
  rw [← Hbs.out] at hge9
  have Kr13 := hid (HB3.out.blk Kr1.out (by omega))
  have Kr23 := hid (HB3.out.blk Kr2.out (by omega))
  clear h3 hF3 hG3 hbz_ hFz
  go_wp2_with (
        refine wpList_store_blk rfl 25 _ _ rfl b9 (O.map (Value.int .u8)).toArray rfl rfl _ 25 K93.out 32 size_digest zsize HO.out.size (ints_one _ _) ?_
        intro w4 hb4 hk4
        have HB4 := hid (But.fresh HB3.out hb4 (by rw [← Hbs.out]; omega))
        have K94 := hid hk4
        have Kl4 := hid (hb4.blk Kl3.out (by omega))
        have Kr14 := hid (hb4.blk Kr13.out (by omega))
        have Kr24 := hid (hb4.blk Kr23.out (by omega))
        have HE4 := hid (HE.out.but Kl.out HB4.out)
        have hs94 := K94.out.lt
        have cg4 : w4.cell? ⟨bs, 0, none⟩ = some (.func (.func 77) #[] #[.pointer (some ⟨ba, 0, none⟩), .pointer (some ⟨bt, 0, none⟩), .pointer (some ⟨bs, 0, none⟩)]) := by rw [HE4.out.ka.cell]; rfl
        clear hb4 hk4)
  skip
  refine (CA.out w4 HE4.out Kl4.out).mono ?_
  rintro e w5 ⟨rfl, b5, k5⟩
  have HB5 := hid (But.trans HB4.out b5)
  have Kl5 := hid k5
  have Kr15 := hid (b5.blk Kr14.out (by omega))
  have Kr25 := hid (b5.blk Kr24.out (by omega))
  have K95 := hid (b5.blk K94.out (by omega))
  have hs5 := K95.out.lt
  have hs5b := Kr25.out.lt
  have hs5c := Kl5.out.lt
  clear b5 k5
  go_wp2_with (first
     | (
        refine wpList_store_blk rfl 25 _ _ rfl (w5.heap.size) (R1.map (Value.int .u8)).toArray rfl rfl _ 25 ((Blk.new rfl (byteCells 32 []) _).old _) 32 size_digest zsize HR1.out.size (ints_one _ _) ?_
        intro w6 hb6 hk6
        have h6 := hb6.below (((Below.refl w5.heap.size w5).alloc (Nat.le_refl _) _).alloc (by simp only [World.size_alloc]; omega) _) (by simp only [World.size_alloc]; omega) (Nat.le_refl _)
        have H6 := hid h6
        have Ku6 := hid hk6
        have Kv6 := hid (hb6.blk (Blk.new (n := w5.heap.size + 1) (by simp only [World.size_alloc]) (byteCells 32 []) 25) (by omega))
        clear hb6 hk6 h6)
     | (
        refine wpList_store_blk rfl 25 _ _ rfl (w5.heap.size + 1) (R2.map (Value.int .u8)).toArray rfl rfl _ 25 Kv6.out 32 size_digest zsize HR2.out.size (ints_one _ _) ?_
        intro w7 hb7 hk7
        have h7 := hb7.below H6.out H6.out.size (by omega)
        have HC7 := hid (But.trans (But.of Hb.out) (But.trans HB5.out (But.of h7)))
        have Kuw7 := hid (hb7.blk Ku6.out (by omega))
        have Kvw7 := hid hk7
        have Kr1w7 := hid (Kr15.out.below h7)
        have Kr2w7 := hid (Kr25.out.below h7)
        have Kow7 := hid (K95.out.below h7)
        have Klw7 := hid (Kl5.out.below h7)
        clear hb7 hk7 h7))
  simp only [Act.put]
  refine FlowB.wp_region_butIn [w.heap.size, w.heap.size + 1] (fun wz => Blk wz (w.heap.size) #[.int .u8 0, .int .u8 0, .int .u8 0, .int .u8 0, .int .u8 0, .int .u8 0, .int .u8 0, .int .u8 0, .int .u8 0, .int .u8 0, .int .u8 0, .int .u8 0, .int .u8 0, .int .u8 0, .int .u8 0, .int .u8 0, .int .u8 0, .int .u8 0, .int .u8 0, .int .u8 0, .int .u8 0, .int .u8 0, .int .u8 0, .int .u8 0, .int .u8 0, .int .u8 0, .int .u8 0, .int .u8 0, .int .u8 0, .int .u8 0, .int .u8 0, .int .u8 0] 25 ∧ Blk wz (w.heap.size + 1) #[.int .u8 0, .int .u8 0, .int .u8 0, .int .u8 0, .int .u8 0, .int .u8 0, .int .u8 0, .int .u8 0, .int .u8 0, .int .u8 0, .int .u8 0, .int .u8 0, .int .u8 0, .int .u8 0, .int .u8 0, .int .u8 0, .int .u8 0, .int .u8 0, .int .u8 0, .int .u8 0, .int .u8 0, .int .u8 0, .int .u8 0, .int .u8 0, .int .u8 0, .int .u8 0, .int .u8 0, .int .u8 0, .int .u8 0, .int .u8 0, .int .u8 0, .int .u8 0] 25) 8 [0, 1, 2, 3, 4, 5] [] [(.c 6, [], []), (.c 7, [], [])] (by kernel_rfl) (by kernel_rfl) ⟨Kr1w7.out, Kr2w7.out⟩ (fun _ _ h hb => ⟨h.1.below hb, h.2.below hb⟩) ?_
  apply Exists.intro
  refine ⟨fun w0 hb0 hF0 => ?_, ?_⟩
  · skip
    have x0 : ∀ w', (∃ x : Ext w0, w' = x.at_) → ∃ T, Blk w' (w5.heap.size) (R1.map (Value.int .u8)).toArray T := fun w' ⟨x, hx⟩ => ⟨_, hx ▸ (hb0.blk Kuw7.out (by simp only [List.mem_cons, List.not_mem_nil, or_false]; omega)).below x.same⟩
    have x1 : ∀ w', (∃ x : Ext w0, w' = x.at_) → ∃ T, Blk w' (w5.heap.size + 1) (R2.map (Value.int .u8)).toArray T := fun w' ⟨x, hx⟩ => ⟨_, hx ▸ (hb0.blk Kvw7.out (by simp only [List.mem_cons, List.not_mem_nil, or_false]; omega)).below x.same⟩
    have x2 : ∀ w', (∃ x : Ext w0, w' = x.at_) → ∃ T, Blk w' (b9) (O.map (Value.int .u8)).toArray T := fun w' ⟨x, hx⟩ => ⟨_, hx ▸ (hb0.blk Kow7.out (by simp only [List.mem_cons, List.not_mem_nil, or_false]; omega)).below x.same⟩
    have c0 := fun e : Ext w0 => CN.out e.at_ ((HE0.out.but Kl0.out (But.freshIn HC7.out hb0 (by simp only [List.mem_cons, List.not_mem_nil, or_false, forall_eq_or_imp, forall_eq]; omega))).tab.below e.same)
    have c1 := fun e : Ext w0 => CM.out e.at_ ((HE0.out.but Kl0.out (But.freshIn HC7.out hb0 (by simp only [List.mem_cons, List.not_mem_nil, or_false, forall_eq_or_imp, forall_eq]; omega))).tab.below e.same)
    simp only [pick, List.getElem?_toArray, List.getElem?_cons_succ, List.getElem?_cons_zero, Option.toList_some, List.cons_append, List.nil_append]
    repeat (first | (go_big_quiet_want; refine quiet_load_blk 25 _ rfl (w5.heap.size) rfl _ x0 _ Tryz.underlying25 rfl 32 size_digest HR1.out.size ?_; go_big_quiet_on; simp only [Act.put, List.setIfInBounds_toArray, List.set_cons_zero, List.set_cons_succ]) | (go_big_quiet_want; refine quiet_load_blk 25 _ rfl (w5.heap.size + 1) rfl _ x1 _ Tryz.underlying25 rfl 32 size_digest HR2.out.size ?_; go_big_quiet_on; simp only [Act.put, List.setIfInBounds_toArray, List.set_cons_zero, List.set_cons_succ]) | (go_big_quiet_want; refine quiet_load_blk 25 _ rfl (b9) rfl _ x2 _ Tryz.underlying25 rfl 32 size_digest HO.out.size ?_; go_big_quiet_on; simp only [Act.put, List.setIfInBounds_toArray, List.set_cons_zero, List.set_cons_succ]) | go_big_quiet_step (first | (go_at_call 79; with_reducible exact Calls.ext (c0 _)) | (go_at_call 79; with_reducible exact Calls.ext (c1 _))))
    exact wpQuiet_nil rfl
  refine FlowB.AlChk.nil ?_
  refine FlowB.Walk.skips rfl (fun wz => Blk wz (w.heap.size) (X8.map (Value.int .u8)).toArray 25 ∧ Blk wz (w.heap.size + 1) #[.int .u8 0, .int .u8 0, .int .u8 0, .int .u8 0, .int .u8 0, .int .u8 0, .int .u8 0, .int .u8 0, .int .u8 0, .int .u8 0, .int .u8 0, .int .u8 0, .int .u8 0, .int .u8 0, .int .u8 0, .int .u8 0, .int .u8 0, .int .u8 0, .int .u8 0, .int .u8 0, .int .u8 0, .int .u8 0, .int .u8 0, .int .u8 0, .int .u8 0, .int .u8 0, .int .u8 0, .int .u8 0, .int .u8 0, .int .u8 0, .int .u8 0, .int .u8 0] 25) (fun _ _ h hb => ⟨h.1.below hb, h.2.below hb⟩) rfl (fun w1 hb1 hF1 hG1 => ?_) ?_
  · exact FlowB.store_skips 25 _ _ rfl (w.heap.size) (X8.map (Value.int .u8)).toArray rfl rfl _ 25 hG1.1 32 size_digest rfl HX8.out.size (ints_one _ _) (by simp) (fun w2 h2 h3 => ⟨h3, h2.blk hG1.2 (by omega)⟩)
  intro w1 hb1 hF1
  apply Exists.intro
  refine ⟨fun w2 hb2 hF2 => wpQuiet_nil rfl, ?_⟩
  refine FlowB.AlChk.nil ?_
  refine FlowB.Walk.skips rfl (fun wz => Blk wz (w.heap.size) (X8.map (Value.int .u8)).toArray 25 ∧ Blk wz (w.heap.size + 1) (X9.map (Value.int .u8)).toArray 25) (fun _ _ h hb => ⟨h.1.below hb, h.2.below hb⟩) rfl (fun w1 hb1 hF1 hG1 => ?_) ?_
  · exact FlowB.store_skips 25 _ _ rfl (w.heap.size + 1) (X9.map (Value.int .u8)).toArray rfl rfl _ 25 hG1.2 32 size_digest rfl HX9.out.size (ints_one _ _) (by simp) (fun w2 h2 h3 => ⟨h2.blk hG1.1 (by omega), h3⟩)
  intro w1 hb1 hF1
  apply Exists.intro
  refine ⟨fun w2 hb2 hF2 => wpQuiet_nil rfl, ?_⟩
  refine FlowB.AlChk.nil ?_
  refine FlowB.Walk.fin fun w1 hw1 _ hGw1 => ?_
  simp only [List.drop_succ_cons, List.drop_zero]
  have HIw1 := hid hw1
  have HGw1 := hid hGw1
  clear hw1 hGw1
  go_wp2_with fail
  exact bodyPost_ret (v := .tuple #[.agg (X8.map (Value.int .u8)).toArray, .agg (X9.map (Value.int .u8)).toArray]) (results_blk2 Tryz.results77 _ (w.heap.size) (w.heap.size + 1) rfl rfl _ _ 25 HGw1.out.1 HGw1.out.2 _ Tryz.underlying25 rfl 32 size_digest HX8.out.size HX9.out.size) rfl ⟨rfl, (But.freshIn HC7.out HIw1.out (by simp only [List.mem_cons, List.not_mem_nil, or_false, forall_eq_or_imp, forall_eq]; omega)), (HIw1.out.blk Klw7.out (by simp only [List.mem_cons, List.not_mem_nil, or_false]; omega))⟩
theorem Dg.groZ {A : List Int} {ds : List (List Int)} (hA : Dg A) (hd : ∀ d ∈ ds, Dg d) (f : Nat) : ∀ m n cut (left : Int), left ≤ ds.length → Dg (groZ f A m n cut ds left).1.1 ∧ Dg (groZ f A m n cut ds left).1.2 := by
  induction f with
  | zero => intro m n cut left _; exact ⟨hA, hA⟩
  | succ f ih =>
    intro m n cut left hl
    unfold Go.Proofs.YtkakoiaahgchmaaGreatDoor.groZ
    split
    · split
      · exact ⟨Dg.take hd hl, Dg.take hd hl⟩
      · exact ⟨hA, hA⟩
    · split
      · exact ⟨(ih _ _ _ _ (by omega)).1, Dg.nodeL _ _⟩
      · exact ⟨Dg.nodeL _ _, Dg.nodeL _ _⟩
set_option maxHeartbeats 4000000 in
theorem gro_any (f : Nat) : ∀ (m n : Nat) (cut : Bool) (left : Int) (ba bt bs bl bw : Nat) (A : List Int) (ya : Option Addr) (yn yc : Nat) (ds : List (List Int)) (w : World), GEnv w ba bt bs bl bw A ya yn yc ds → Blk w bl #[.int .i64 left] 3 → Dg A → 1 ≤ m → m ≤ n → n ≤ f → n ≤ 200 → (f : Int) - 1000 ≤ left → left ≤ yn → yn ≤ 1000000 →
    Calls Tryz.prog 77 #[.int .i64 m, .int .i64 n, .bool cut, .pointer (some ⟨ba, 0, none⟩), .pointer (some ⟨bt, 0, none⟩), .pointer (some ⟨bs, 0, none⟩)] w fun e w' => e = .returned (.tuple #[.agg ((groZ f A m n cut ds left).1.1.map (Value.int .u8)).toArray, .agg ((groZ f A m n cut ds left).1.2.map (Value.int .u8)).toArray]) ∧ But bl w w' ∧ Blk w' bl #[.int .i64 (groZ f A m n cut ds left).2] 3 := by
  induction f with
  | zero => intro m n cut left ba bt bs bl bw A ya yn yc ds w he kl hA h1 h2 h3; omega
  | succ f ih =>
    intro m n cut left ba bt bs bl bw A ya yn yc ds w he kl hA h1 h2 h3 h4 h5 h6 h7
    have hwl := he.way.length
    have hdd := he.way.each
    rcases Nat.eq_or_lt_of_le h2 with rfl | hlt
    · rw [groZ, if_pos rfl]
      cases cut with
      | false =>
        rw [if_neg (by simp)]
        exact gro_same (m : Int) left ba bt bs bl bw A ya yn yc ds w he kl hA
      | true =>
        rw [if_pos rfl]
        exact gro_cut (m : Int) left ba bt bs bl bw A ya yn yc ds w he kl hA (by omega) h6 h7
    · obtain ⟨hk1, hk2⟩ := halfN_lt (n := n) (by omega)
      rw [groZ, if_neg (by omega)]
      by_cases hik : m ≤ halfN n
      · rw [if_pos hik]
        have hg := Dg.groZ hA hdd f m (halfN n) cut (left - 1) (by omega)
        exact gro_l m n (halfN n) cut left ba bt bs bl bw A ya yn yc ds w he kl hlt (by omega) h4 rfl hik (by omega) h6 h7 _ _ _ hg.1 hg.2 (fun W hW kW => ih m (halfN n) cut (left - 1) ba bt bs bl bw A ya yn yc ds W hW kW hA h1 hik (by omega) (by omega) (by omega) (by omega) h7)
      · rw [if_neg hik]
        have hg := Dg.groZ hA hdd f (m - halfN n) (n - halfN n) true (left - 1) (by omega)
        exact gro_r m n (halfN n) cut left ba bt bs bl bw A ya yn yc ds w he kl hlt (by omega) h4 rfl hik (by omega) h6 h7 _ _ _ hg.1 hg.2 (fun W hW kW => by
          have := ih (m - halfN n) (n - halfN n) true (left - 1) ba bt bs bl bw A ya yn yc ds W hW kW hA (by omega) (by omega) (by omega) (by omega) (by omega) (by omega) h7
          rw [show ((n - halfN n : Nat) : Int) = (n : Int) - (halfN n : Int) by omega, show ((m - halfN n : Nat) : Int) = (m : Int) - (halfN n : Int) by omega] at this
          exact this)
end Go.Proofs.YtkakoiaahgchmaaGreatDoor
namespace Go.Proofs.YtkakoiaahgchmaaGreatDoor
set_option maxRecDepth 100000
open Go.ChangeShapes Go.WideShapes Go.ChangeAt Go.RowKit
theorem size_f101 : (Tryz.prog.info? 119).map (·.size) = some 1 := by kernel_rfl
set_option maxHeartbeats 4000000 in
theorem grows_good (A B : List Int) (m n : Nat) (ya : Option Addr) (yn yc : Nat) (ds : List (List Int)) (w : World) (hA : Dg A) (hB : Dg B) (hm1 : 1 ≤ m) (hmn : m ≤ n) (hn2 : n ≤ 200) (hW : DigsAt w ya yn yc ds) (hyn : yn ≤ 1000000) (tab : ShaTab w) :
    Calls Tryz.prog 34 #[.agg (A.map (Value.int .u8)).toArray, .int .i64 m, .agg (B.map (Value.int .u8)).toArray, .int .i64 n, .slice ya yn yc] w fun e w' => e = .returned (.bool (decide ((groZ n A m n false ds yn).2 = 0) && decide ((groZ n A m n false ds yn).1.1 = A) && decide ((groZ n A m n false ds yn).1.2 = B))) ∧ Below w.heap.size w w' := by
  have hI1 : ¬ ((m : Int) < 1) := by omega
  have hI2 : ¬ ((n : Int) < (m : Int)) := by omega
  have hI3 : ¬ ((200 : Int) < (n : Int)) := by omega
  have CT := hid (fun (W : World) (k : Nat) (hk : W.heap.size = k) => (hk ▸ taker_any ya yn yc W : Calls Tryz.prog 76 #[.slice ya yn yc] W fun e w' => e = .returned (.tuple #[.func (.func 107) #[] #[.pointer (some ⟨k + 1, 0, none⟩), .pointer (some ⟨k, 0, none⟩)], .func (.func 108) #[] #[.pointer (some ⟨k + 1, 0, none⟩)]]) ∧ Below W.heap.size W w' ∧ Blk w' (k + 1) #[.int .i64 yn] 3 ∧ Blk w' k #[.slice ya yn yc] 33))
  have CA := hid (fun (W : World) (ba bt bs bl bw : Nat) (h : GEnv W ba bt bs bl bw A ya yn yc ds) (k : Blk W bl #[.int .i64 (yn : Int)] 3) => gro_any n m n false (yn : Int) ba bt bs bl bw A ya yn yc ds W h k hA hm1 hmn (Nat.le_refl _) hn2 (by omega) (by omega) hyn)
  have hwl := hW.length
  have hG := Dg.groZ hA hW.each n m n false (yn : Int) (by omega)
  have HX1 := hid hG.1
  have HX2 := hid hG.2
  clear hG hwl
  generalize (groZ n A m n false ds yn).1.1 = X1 at *
  generalize (groZ n A m n false ds yn).1.2 = X2 at *
  generalize (groZ n A m n false ds yn).2 = L2 at *
  have b1 := (Below.refl w.heap.size w).alloc (Nat.le_refl _) (.cells (A.map (Value.int .u8)).toArray 25 (0, 0))
  have b2 := b1.alloc b1.size (.cells (B.map (Value.int .u8)).toArray 25 (0, 0))
  have Ka := hid ((Blk.new (w := w) (n := w.heap.size) rfl (A.map (Value.int .u8)).toArray 25).old (.cells (B.map (Value.int .u8)).toArray 25 (0, 0)))
  have Kb := hid (Blk.new (w := (w.alloc (.cells (A.map (Value.int .u8)).toArray 25 (0, 0)))) (n := w.heap.size + 1) (by simp only [World.size_alloc]) (B.map (Value.int .u8)).toArray 25)
  have Hb := hid b2
  have hbz := b2.size
  have Hbs := hid (show w.heap.size + 1 + 1 = ((w.alloc (.cells (A.map (Value.int .u8)).toArray 25 (0, 0))).alloc (.cells (B.map (Value.int .u8)).toArray 25 (0, 0))).heap.size by simp only [World.size_alloc])
  have Htab := hid tab
  clear b1 b2 tab 
  go_enter Tryz.func34, Tryz.ntmps34
  go_wp2_with fail
  refine (CT.out _ (w.heap.size + 1 + 1) (by simp only [World.size_alloc])).mono ?_
  rintro e w1 ⟨rfl, b1, kl1, kw1⟩
  have Kl1 := hid kl1
  have Kw1 := hid kw1
  have HBw1 := hid (Below.on Hb.out b1)
  have hsw1 := HBw1.out.size
  have Kaw1 := hid (Ka.out.below b1)
  have Kbw1 := hid (Kb.out.below b1)
  have hs11 : w.heap.size + 1 + 1 + 1 < w1.heap.size := kl1.lt
  clear b1 kl1 kw1
  go_wp2_with (first
     | (
        refine wpList_store_cell_q rfl 116 _ _ rfl (w1.heap.size) 0 (.func (.func 107) #[] #[.pointer (some ⟨w.heap.size + 1 + 1 + 1, 0, none⟩), .pointer (some ⟨w.heap.size + 1 + 1, 0, none⟩)]) rfl rfl rfl rfl #[.nilFunc] 116 (Blk.new rfl #[.nilFunc] 116) (by simp) size_f96 ?_
        intro w2 hb2 hk2
        have h2 := hb2.below ((Below.refl w1.heap.size w1).alloc (Nat.le_refl _) _) (by simp only [World.size_alloc]; omega) (Nat.le_refl _)
        have HB2 := hid (Below.on HBw1.out h2)
        have Kt2 := hid (show Blk w2 w1.heap.size #[.func (.func 107) #[] #[.pointer (some ⟨w.heap.size + 1 + 1 + 1, 0, none⟩), .pointer (some ⟨w.heap.size + 1 + 1, 0, none⟩)]] 116 from hk2)
        have Ka2 := hid (Kaw1.out.below h2)
        have Kb2 := hid (Kbw1.out.below h2)
        have Kl2 := hid (Kl1.out.below h2)
        have Kw2 := hid (Kw1.out.below h2)
        have hs2 := Kt2.out.lt
        clear hb2 hk2 h2)
     | (
        refine wpList_store_cell_q rfl 119 _ _ rfl (w2.heap.size) 0 (.func (.func 77) #[] #[.pointer (some ⟨w.heap.size, 0, none⟩), .pointer (some ⟨w1.heap.size, 0, none⟩), .pointer (some ⟨w2.heap.size, 0, none⟩)]) rfl rfl rfl rfl #[.nilFunc] 119 (Blk.new rfl #[.nilFunc] 119) (by simp) size_f101 ?_
        intro w3 hb3 hk3
        have h3 := hb3.below ((Below.refl w2.heap.size w2).alloc (Nat.le_refl _) _) (by simp only [World.size_alloc]; omega) (Nat.le_refl _)
        have HB3 := hid (Below.on HB2.out h3)
        have Kg3 := hid (show Blk w3 w2.heap.size #[.func (.func 77) #[] #[.pointer (some ⟨w.heap.size, 0, none⟩), .pointer (some ⟨w1.heap.size, 0, none⟩), .pointer (some ⟨w2.heap.size, 0, none⟩)]] 119 from hk3)
        have Ka3 := hid (Ka2.out.below h3)
        have Kb3 := hid (Kb2.out.below h3)
        have Kt3 := hid (Kt2.out.below h3)
        have Kl3 := hid (Kl2.out.below h3)
        have Kw3 := hid (Kw2.out.below h3)
        have HE3 := hid (GEnv.mk (w := w3) (ba := w.heap.size) (bt := w1.heap.size) (bs := w2.heap.size) (bl := w.heap.size + 1 + 1 + 1) (bw := w.heap.size + 1 + 1) Ka3.out Kt3.out Kg3.out Kw3.out (hW.below HB3.out) (Htab.out.below HB3.out) (by omega) (by omega) (by omega) (by omega))
        have ca3 : w3.cell? ⟨w2.heap.size, 0, none⟩ = some (.func (.func 77) #[] #[.pointer (some ⟨w.heap.size, 0, none⟩), .pointer (some ⟨w1.heap.size, 0, none⟩), .pointer (some ⟨w2.heap.size, 0, none⟩)]) := by rw [Kg3.out.cell]; rfl
        clear hb3 hk3 h3))
  refine (CA.out _ _ _ _ _ _ HE3.out Kl3.out).mono ?_
  rintro e w4 ⟨rfl, b4, k4⟩
  have HB4 := hid (b4.below HB3.out HB3.out.size (by omega))
  have Ka4 := hid (b4.blk Ka3.out (by omega))
  have Kb4 := hid (b4.blk Kb3.out (by omega))
  have Kl4 := hid k4
  have hs4 := b4.size
  clear b4 k4
  go_wp2_with (first
     | (
        refine wpList_store_blk rfl 25 _ _ rfl (w4.heap.size) (X1.map (Value.int .u8)).toArray rfl rfl _ 25 ((Blk.new rfl (byteCells 32 []) _).old _) 32 size_digest zsize HX1.out.size (ints_one _ _) ?_
        intro w5 hb5 hk5
        have h5 := hb5.below (((Below.refl w4.heap.size w4).alloc (Nat.le_refl _) _).alloc (by simp only [World.size_alloc]; omega) _) (by simp only [World.size_alloc]; omega) (Nat.le_refl _)
        have H5 := hid h5
        have Ku5 := hid hk5
        have Kv5 := hid (hb5.blk (Blk.new (n := w4.heap.size + 1) (by simp only [World.size_alloc]) (byteCells 32 []) 25) (by omega))
        clear hb5 hk5 h5)
     | (
        refine wpList_store_blk rfl 25 _ _ rfl (w4.heap.size + 1) (X2.map (Value.int .u8)).toArray rfl rfl _ 25 Kv5.out 32 size_digest zsize HX2.out.size (ints_one _ _) ?_
        intro w6 hb6 hk6
        have h6 := hb6.below H5.out H5.out.size (by omega)
        have HB6 := hid (Below.on HB4.out h6)
        have Ku6 := hid (hb6.blk Ku5.out (by omega))
        have Kv6 := hid hk6
        have Ka6 := hid (Ka4.out.below h6)
        have Kb6 := hid (Kb4.out.below h6)
        have Kl6 := hid (Kl4.out.below h6)
        clear hb6 hk6 h6))
  refine (done_any (w.heap.size + 1 + 1 + 1) L2 _ Kl6.out).mono ?_
  rintro e wz ⟨rfl, hwz⟩
  have hwz := hwz.symm
  subst hwz
  by_cases hz : L2 = 0
  · rw [decide_eq_true hz]
    by_cases hx : X1 = A
    · have q1 := fun W => eqD X1 A HX1.out.len hA.len W
      have q2 := fun W => eqD X2 B HX2.out.len hB.len W
      rw [decide_eq_true hx] at q1
      have HXX := hid hx
      clear hx
      go_wp2_with (first | (refine wpList_load_blk_if (by first | rfl | go_simp) 25 _ rfl (w4.heap.size) rfl _ 25 Ku6.out _ Tryz.underlying25 rfl 32 size_digest HX1.out.size ?_) | (refine wpList_load_blk_if (by first | rfl | go_simp) 25 _ rfl (w.heap.size) rfl _ 25 Ka6.out _ Tryz.underlying25 rfl 32 size_digest hA.size ?_) | (refine wpList_load_blk_if (by first | rfl | go_simp) 25 _ rfl (w4.heap.size + 1) rfl _ 25 Kv6.out _ Tryz.underlying25 rfl 32 size_digest HX2.out.size ?_) | (refine wpList_load_blk_if (by first | rfl | go_simp) 25 _ rfl (w.heap.size + 1) rfl _ 25 Kb6.out _ Tryz.underlying25 rfl 32 size_digest hB.size ?_))
      go_returns
      exact ⟨by first | rfl | simp [hz, HXX.out], HB6.out⟩
    · have q1 := fun W => eqD X1 A HX1.out.len hA.len W
      rw [decide_eq_false hx] at q1
      go_wp2_with (first | (refine wpList_load_blk_if (by first | rfl | go_simp) 25 _ rfl (w4.heap.size) rfl _ 25 Ku6.out _ Tryz.underlying25 rfl 32 size_digest HX1.out.size ?_) | (refine wpList_load_blk_if (by first | rfl | go_simp) 25 _ rfl (w.heap.size) rfl _ 25 Ka6.out _ Tryz.underlying25 rfl 32 size_digest hA.size ?_))
      go_returns
      exact ⟨by first | rfl | simp [hz, hx], HB6.out⟩
  · rw [decide_eq_false hz]
    go_wp2_with (fail)
    go_returns
    exact ⟨by first | rfl | simp [hz], HB6.out⟩
end Go.Proofs.YtkakoiaahgchmaaGreatDoor
namespace Go.Proofs.YtkakoiaahgchmaaGreatDoor
set_option maxRecDepth 100000
open Go.ChangeShapes Go.WideShapes Go.ChangeAt Go.RowKit
/-- Climbing from a beginning, as the reference does it: with the digests that are left. -/
def bothR : Nat → List Int → Nat → Nat → Bool → List (List Int) → (List Int × List Int) × Bool
  | 0, A, _, _, _, _ => ((A, A), false)
  | f + 1, A, m, n, cut, ds => if m = n then (if cut then (if ds.length = 1 then ((ds.getD 0 [], ds.getD 0 []), true) else ((A, A), false)) else ((A, A), decide (ds.length = 0)))
    else if ds.length = 0 then ((A, A), false)
    else if m ≤ halfN n then (((bothR f A m (halfN n) cut (ds.take (ds.length - 1))).1.1, nodeL (bothR f A m (halfN n) cut (ds.take (ds.length - 1))).1.2 (ds.getD (ds.length - 1) [])), (bothR f A m (halfN n) cut (ds.take (ds.length - 1))).2)
    else ((nodeL (ds.getD (ds.length - 1) []) (bothR f A (m - halfN n) (n - halfN n) true (ds.take (ds.length - 1))).1.1, nodeL (ds.getD (ds.length - 1) []) (bothR f A (m - halfN n) (n - halfN n) true (ds.take (ds.length - 1))).1.2), (bothR f A (m - halfN n) (n - halfN n) true (ds.take (ds.length - 1))).2)
end Go.Proofs.YtkakoiaahgchmaaGreatDoor
namespace Go.Proofs.YtkakoiaahgchmaaGreatDoor
set_option maxRecDepth 100000
open Go.RowKit
section
variable {P : Program} {ops : Array Oper} {md : Region.Mode}
/-- The walk, with the blocks that it has met. -/
def WalkD (P : Program) (ops : Array Oper) (R : World → World → Prop) (w : World) (Fin : Act → World → Prop) : List (Nd × List Nat × List Nat) → Pend → List Nat → Act → (World → Prop) → (World → Prop) → Prop
  | [], _, _, A, F, G => ∀ w1, R w w1 → F w1 → G w1 → Fin A w1
  | (.c j, lv, al) :: ph, pd, ks, A, F, G => ∃ o, ops[j]? = some o ∧ ∃ Fact Gact : Value → World → Prop, (∀ v w' w'', R w w' → Fact v w' → R w' w'' → Fact v w'') ∧ (∀ v w' w'', Gact v w' → Below w'.heap.size w' w'' → Gact v w'') ∧
      (∀ w1, R w w1 → F w1 → G w1 → NdOK P ops R A w1 (fun v w2 => Fact v w2 ∧ Gact v w2) o) ∧
      ∀ v w0, R w w0 → F w0 → Fact v w0 → After P ops R w (fun w1 => F w1 ∧ Fact v w1) (fun pd' A' => WalkD P ops R w Fin ph pd' ks A' (fun w1 => F w1 ∧ Fact v w1) (Gact v)) lv al pd (A.put o.dst v)
  | (.b j, lv, al) :: ph, pd, ks, A, F, G => ∃ o, ops[j]? = some o ∧ ∃ mk obj, (j, mk, obj) ∈ pd ∧
      ∀ b w0, R w w0 → F w0 → w.heap.size ≤ b → b ∉ ks → w0.heap[b]? = some obj → After P ops R w (fun w1 => F w1 ∧ w1.heap[b]? = some obj) (fun pd' A' => WalkD P ops R w Fin ph pd' (b :: ks) A' (fun w1 => F w1 ∧ w1.heap[b]? = some obj) G) lv al pd (A.put o.dst (mk b))
/-- The blocks of the operations that have come up are unlike. -/
structure DI (ops : Array Oper) (w : World) (from_ : List Nat) (pd : Pend) (listed : Array Bool) (a' : Act) (w' : World) (ks : List Nat) (β : Nat → Nat) : Prop where
  dl : ∀ p ∈ pd, p.1 ∈ from_ → listed.getD p.1 false = true
  lt : ∀ p ∈ pd, listed.getD p.1 false = true → β p.1 < w'.heap.size
  on : ∀ p ∈ pd, p.1 ∉ from_ → listed.getD p.1 false = true → w.heap.size ≤ β p.1 ∧ w'.heap[β p.1]? = some p.2.2 ∧ ∀ d, (ops[p.1]?).bind (·.dst) = some d → a'.tmps[d]? = slotV a'.tmps.size d (p.2.1 (β p.1))
  inj : ∀ p ∈ pd, ∀ q ∈ pd, listed.getD p.1 false = true → listed.getD q.1 false = true → p.1 ≠ q.1 → β p.1 ≠ β q.1
  kn : ∀ k ∈ ks, ∃ p ∈ pd, p.1 ∈ from_ ∧ β p.1 = k
variable {Q : Exit → Act → World → Prop}
end
end Go.Proofs.YtkakoiaahgchmaaGreatDoor
namespace Go.Proofs.YtkakoiaahgchmaaGreatDoor
set_option maxRecDepth 100000
open Go.ChangeShapes Go.WideShapes Go.ChangeAt Go.RowKit
/-- The empty node of a level. -/
def emptyL : Nat → List Int
  | 0 => sumZ [2]
  | k + 1 => nodeL (emptyL k) (emptyL k)
theorem Dg.emptyL (k : Nat) : Dg (emptyL k) := by
  cases k with
  | zero => exact Dg.sum _
  | succ k => exact Dg.nodeL _ _
/-- The first empty nodes. -/
def empN (n : Nat) : List (List Int) := (List.range n).map emptyL
theorem empN_length (n : Nat) : (empN n).length = n := by simp [empN]
theorem empN_each (n : Nat) : ∀ d ∈ empN n, Dg d := fun d hd => by
  obtain ⟨i, _, rfl⟩ := List.mem_map.1 hd
  exact Dg.emptyL i
theorem empN_succ (n : Nat) : empN (n + 1) = empN n ++ [emptyL n] := by simp [empN, List.range_succ]
theorem empN_get {n k : Nat} (h : k < n) : (empN n).getD k [] = emptyL k := by simp [empN, h]
/-- The row, while it is filled. -/
@[irreducible] def fillE (m k : Nat) : List (List Int) := empN k ++ List.replicate (m - k) zD
theorem fillE_length {m k : Nat} (h : k ≤ m) : (fillE m k).length = m := by
  simp only [fillE, List.length_append, empN_length, List.length_replicate]
  omega
theorem fillE_each (m k : Nat) : ∀ d ∈ fillE m k, Dg d := fun d hd => by
  unfold fillE at hd
  rcases List.mem_append.1 hd with hd | hd
  · exact empN_each k d hd
  · exact zRow _ d hd
theorem fillE_set {m k : Nat} (h : k < m) : (fillE m k).set k (emptyL k) = fillE m (k + 1) := by
  unfold fillE
  rw [List.set_append_right _ _ (by rw [empN_length]; exact Nat.le_refl _), empN_length, Nat.sub_self, show m - k = (m - (k + 1)) + 1 by omega, List.replicate_succ, List.set_cons_zero, empN_succ, List.append_assoc]
  rfl
theorem fillE_zero (m : Nat) : fillE m 0 = List.replicate m zD := by simp [fillE, empN]
theorem fillE_done (m : Nat) : fillE m m = empN m := by simp [fillE]
theorem fillE_get {m k j : Nat} (h : j < k) : (fillE m k).getD j [] = emptyL j := by
  unfold fillE
  rw [List.getD_eq_getElem?_getD, List.getElem?_append_left (by rw [empN_length]; exact h), ← List.getD_eq_getElem?_getD, empN_get h]
theorem dig_rng {w : World} {g : Nat} {ds : List (List Int)} {T : TypeId} (hk : Blk w g (dcs ds) T) (hds : ∀ d ∈ ds, Dg d) {j : Nat} (hj : j < ds.length) : w.rangeAt g (0 + j * 32) ((ds.getD j []).map (Value.int .u8)) := by
  rw [Nat.zero_add]
  exact hk.digs hds j hj
set_option maxHeartbeats 4000000 in
theorem empty_any (w : World) (tab : ShaTab w) :
    Calls Tryz.prog 118 #[] w fun e w' => e = .returned (.slice (some ⟨w.heap.size, 0, none⟩) 257 257) ∧ Below w.heap.size w w' ∧ Blk w' w.heap.size (dcs (empN 257)) 25 := by
  have hmk := fun W : World => make_digs 257 257 rfl (by omega) W
  rw [← fillE_zero 257] at hmk
  have CS := hid (fun (W : World) (g g0 : Nat) (h : Blk W g #[.slice (some ⟨g0, 0, none⟩) 1 1] 37) (h0 : Blk W g0 (([2] : List Int).map (Value.int .u8)).toArray 5) (t : ShaTab W) => sum_any (some ⟨g, 0, none⟩) 1 1 [[2]] W (TextsAt.of_blk h rfl (Nat.le_refl _) (by omega) fun j hj => by
    match j, hj with
    | 0, _ => exact ⟨_, _, _, rfl, TextAt.of_ints h0 rfl (by omega) (by simp)⟩) (by simp only [sumLen, List.map_cons, List.map_nil, List.sum_cons, List.sum_nil, List.length_cons, List.length_nil]; omega) t)
  rw [show ([[2]] : List (List Int)).flatten = [2] by simp, show sumZ [2] = emptyL 0 from rfl] at CS
  have Htab := hid tab
  go_enter Tryz.func118, Tryz.ntmps118
  go_wp2_with fail
  have c0 := (Below.refl w.heap.size w).alloc (Nat.le_refl _) (.cells (dcs (fillE 257 0)) 25 (0, 0))
  have c1 := c0.alloc c0.size (.cells #[.int .u8 2] 5 (0, 0))
  have c2 := c1.alloc c1.size (.cells #[.slice (some ⟨w.heap.size + 1, 0, none⟩) 1 1] 37 (0, 0))
  have k1 : Blk (((w.alloc (.cells (dcs (fillE 257 0)) 25 (0, 0))).alloc (.cells #[.int .u8 2] 5 (0, 0))).alloc (.cells #[.slice (some ⟨w.heap.size + 1, 0, none⟩) 1 1] 37 (0, 0))) (w.heap.size + 1) (([2] : List Int).map (Value.int .u8)).toArray 5 := (Blk.new (w := w.alloc (.cells (dcs (fillE 257 0)) 25 (0, 0))) (n := w.heap.size + 1) (by simp only [World.size_alloc]) #[.int .u8 2] 5).old (.cells #[.slice (some ⟨w.heap.size + 1, 0, none⟩) 1 1] 37 (0, 0))
  have k2 : Blk (((w.alloc (.cells (dcs (fillE 257 0)) 25 (0, 0))).alloc (.cells #[.int .u8 2] 5 (0, 0))).alloc (.cells #[.slice (some ⟨w.heap.size + 1, 0, none⟩) 1 1] 37 (0, 0))) (w.heap.size + 1 + 1) #[.slice (some ⟨w.heap.size + 1, 0, none⟩) 1 1] 37 := Blk.new (w := (w.alloc (.cells (dcs (fillE 257 0)) 25 (0, 0))).alloc (.cells #[.int .u8 2] 5 (0, 0))) (n := w.heap.size + 1 + 1) (by simp only [World.size_alloc]) _ _
  have k0 : Blk (((w.alloc (.cells (dcs (fillE 257 0)) 25 (0, 0))).alloc (.cells #[.int .u8 2] 5 (0, 0))).alloc (.cells #[.slice (some ⟨w.heap.size + 1, 0, none⟩) 1 1] 37 (0, 0))) w.heap.size (dcs (fillE 257 0)) 25 := ((Blk.new rfl _ _).old (.cells #[.int .u8 2] 5 (0, 0))).old (.cells #[.slice (some ⟨w.heap.size + 1, 0, none⟩) 1 1] 37 (0, 0))
  refine (CS.out _ _ _ k2 k1 (Htab.out.below c2)).mono ?_
  rintro e w5 ⟨rfl, b5⟩
  have Hb5 := hid (Below.on c2 b5)
  have Kg5 := hid (k0.below b5)
  have hs5 := Hb5.out.size
  have hg5 := Kg5.out.lt
  clear c0 c1 c2 k0 k1 k2 b5
  go_wp2_with (first
     | (refine wpList_index_digs rfl 33 _ _ rfl Tryz.underlying33 size_digest w.heap.size 0 257 257 rfl _ _ rfl 0 rfl (by omega) ?_)
     | (
        refine wpList_store_dig rfl _ _ _ rfl w.heap.size 0 (emptyL 0) rfl rfl _ 25 Kg5.out (fillE_each 257 0) (Dg.emptyL 0) (by rw [fillE_length (by omega)]; omega) size_digest ?_
        intro w6 hb6 hk6
        rw [fillE_set (by omega)] at hk6
        have Kg6 := hid hk6
        have Hb6 := hid (hb6.below Hb5.out hs5 (Nat.le_refl _))
        clear hb6 hk6))
  go_loopw [9] (fun v wr => ∃ k : Nat, k ≤ 256 ∧ v = .int .i64 k ∧ Blk wr w.heap.size (dcs (fillE 257 (k + 1))) 25 ∧ Below w.heap.size w wr) (fun v _ => 256 - (intOf v).toNat)
  case atStart => exact ⟨0, Nat.zero_le _, rfl, Kg6.out, Hb6.out⟩
  case round =>
    clear Kg6 Hb6 Kg5 Hb5
    obtain ⟨k, hk, rfl, kg, bel⟩ := hrel
    have Kgwr := hid kg
    have HBwr := hid bel
    have hswr := bel.size
    have hgwr := kg.lt
    clear kg bel
    by_cases hlt : k < 256
    · skip
      have hc0 : (k : Int) < 256 := by omega
      go_wp2_with fail
      have HE := hid (Dg.emptyL k)
      have Hrg := hid (dig_rng Kgwr.out (fillE_each 257 (k + 1)) (j := k) (by rw [fillE_length (by omega)]; omega))
      rw [fillE_get (by omega)] at Hrg
      have HNX := hid (show emptyL (k + 1) = nodeL (emptyL k) (emptyL k) from rfl)
      have CN := hid (fun (W : World) (t : ShaTab W) => lonode_any (emptyL k) (emptyL k) W HE.out HE.out t)
      rw [← HNX.out] at CN
      have HX := hid (Dg.emptyL (k + 1))
      generalize hX1 : emptyL (k + 1) = X at *
      generalize emptyL k = E at *
      refine wp_region_flow 12 (List.range 12) [] [] (by kernel_rfl) (by kernel_rfl) ?_
      apply Exists.intro
      refine ⟨fun w0 hb0 hF0 => ?_, ?_⟩
      · skip
        have c0 := fun e : Ext w0 => CN.out e.at_ (Htab.out.below (Below.on (Below.on HBwr.out hb0) e.same))
        have yr : ∀ w', (∃ x : Ext w0, w' = x.at_) → w'.rangeAt w.heap.size (0 + k * 32) (E.map (Value.int .u8)) := fun w' ⟨x, hx⟩ j v hv => by rw [hx]; exact ((Below.on hb0 x.same).cell (p := ⟨w.heap.size, 0 + k * 32 + j, none⟩) hgwr).trans (Hrg.out j v hv)
        simp only [pick, List.range, List.range.loop, List.getElem?_toArray, List.getElem?_cons_succ, List.getElem?_cons_zero, Option.toList_some, List.cons_append, List.nil_append]
        repeat (first | (go_big_quiet_want; refine quiet_index_digs 33 _ _ rfl Tryz.underlying33 size_digest w.heap.size 0 257 257 rfl _ _ rfl k rfl (by omega) ?_; go_big_quiet_on; simp only [Act.put, List.setIfInBounds_toArray, List.set_cons_zero, List.set_cons_succ]) | (go_big_quiet_want; refine quiet_load_mid 25 _ rfl w.heap.size (0 + k * 32) rfl _ yr _ Tryz.underlying25 rfl (by rw [List.length_map, HE.out.len]; exact size_digest) ?_; go_big_quiet_on; simp only [Act.put, List.setIfInBounds_toArray, List.set_cons_zero, List.set_cons_succ]) | go_big_quiet_step (first | (go_at_call 79; with_reducible exact Calls.ext (c0 _))))
        exact wpQuiet_nil rfl
      refine AlChk.nil ?_
      refine Walk.fin fun w21 hw21 _ _ => ?_
      simp only [List.drop_succ_cons, List.drop_zero]
      have HBw21 := hid (Below.on HBwr.out hw21)
      have hsw21 := HBw21.out.size
      have Hw21 := hw21
      clear hw21
      go_wp2_with (first
         | (refine wpList_index_digs rfl 33 _ _ rfl Tryz.underlying33 size_digest w.heap.size 0 257 257 rfl _ _ rfl (k + 1) rfl (by omega) ?_)
         | (
            refine wpList_store_dig rfl _ _ _ rfl w.heap.size (k + 1) X rfl rfl _ 25 (Kgwr.out.below Hw21) (fillE_each 257 (k + 1)) HX.out (by rw [fillE_length (by omega)]; omega) size_digest ?_
            intro w9 hb9 hk9
            rw [← hX1, fillE_set (by omega)] at hk9
            have Kg9 := hid hk9
            have Hb9 := hid (hb9.below HBw21.out HBw21.out.size (Nat.le_refl _))
            clear hb9 hk9))
      exact ⟨⟨k + 1, by omega, by first | rfl | simp, Kg9.out, Hb9.out⟩, by simp [intOf]; omega⟩
    · skip
      have hk7 : k = 256 := by omega
      subst hk7
      have hc0 : ¬ ((256 : Int) < 256) := by omega
      go_wp2_with fail
      go_returns
      rw [show 256 + 1 = 257 from rfl, fillE_done] at Kgwr
      exact ⟨rfl, HBwr.out, Kgwr.out⟩
theorem But.ownD {b base : Nat} {w w' : World} {v : Value} {ds : List (List Int)} (hb : But b w w') (h : OwnD w base 25 v ds) (hlt : b < base) : OwnD w' base 25 v ds := by
  obtain ⟨⟨h1, h2⟩, h3⟩ := h
  refine ⟨⟨h1, h2.imp id ?_⟩, h3⟩
  rintro ⟨g, cap, cur, rfl, hg, hh, hle, hmx, hsz, htk⟩
  have hk : Blk w g cur 25 := hh
  exact ⟨g, cap, cur, rfl, hg, hb.blk hk (by omega), hle, hmx, hsz, htk⟩
set_option maxHeartbeats 4000000 in
theorem refempty_any (w : World) :
    Calls Tryz.prog 49 #[] w fun e w' => ∃ v, e = .returned v ∧ Below w.heap.size w w' ∧ OwnD w' w.heap.size 25 v (empN 257) := by
  have Hb := hid (Below.refl w.heap.size w)
  obtain ⟨i0, hi, hz0, hz1, hz2⟩ := info_parts info_dig
  go_enter Tryz.func49, Tryz.ntmps49
  go_wp2_with fail
  have c0 := (Below.refl w.heap.size w).alloc (Nat.le_refl _) (.cells #[.int .u8 2] 5 (0, 0))
  refine (refsum_any (some ⟨w.heap.size, 0, none⟩) 1 1 [2] (w.alloc (.cells #[.int .u8 2] 5 (0, 0))) (TextAt.of_ints (Blk.new rfl #[.int .u8 2] 5) rfl (by omega) (by simp)) (by omega)).mono ?_
  rintro e w1 ⟨rfl, b1⟩
  have HBw1 := hid (Below.on c0 b1)
  have hsw1 := HBw1.out.size
  rw [show sumZ [2] = emptyL 0 from rfl]
  have HE0 := hid (Dg.emptyL 0)
  generalize hE0 : emptyL 0 = E0 at *
  clear c0 b1
  go_wp2_with (
        refine wpList_store_blk rfl 25 _ _ rfl (w1.heap.size) (E0.map (Value.int .u8)).toArray rfl rfl _ 25 (Blk.new rfl (byteCells 32 []) _) 32 size_digest zsize HE0.out.size (ints_one _ _) ?_
        intro w2 hbw2 hkw2
        have hw2 := hbw2.below ((Below.refl w1.heap.size w1).alloc (Nat.le_refl _) _) (by simp only [World.size_alloc]; omega) (Nat.le_refl _)
        have HBw2 := hid (Below.on HBw1.out hw2)
        have hsw2 := HBw2.out.size
        have Knw2 := hid hkw2
        have hfw2 : w.heap.size ≤ w1.heap.size := HBw1.out.size
        clear hbw2 hkw2 hw2)
  go_loopw [1, 3] (fun v iv wr => ∃ k : Nat, k ≤ 257 ∧ iv = .int .i64 k ∧ Blk wr w1.heap.size ((emptyL k).map (Value.int .u8)).toArray 25 ∧ OwnD wr (w1.heap.size + 1) 25 v (empN k) ∧ Below w.heap.size w wr) (fun _ iv _ => 257 - (intOf iv).toNat)
  case atStart => exact ⟨0, Nat.zero_le _, rfl, by rw [hE0]; exact Knw2.out, OwnD.nil _ _ _, HBw2.out⟩
  case round =>
    obtain ⟨k, hk, rfl, kn, ho, bel⟩ := hrel
    have Knwr := hid kn
    have HOwr := hid ho
    have HBwr := hid bel
    have hswr := bel.size
    have hnwr := kn.lt
    have hel := empN_length k
    clear kn ho bel
    by_cases hlt : k < 257
    · skip
      have hc0 : (k : Int) ≤ 256 := by omega
      have HE := hid (Dg.emptyL k)
      have HNX := hid (show emptyL (k + 1) = nodeL (emptyL k) (emptyL k) from rfl)
      have HSX := hid (empN_succ k)
      have CN := hid (fun (W : World) => refnode_any (emptyL k) (emptyL k) W HE.out HE.out)
      rw [← HNX.out] at CN
      have HX := hid (Dg.emptyL (k + 1))
      generalize hX1 : emptyL (k + 1) = X at *
      generalize hE1 : emptyL k = E at *
      go_wp2_with (first
         | (refine wpList_build_one rfl _ rfl rfl HE.out ?_)
         | (
            refine wpList_append_dig rfl _ _ rfl Tryz.underlying33 hi hz0 zD_cells32 hz1 hz2 rfl (HOwr.out.below ((Below.refl wr.heap.size wr).alloc (Nat.le_refl _) (.cells (E.map (Value.int .u8)).toArray 25 (0, 0)))) rfl (Blk.new rfl (E.map (Value.int .u8)).toArray 25) HE.out (by omega) (by rw [World.size_alloc]; omega) ?_
            intro v8 w8 ho8 hg8 hb8
            rw [← HSX.out] at ho8
            have HO8 := hid ho8
            have HB8 := hid (Below.trans (HBwr.out.alloc hswr (.cells (E.map (Value.int .u8)).toArray 25 (0, 0))) (hb8.mono (by omega)))
            have Kn8 := hid ((Knwr.out.old (.cells (E.map (Value.int .u8)).toArray 25 (0, 0))).belowB (by omega) hb8)
            have hs8 := HB8.out.size
            have hn8 := Kn8.out.lt
            clear ho8 hg8 hb8)
         | (refine wpList_load_blk rfl 25 _ rfl (w1.heap.size) rfl _ 25 Knwr.out _ Tryz.underlying25 rfl 32 size_digest HE.out.size ?_)
         | (refine wpList_load_blk rfl 25 _ rfl (w1.heap.size) rfl _ 25 Kn8.out _ Tryz.underlying25 rfl 32 size_digest HE.out.size ?_))
      refine (CN.out _).mono ?_
      rintro e w9 ⟨rfl, b9⟩
      have HB9 := hid (Below.on HB8.out b9)
      have HO9 := hid (HO8.out.below b9)
      have Kn9 := hid (Kn8.out.below b9)
      have hs9 := HB9.out.size
      clear b9
      go_wp2_with (
            refine wpList_store_blk rfl 25 _ _ rfl (w1.heap.size) (X.map (Value.int .u8)).toArray rfl rfl _ 25 Kn9.out 32 size_digest HE.out.size HX.out.size (ints_one _ _) ?_
            intro w10 hb10 hk10
            have Hk10 := hid hk10
            have Hb10 := hid (hb10.below HB9.out hs9 (by omega))
            have HO10 := hid (hb10.ownD HO9.out (by omega))
            clear hb10 hk10)
      exact ⟨⟨k + 1, by omega, by first | rfl | simp, by rw [hX1]; exact Hk10.out, HO10.out, Hb10.out⟩, by simp [intOf]; omega⟩
    · skip
      have hk7 : k = 257 := by omega
      subst hk7
      have hc0 : ¬ ((257 : Int) ≤ 256) := by omega
      go_wp2_with fail
      go_ret
      exact ⟨_, rfl, HBwr.out, HOwr.out.re (by omega)⟩
end Go.Proofs.YtkakoiaahgchmaaGreatDoor
namespace Go.Proofs.YtkakoiaahgchmaaGreatDoor
set_option maxRecDepth 100000
open Go.ChangeShapes Go.WideShapes Go.ChangeAt Go.RowKit
/-- What an entry's node is. -/
@[irreducible] def leafE (a b : List Int) : List Int := sumZ (0 :: (a ++ b))
theorem Dg.leafE (a b : List Int) : Dg (leafE a b) := by unfold Go.Proofs.YtkakoiaahgchmaaGreatDoor.leafE; exact Dg.sum _
/-- An entry's bytes. -/
def entL (a b : List Int) : List Int := a ++ b
theorem two_front {a b : List Int} (ha : Dg a) {w : World} {g : Nat} {T : TypeId} (h : Blk w g ((entL a b).map (Value.int .u8)).toArray T) : TextAt w (some ⟨g, 0, none⟩) 32 32 a :=
  TextAt.of_blk h ha.len (Nat.le_refl _) (by omega) ha.small fun j hj => by
    rw [List.getElem?_toArray, Nat.zero_add, entL, List.map_append, List.getElem?_append_left (by rw [List.length_map, ha.len]; exact hj), List.getElem?_map, List.getD_eq_getElem?_getD, List.getElem?_eq_getElem (by rw [ha.len]; exact hj)]
    rfl
theorem two_back {a b : List Int} (ha : Dg a) (hb : Dg b) {w : World} {g : Nat} {T : TypeId} (h : Blk w g ((entL a b).map (Value.int .u8)).toArray T) : TextAt w (some ⟨g, 32, none⟩) 32 32 b :=
  TextAt.of_blk h hb.len (Nat.le_refl _) (by omega) hb.small fun j hj => by
    rw [List.getElem?_toArray, entL, List.map_append, List.getElem?_append_right (by rw [List.length_map, ha.len]; omega), List.length_map, ha.len, show 32 + j - 32 = j by omega, List.getElem?_map, List.getD_eq_getElem?_getD, List.getElem?_eq_getElem (by rw [hb.len]; exact hj)]
    rfl
theorem two_size {a b : List Int} (ha : Dg a) (hb : Dg b) : ((entL a b).map (Value.int .u8)).toArray.size = 64 := by simp [entL, ha.len, hb.len]
set_option maxHeartbeats 4000000 in
theorem leaf_any_q (a b : List Int) (w : World) (ha : Dg a) (hb_ : Dg b) (tab : ShaTab w) :
    Calls Tryz.prog 90 #[.agg ((entL a b).map (Value.int .u8)).toArray] w fun e w' => e = .returned (.agg ((leafE a b).map (Value.int .u8)).toArray) ∧ Below w.heap.size w w' := by
  have CS := hid (fun (W : World) (g g0 : Nat) (h : Blk W g #[.slice (some ⟨g0, 0, none⟩) 1 1, .slice (some ⟨w.heap.size, 0, none⟩) 32 32, .slice (some ⟨w.heap.size, 32, none⟩) 32 32] 37) (h0 : Blk W g0 (([0] : List Int).map (Value.int .u8)).toArray 5) (ka : Blk W w.heap.size ((entL a b).map (Value.int .u8)).toArray 130) (t : ShaTab W) => sum_any (some ⟨g, 0, none⟩) 3 3 [[0], a, b] W (TextsAt.of_blk h rfl (Nat.le_refl _) (by omega) fun j hj => by
    match j, hj with
    | 0, _ => exact ⟨_, _, _, rfl, TextAt.of_ints h0 rfl (by omega) (by simp)⟩
    | 1, _ => exact ⟨_, _, _, rfl, two_front ha ka⟩
    | 2, _ => exact ⟨_, _, _, rfl, two_back ha hb_ ka⟩) (by simp only [sumLen, List.map_cons, List.map_nil, List.sum_cons, List.sum_nil, List.length_cons, List.length_nil, ha.len, hb_.len]; omega) t)
  have HX := hid (Dg.leafE a b)
  rw [show ([[0], a, b] : List (List Int)).flatten = 0 :: (a ++ b) by simp, show sumZ (0 :: (a ++ b)) = leafE a b by unfold leafE; rfl] at CS
  generalize leafE a b = X at *
  have b1 := (Below.refl w.heap.size w).alloc (Nat.le_refl _) (.cells ((entL a b).map (Value.int .u8)).toArray 130 (0, 0))
  have b2 := b1.alloc b1.size (.cells (byteCells 32 []) 25 (0, 0))
  have Kx := hid ((Blk.new (w := w) (n := w.heap.size) rfl ((entL a b).map (Value.int .u8)).toArray 130).old (.cells (byteCells 32 []) 25 (0, 0)))
  have Kr := hid (Blk.new (w := (w.alloc (.cells ((entL a b).map (Value.int .u8)).toArray 130 (0, 0)))) (n := w.heap.size + 1) (by simp only [World.size_alloc]) (byteCells 32 []) 25)
  have Hb := hid b2
  have hbz := b2.size
  have Hbs := hid (show w.heap.size + 1 + 1 = ((w.alloc (.cells ((entL a b).map (Value.int .u8)).toArray 130 (0, 0))).alloc (.cells (byteCells 32 []) 25 (0, 0))).heap.size by simp only [World.size_alloc])
  have Htab := hid tab
  clear b1 b2 tab 
  go_enter Tryz.func90, Tryz.ntmps90
  go_wp2_with fail
  refine wp_region_flow 7 [1, 2, 3, 4] [0] [(.b 0, [], [5]), (.b 5, [6], [])] (by kernel_rfl) (by kernel_rfl) ?_
  apply Exists.intro
  refine ⟨fun w0 hb0 hF0 => ?_, ?_⟩
  · skip
    simp only [pick, List.getElem?_toArray, List.getElem?_cons_succ, List.getElem?_cons_zero, Option.toList_some, List.cons_append, List.nil_append]
    repeat (first | go_big_quiet_step (fail))
    exact wpQuiet_nil rfl
  refine AlChk.one rfl (fun b => .slice (some ⟨b, 0, none⟩) 1 1) (.cells #[.int .u8 0] 5 (0, 0)) rfl (fun w3 hb3 hF3 => by go_simp) ?_
  refine AlChk.nil ?_
  refine Walk.blk rfl (fun b => .slice (some ⟨b, 0, none⟩) 1 1) (.cells #[.int .u8 0] 5 (0, 0)) (by simp) ?_
  intro b8 w1 hb1 hF1 hge1 _
  apply Exists.intro
  refine ⟨fun w2 hb2 hF2 => wpQuiet_nil rfl, ?_⟩
  refine AlChk.one rfl (fun b => .slice (some ⟨b, 0, none⟩) 3 3) (.cells #[.slice (some ⟨b8, 0, none⟩) 1 1, .slice (some ⟨w.heap.size, 0, none⟩) 32 32, .slice (some ⟨w.heap.size, 32, none⟩) 32 32] 37 (0, 0)) rfl (fun w3 hb3 hF3 => by go_simp) ?_
  refine AlChk.nil ?_
  refine Walk.blk rfl (fun b => .slice (some ⟨b, 0, none⟩) 3 3) (.cells #[.slice (some ⟨b8, 0, none⟩) 1 1, .slice (some ⟨w.heap.size, 0, none⟩) 32 32, .slice (some ⟨w.heap.size, 32, none⟩) 32 32] 37 (0, 0)) (by simp) ?_
  intro b9 w2 hb2 hF2 hge2 _
  apply Exists.intro
  refine ⟨fun w0 hb0 hF0 => ?_, ?_⟩
  · have k9 : Blk w0 b9 #[.slice (some ⟨b8, 0, none⟩) 1 1, .slice (some ⟨w.heap.size, 0, none⟩) 32 32, .slice (some ⟨w.heap.size, 32, none⟩) 32 32] 37 := hF0.2
    have k8 : Blk w0 b8 (([0] : List Int).map (Value.int .u8)).toArray 5 := hF0.1.2
    have hs := fun e : Ext w0 => CS.out e.at_ b9 b8 (k9.below e.same) (k8.below e.same) ((Kx.out.below hb0).below e.same) ((Htab.out.below (Below.on Hb.out hb0)).below e.same)
    simp only [pick, List.getElem?_toArray, List.getElem?_cons_succ, List.getElem?_cons_zero, Option.toList_some, List.cons_append, List.nil_append, Act.put, List.setIfInBounds_toArray, List.set_cons_zero, List.set_cons_succ]
    repeat (go_big_quiet_step (first | (go_at_call 86; exact Calls.ext (hs _))))
    exact wpQuiet_nil rfl
  refine AlChk.nil ?_
  refine Walk.fin fun w4 h4 _ _ => ?_
  simp only [List.drop_succ_cons, List.drop_zero]
  have HBw4 := hid (Below.on Hb.out h4)
  have hsw4 := HBw4.out.size
  have Kxw4 := hid (Kx.out.below h4)
  have Krw4 := hid (Kr.out.below h4)
  clear h4
  go_wp2_with (
      refine wpList_store_blk rfl 25 _ _ rfl (w.heap.size + 1) (X.map (Value.int .u8)).toArray rfl rfl _ 25 Krw4.out 32 size_digest zsize HX.out.size (ints_one _ _) ?_
      intro w9 hb9 hk9
      have HB9 := hid (hb9.below HBw4.out HBw4.out.size (by omega))
      have HK9 := hid hk9
      clear hb9 hk9)
  exact bodyPost_ret (v := .agg (X.map (Value.int .u8)).toArray) (results_blk Tryz.results90 _ (w.heap.size + 1) rfl _ 25 HK9.out _ Tryz.underlying25 rfl 32 size_digest HX.out.size) rfl ⟨rfl, HB9.out⟩
set_option maxHeartbeats 4000000 in
theorem refleafE_any (a b : List Int) (w : World) (ha : Dg a) (hb_ : Dg b) :
    Calls Tryz.prog 38 #[.agg ((entL a b).map (Value.int .u8)).toArray] w fun e w' => e = .returned (.agg ((leafE a b).map (Value.int .u8)).toArray) ∧ Below w.heap.size w w' := by
  have CS := hid (fun (x : Option Addr) (c : Nat) (W : World) (h : TextAt W x 65 c (0 :: (a ++ b))) => refsum_any x 65 c (0 :: (a ++ b)) W h (by omega))
  have HX := hid (Dg.leafE a b)
  rw [show sumZ (0 :: (a ++ b)) = leafE a b by unfold leafE; rfl] at CS
  generalize leafE a b = X at *
  have b1 := (Below.refl w.heap.size w).alloc (Nat.le_refl _) (.cells ((entL a b).map (Value.int .u8)).toArray 84 (0, 0))
  have b2 := b1.alloc b1.size (.cells (byteCells 32 []) 25 (0, 0))
  have Kx := hid ((Blk.new (w := w) (n := w.heap.size) rfl ((entL a b).map (Value.int .u8)).toArray 84).old (.cells (byteCells 32 []) 25 (0, 0)))
  have Kr := hid (Blk.new (w := (w.alloc (.cells ((entL a b).map (Value.int .u8)).toArray 84 (0, 0)))) (n := w.heap.size + 1) (by simp only [World.size_alloc]) (byteCells 32 []) 25)
  have Hb := hid b2
  have hbz := b2.size
  have Hbs := hid (show w.heap.size + 1 + 1 = ((w.alloc (.cells ((entL a b).map (Value.int .u8)).toArray 84 (0, 0))).alloc (.cells (byteCells 32 []) 25 (0, 0))).heap.size by simp only [World.size_alloc])
  clear b1 b2 
  go_enter Tryz.func38, Tryz.ntmps38
  go_wp2_with fail
  have HBB : Hid (w.heap.size + 1 + 1 ≤ ((w.alloc (.cells ((entL a b).map (Value.int .u8)).toArray 84 (0, 0))).alloc (.cells (byteCells 32 []) 25 (0, 0))).heap.size) := hid (Nat.le_of_eq Hbs.out)
  obtain ⟨i0, hi, hz0, hz1, hz2⟩ := info_parts info_byte
  refine FlowB.wp_region_typed (w.heap.size + 1 + 1) 5 6 [1, 2, 4, 5] [] [(.c 0, [], []), (.c 3, [], [])] (by kernel_rfl) (by kernel_rfl) ?_
  apply Exists.intro
  refine ⟨fun w0 hb0 hF0 => ?_, ?_⟩
  · simp only [pick, List.getElem?_toArray, List.getElem?_cons_succ, List.getElem?_cons_zero, Option.toList_some, List.cons_append, List.nil_append]
    repeat (go_big_quiet_step (fail))
    exact wpQuiet_nil rfl
  refine FlowB.AlChk.nil ?_
  refine FlowB.Walk.does rfl (fun _ _ => True) (fun v w' => OwnB w' (w.heap.size + 1 + 1) 5 v [0]) (fun v w' w'' _ h _ => h) (fun v w' w'' h k => h.below k) rfl (fun w5 hb5 hF5 _ => ?_) ?_
  · exact ⟨.slice (some ⟨w5.heap.size, 0, none⟩) 1 1, w5.alloc (.cells (([0] : List Int).map (Value.int .u8)).toArray 5), by first | (go_simp; done) | (go_simp; rfl), (FlowB.rel_typed _ _).of ((Below.refl _ _).alloc (Nat.le_refl _) _), trivial, OwnB.of_blk (Blk.new rfl _ _) (Nat.le_trans HBB.out hb5.size) rfl (by omega) (by simp)⟩
  rintro vl w5 hb5 hF5 _
  apply Exists.intro
  refine ⟨fun w4 hb4 hF4 => wpQuiet_nil rfl, ?_⟩
  refine FlowB.AlChk.nil ?_
  refine FlowB.Walk.does rfl (fun _ _ => True) (fun v w' => OwnB w' (w.heap.size + 1 + 1) 5 v ([0] ++ a)) (fun v w' w'' _ h _ => h) (fun v w' w'' h k => h.below k) rfl (fun w2 hb2 hF2 hG2 => ?_) ?_
  · have hbB := hb2.below (B := w.heap.size + 1 + 1) HBB.out
    obtain ⟨v', w', hr, q2, q3, q4⟩ := run_append_text (P := Tryz.prog) 37 Tryz.underlying37 hi hz0 hz1 hz2 hG2 (two_front ha (Kx.out.belowB (by omega) hbB)) (by simp) (Nat.le_trans HBB.out hb2.size)
    exact ⟨v', w', FlowB.exec_append rfl rfl rfl hr, hG2.typed (Nat.le_refl _) q3, trivial, q2⟩
  rintro v3 w3 hb3 hF3 _
  apply Exists.intro
  refine ⟨fun w2 hb2 hF2 => wpQuiet_nil rfl, ?_⟩
  refine FlowB.AlChk.nil ?_
  refine FlowB.Walk.fin fun w4 h4 _ hG4 => ?_
  simp only [List.drop_succ_cons, List.drop_zero]
  have hbB := h4.below (B := w.heap.size + 1 + 1) HBB.out
  have Kr4 := hid (Kr.out.belowB (by omega) hbB)
  have Kb4 := hid (Kx.out.belowB (by omega) hbB)
  have Hb4 := hid (Hb.out.trans (hbB.mono (by omega)))
  have Ho4 := hid (show OwnB w4 (w.heap.size + 1 + 1) 5 v3 ([0] ++ a) from hG4)
  have hsz4 : w.heap.size + 1 + 1 ≤ w4.heap.size := Nat.le_trans HBB.out h4.size
  clear h4 hG4 hbB Kr Kx Hb
  go_wp2_with (at_builtin; refine wpList_append_text rfl _ _ rfl Tryz.underlying37 hi hz0 hz1 hz2 rfl Ho4.out rfl (two_back ha hb_ Kb4.out) (by rw [List.length_append, ha.len]; simp) hsz4 ?_)
  intro v5 w5 own5 _ b5
  obtain ⟨a5, c5, rfl, hT5, _⟩ := own5.text
  rw [show (0 :: (a ++ b)).length = 65 by rw [List.length_cons, List.length_append, ha.len, hb_.len]] at hT5 ⊢
  have HT5 := hid hT5
  have HBw5 := hid (Hb4.out.trans (b5.mono (by omega)))
  have Krw5 := hid (Kr4.out.belowB (by omega) b5)
  clear own5 hT5 b5
  go_wp2_with fail
  refine (CS.out a5 c5 w5 HT5.out).mono ?_
  rintro e w6 ⟨rfl, b6⟩
  have HBw6 := hid (Below.on HBw5.out b6)
  have Krw6 := hid (Krw5.out.below b6)
  clear b6 HT5
  go_wp2_with (
      refine wpList_store_blk rfl 25 _ _ rfl (w.heap.size + 1) (X.map (Value.int .u8)).toArray rfl rfl _ 25 Krw6.out 32 size_digest zsize HX.out.size (ints_one _ _) ?_
      intro w9 hb9 hk9
      have HB9 := hid (hb9.below HBw6.out HBw6.out.size (by omega))
      have HK9 := hid hk9
      clear hb9 hk9)
  exact bodyPost_ret (v := .agg (X.map (Value.int .u8)).toArray) (results_blk Tryz.results38 _ (w.heap.size + 1) rfl _ 25 HK9.out _ Tryz.underlying25 rfl 32 size_digest HX.out.size) rfl ⟨rfl, HB9.out⟩
end Go.Proofs.YtkakoiaahgchmaaGreatDoor
namespace Go.Proofs.YtkakoiaahgchmaaGreatDoor
set_option maxRecDepth 100000
open Go.ChangeShapes Go.WideShapes Go.ChangeAt Go.RowKit
/-- On which side the node of a level is. -/
def bitL (d : List Int) (k : Nat) : Int := d.getD (31 - k / 8) 0 / 2 ^ (k % 8) % 2
/-- A byte of an index, turned down by a bit. -/
def halfB (d : List Int) (i : Nat) : Int := d.getD i 0 / 2 + (if i = 0 then 0 else d.getD (i - 1) 0 % 2 * 128)
def halfL (d : List Int) : List Int := (List.range 32).map (halfB d)
def halfP (d : List Int) (k : Nat) : List Int := (List.range k).map (halfB d) ++ List.replicate (32 - k) 0
theorem dg_at {d : List Int} (h : Dg d) (i : Nat) : 0 ≤ d.getD i 0 ∧ d.getD i 0 < 256 := by
  rw [List.getD_eq_getElem?_getD]
  by_cases hi : i < d.length
  · rw [List.getElem?_eq_getElem hi]
    exact h.small _ (List.getElem_mem hi)
  · rw [List.getElem?_eq_none (by omega)]
    simp
theorem halfB_small {d : List Int} (h : Dg d) (i : Nat) : 0 ≤ halfB d i ∧ halfB d i < 256 := by
  have h1 := dg_at h i
  have h2 := dg_at h (i - 1)
  unfold halfB
  split <;> omega
theorem Dg.half {d : List Int} (h : Dg d) : Dg (halfL d) := ⟨by simp [halfL], fun x hx => by
  obtain ⟨i, _, rfl⟩ := List.mem_map.1 hx
  exact halfB_small h i⟩
theorem halfL_get {d : List Int} {i : Nat} (h : i < 32) : (halfL d).getD i 0 = halfB d i := by simp [halfL, h]
/-- A bit of what was turned down is the next bit. -/
theorem bit_half {d : List Int} (h : Dg d) (k : Nat) (hk : k + 1 < 256) : bitL (halfL d) k = bitL d (k + 1) := by
  unfold bitL
  rw [halfL_get (by omega)]
  have h1 := dg_at h (31 - k / 8)
  have h2 := dg_at h (31 - k / 8 - 1)
  unfold halfB
  rcases (show k % 8 = 0 ∨ k % 8 = 1 ∨ k % 8 = 2 ∨ k % 8 = 3 ∨ k % 8 = 4 ∨ k % 8 = 5 ∨ k % 8 = 6 ∨ k % 8 = 7 by omega) with e | e | e | e | e | e | e | e
  all_goals rw [e]
  · rw [show (k + 1) / 8 = k / 8 by omega, show (k + 1) % 8 = 1 by omega]; split <;> omega
  · rw [show (k + 1) / 8 = k / 8 by omega, show (k + 1) % 8 = 2 by omega]; split <;> omega
  · rw [show (k + 1) / 8 = k / 8 by omega, show (k + 1) % 8 = 3 by omega]; split <;> omega
  · rw [show (k + 1) / 8 = k / 8 by omega, show (k + 1) % 8 = 4 by omega]; split <;> omega
  · rw [show (k + 1) / 8 = k / 8 by omega, show (k + 1) % 8 = 5 by omega]; split <;> omega
  · rw [show (k + 1) / 8 = k / 8 by omega, show (k + 1) % 8 = 6 by omega]; split <;> omega
  · rw [show (k + 1) / 8 = k / 8 by omega, show (k + 1) % 8 = 7 by omega]; split <;> omega
  · rw [show (k + 1) / 8 = k / 8 + 1 by omega, show (k + 1) % 8 = 0 by omega, show 31 - (k / 8 + 1) = 31 - k / 8 - 1 by omega, if_neg (by omega)]; omega
def halfK : Nat → List Int → List Int
  | 0, d => d
  | k + 1, d => halfL (halfK k d)
theorem Dg.halfK {d : List Int} (h : Dg d) (k : Nat) : Dg (halfK k d) := by
  induction k with
  | zero => exact h
  | succ k ih => exact ih.half
theorem bit_halfK {d : List Int} (h : Dg d) (k : Nat) : ∀ j, k + j < 256 → bitL (halfK k d) j = bitL d (k + j) := by
  induction k with
  | zero => intro j _; rw [Nat.zero_add]; rfl
  | succ k ih =>
    intro j hj
    rw [show halfK (k + 1) d = halfL (halfK k d) from rfl, bit_half (h.halfK k) j (by omega), ih (j + 1) (by omega), show k + (j + 1) = k + 1 + j by omega]
theorem and_one : ∀ x : Fin 256, bits .and .u8 ((x.val : Nat) : Int) 1 = ((x.val % 2 : Nat) : Int) := by decide +kernel
theorem and_one' {x : Int} (h : 0 ≤ x ∧ x < 256) : bits .and .u8 x 1 = x % 2 := by
  have := and_one ⟨x.toNat, by omega⟩
  simp only at this
  rw [show ((x.toNat : Nat) : Int) = x by omega] at this
  rw [this]
  omega
set_option maxHeartbeats 4000000 in
theorem bit_out (d : List Int) (k : Int) (w : World) (_hd : Dg d) (hk : k < 0 ∨ 255 < k) :
    Calls Tryz.prog 138 #[.agg (d.map (Value.int .u8)).toArray, .int .i64 k] w fun e w' => e = .returned (.int .i64 0) ∧ Below w.heap.size w w' := by
  rcases hk with hk | hk
  · skip
    have b1 := (Below.refl w.heap.size w).alloc (Nat.le_refl _) (.cells (d.map (Value.int .u8)).toArray 25 (0, 0))
    have Kd := hid (Blk.new (w := w) (n := w.heap.size) rfl (d.map (Value.int .u8)).toArray 25)
    have Hb := hid b1
    have hbz := b1.size
    have Hbs := hid (show w.heap.size + 1 = (w.alloc (.cells (d.map (Value.int .u8)).toArray 25 (0, 0))).heap.size by simp only [World.size_alloc])
    clear b1 
    go_enter Tryz.func138, Tryz.ntmps138
    go_wp2_with fail
    go_returns
    exact ⟨rfl, Hb.out⟩
  · have hI0 : ¬ k < 0 := by omega
    have hI1 : (256 : Int) ≤ k := by omega
    have b1 := (Below.refl w.heap.size w).alloc (Nat.le_refl _) (.cells (d.map (Value.int .u8)).toArray 25 (0, 0))
    have Kd := hid (Blk.new (w := w) (n := w.heap.size) rfl (d.map (Value.int .u8)).toArray 25)
    have Hb := hid b1
    have hbz := b1.size
    have Hbs := hid (show w.heap.size + 1 = (w.alloc (.cells (d.map (Value.int .u8)).toArray 25 (0, 0))).heap.size by simp only [World.size_alloc])
    clear b1 
    go_enter Tryz.func138, Tryz.ntmps138
    go_wp2_with fail
    go_returns
    exact ⟨rfl, Hb.out⟩
set_option maxHeartbeats 4000000 in
theorem bit_in (d : List Int) (k : Nat) (w : World) (hd : Dg d) (hk : k < 256) :
    Calls Tryz.prog 138 #[.agg (d.map (Value.int .u8)).toArray, .int .i64 k] w fun e w' => e = .returned (.int .i64 (bitL d k)) ∧ Below w.heap.size w w' := by
  have hI0 : ¬ (k : Int) < 0 := by omega
  have hI1 : ¬ (256 : Int) ≤ (k : Int) := by omega
  have hxx := dg_at hd (31 - k / 8)
  have hlen := hd.len
  have hxe : d[31 - k / 8]? = some (d.getD (31 - k / 8) 0) := by rw [List.getD_eq_getElem?_getD, List.getElem?_eq_getElem (by omega)]; rfl
  unfold bitL
  generalize d.getD (31 - k / 8) 0 = x at *
  have b1 := (Below.refl w.heap.size w).alloc (Nat.le_refl _) (.cells (d.map (Value.int .u8)).toArray 25 (0, 0))
  have Kd := hid (Blk.new (w := w) (n := w.heap.size) rfl (d.map (Value.int .u8)).toArray 25)
  have Hb := hid b1
  have hbz := b1.size
  have Hbs := hid (show w.heap.size + 1 = (w.alloc (.cells (d.map (Value.int .u8)).toArray 25 (0, 0))).heap.size by simp only [World.size_alloc])
  clear b1 
  go_enter Tryz.func138, Tryz.ntmps138
  go_wp2_with fail
  go_returns
  refine ⟨?_, Hb.out⟩
  have h2 : 0 ≤ x / 2 ^ (k % 8) ∧ x / 2 ^ (k % 8) < 256 := ⟨Int.ediv_nonneg hxx.1 (Int.le_of_lt (Int.pow_pos (by omega))), Int.lt_of_le_of_lt (Int.ediv_le_self _ hxx.1) hxx.2⟩
  show Ending.returned (.int .i64 (wrap64 (bits .and .u8 (x / 2 ^ (k % 8)) 1))) = _
  rw [and_one' h2]
  generalize x / 2 ^ (k % 8) = y at *
  rw [show wrap64 (y % 2) = y % 2 by unfold wrap64; omega]
theorem size_byte1 : (Tryz.prog.info? 5).map (·.size) = some 1 := by kernel_rfl
theorem halfP_zero (d : List Int) : ((halfP d 0).map (Value.int .u8)).toArray = (byteCells 32 []) := by simp [halfP, byteCells]
theorem halfP_done (d : List Int) : halfP d 32 = halfL d := by simp [halfP, halfL]
theorem halfP_length (d : List Int) {k : Nat} (h : k ≤ 32) : (halfP d k).length = 32 := by
  simp only [halfP, List.length_append, List.length_map, List.length_range, List.length_replicate]
  omega
theorem halfP_set (d : List Int) {k : Nat} (h : k < 32) : (halfP d k).set k (halfB d k) = halfP d (k + 1) := by
  unfold halfP
  rw [List.set_append_right _ _ (by simp), show 32 - k = (32 - (k + 1)) + 1 by omega, List.replicate_succ, List.range_succ, List.map_append]
  simp
set_option maxHeartbeats 4000000 in
theorem half_any (d : List Int) (w : World) (hd : Dg d) :
    Calls Tryz.prog 113 #[.agg (d.map (Value.int .u8)).toArray] w fun e w' => e = .returned (.agg ((halfL d).map (Value.int .u8)).toArray) ∧ Below w.heap.size w w' := by
  have b1 := (Below.refl w.heap.size w).alloc (Nat.le_refl _) (.cells (d.map (Value.int .u8)).toArray 25 (0, 0))
  have b2 := b1.alloc b1.size (.cells (byteCells 32 []) 25 (0, 0))
  have b3 := b2.alloc b2.size (.cells (byteCells 32 []) 25 (0, 0))
  have Kd := hid (((Blk.new (w := w) (n := w.heap.size) rfl (d.map (Value.int .u8)).toArray 25).old (.cells (byteCells 32 []) 25 (0, 0))).old (.cells (byteCells 32 []) 25 (0, 0)))
  have Kr := hid ((Blk.new (w := (w.alloc (.cells (d.map (Value.int .u8)).toArray 25 (0, 0)))) (n := w.heap.size + 1) (by simp only [World.size_alloc]) (byteCells 32 []) 25).old (.cells (byteCells 32 []) 25 (0, 0)))
  have Ko := hid (Blk.new (w := ((w.alloc (.cells (d.map (Value.int .u8)).toArray 25 (0, 0))).alloc (.cells (byteCells 32 []) 25 (0, 0)))) (n := w.heap.size + 1 + 1) (by simp only [World.size_alloc]) (byteCells 32 []) 25)
  have Hb := hid b3
  have hbz := b3.size
  have Hbs := hid (show w.heap.size + 1 + 1 + 1 = (((w.alloc (.cells (d.map (Value.int .u8)).toArray 25 (0, 0))).alloc (.cells (byteCells 32 []) 25 (0, 0))).alloc (.cells (byteCells 32 []) 25 (0, 0))).heap.size by simp only [World.size_alloc])
  clear b1 b2 b3 
  go_enter Tryz.func113, Tryz.ntmps113
  go_wp2_with fail
  go_loopw [4, 5] (fun cv iv wr => ∃ k : Nat, k ≤ 32 ∧ iv = .int .i64 k ∧ cv = (.int .u8 (if k = 0 then 0 else d.getD (k - 1) 0 % 2 * 128)) ∧ Blk wr w.heap.size (d.map (Value.int .u8)).toArray 25 ∧ Blk wr (w.heap.size + 1) (byteCells 32 []) 25 ∧ Blk wr (w.heap.size + 1 + 1) ((halfP d k).map (Value.int .u8)).toArray 25 ∧ Below w.heap.size w wr) (fun _ iv _ => 32 - (intOf iv).toNat)
  case atStart => exact ⟨0, Nat.zero_le _, rfl, rfl, Kd.out, Kr.out, by rw [halfP_zero]; exact Ko.out, Hb.out⟩
  case round =>
    obtain ⟨k, hk, rfl, rfl, kd, kr, ko, bel⟩ := hrel
    have Kdwr := hid kd
    have Krwr := hid kr
    have Kowr := hid ko
    have HBwr := hid bel
    have hswr := bel.size
    have hokr := ko.lt
    clear kd kr ko bel
    by_cases hlt : k < 32
    · skip
      have hc0 : (k : Int) < 32 := by omega
      have hxx := dg_at hd k
      have hyy := dg_at hd (k - 1)
      have hlen := hd.len
      have hxe : d[k]? = some (d.getD k 0) := by rw [List.getD_eq_getElem?_getD, List.getElem?_eq_getElem (by omega)]; rfl
      have cdk : wr.cell? ⟨w.heap.size, k, none⟩ = some (.int .u8 (d.getD k 0)) := by
        rw [Kdwr.out.cell, List.getElem?_toArray, List.getElem?_map, hxe]; rfl
      have HS := hid (halfP_set d hlt)
      have HHB := hid (show halfB d k = d.getD k 0 / 2 + (if k = 0 then 0 else d.getD (k - 1) 0 % 2 * 128) from rfl)
      have HC := hid (show (if k + 1 = 0 then (0 : Int) else d.getD (k + 1 - 1) 0 % 2 * 128) = d.getD k 0 % 2 * 128 by rw [if_neg (by omega), Nat.add_sub_cancel])
      have hcc : 0 ≤ (if k = 0 then (0 : Int) else d.getD (k - 1) 0 % 2 * 128) ∧ (if k = 0 then (0 : Int) else d.getD (k - 1) 0 % 2 * 128) ≤ 128 := by split <;> omega
      generalize (if k = 0 then (0 : Int) else d.getD (k - 1) 0 % 2 * 128) = c at *
      generalize d.getD k 0 = x at *
      generalize d.getD (k - 1) 0 = y at *
      clear hxe hyy
      go_wp2_with (
            refine wpList_store_cell_q rfl 5 _ _ rfl (w.heap.size + 1 + 1) k (.int .u8 (x / 2 + c)) rfl rfl rfl rfl _ 25 Kowr.out (by rw [List.size_toArray, List.length_map, halfP_length d (by omega)]; omega) size_byte1 ?_
            intro w9 hb9 hk9
            rw [List.setIfInBounds_toArray, ← HHB.out, ← List.map_set, HS.out] at hk9
            have Ko9 := hid hk9
            have Kd9 := hid (hb9.blk Kdwr.out (by omega))
            have Kr9 := hid (hb9.blk Krwr.out (by omega))
            have HB9 := hid (hb9.below HBwr.out hswr (by omega))
            have cd9 : w9.cell? ⟨w.heap.size, k, none⟩ = some (.int .u8 x) := by rw [Kd9.out.cell, ← Kdwr.out.cell]; exact cdk
            clear hb9 hk9)
      exact ⟨⟨k + 1, by omega, by first | rfl | simp, by first | rfl | (rw [HC.out]), Kd9.out, Kr9.out, Ko9.out, HB9.out⟩, by simp [intOf]; omega⟩
    · skip
      have hk7 : k = 32 := by omega
      subst hk7
      have hc0 : ¬ ((32 : Int) < 32) := by omega
      rw [halfP_done] at Kowr
      have HX := hid hd.half
      generalize hX1 : halfL d = X at *
      go_wp2_with (first
         | (refine wpList_load_blk rfl 25 _ rfl (w.heap.size + 1 + 1) rfl _ 25 Kowr.out _ Tryz.underlying25 rfl 32 size_digest HX.out.size ?_)
         | (
          refine wpList_store_blk rfl 25 _ _ rfl (w.heap.size + 1) (X.map (Value.int .u8)).toArray rfl rfl _ 25 Krwr.out 32 size_digest zsize HX.out.size (ints_one _ _) ?_
          intro w9 hb9 hk9
          have HB9 := hid (hb9.below HBwr.out hswr (by omega))
          have HK9 := hid hk9
          clear hb9 hk9))
      exact bodyPost_ret (v := .agg (X.map (Value.int .u8)).toArray) (results_blk Tryz.results113 _ (w.heap.size + 1) rfl _ 25 HK9.out _ Tryz.underlying25 rfl 32 size_digest HX.out.size) rfl ⟨by first | rfl | rw [hX1], HB9.out⟩
set_option maxHeartbeats 4000000 in
theorem refbit_in (d : List Int) (k : Nat) (w : World) (hd : Dg d) (hk : k < 256) :
    Calls Tryz.prog 84 #[.agg (d.map (Value.int .u8)).toArray, .int .i64 k] w fun e w' => e = .returned (.int .i64 (bitL d k)) ∧ Below w.heap.size w w' := by
  have hI0 : ¬ (k : Int) < 0 := by omega
  have hI1 : ¬ (255 : Int) < (k : Int) := by omega
  have b1 := (Below.refl w.heap.size w).alloc (Nat.le_refl _) (.cells (d.map (Value.int .u8)).toArray 25 (0, 0))
  have Kd := hid (Blk.new (w := w) (n := w.heap.size) rfl (d.map (Value.int .u8)).toArray 25)
  have Hb := hid b1
  have hbz := b1.size
  have Hbs := hid (show w.heap.size + 1 = (w.alloc (.cells (d.map (Value.int .u8)).toArray 25 (0, 0))).heap.size by simp only [World.size_alloc])
  clear b1 
  go_enter Tryz.func84, Tryz.ntmps84
  go_wp2_with fail
  go_loopw [5] (fun iv wr => ∃ j : Nat, j ≤ k ∧ iv = .int .i64 j ∧ Blk wr w.heap.size ((halfK j d).map (Value.int .u8)).toArray 25 ∧ Below w.heap.size w wr) (fun iv _ => k - (intOf iv).toNat)
  case atStart => exact ⟨0, Nat.zero_le _, rfl, Kd.out, Hb.out⟩
  case round =>
    obtain ⟨j, hj, rfl, kd, bel⟩ := hrel
    have Kdwr := hid kd
    have HBwr := hid bel
    have hswr := bel.size
    have hdlt := kd.lt
    clear kd bel
    by_cases hlt : j < k
    · skip
      have hc0 : (j : Int) < k := by omega
      have HD0 := hid (hd.halfK j)
      have HDX := hid (show halfK (j + 1) d = halfL (halfK j d) from rfl)
      have CH := hid (fun (W : World) => half_any (halfK j d) W HD0.out)
      rw [← HDX.out] at CH
      have HX := hid (hd.halfK (j + 1))
      generalize hX1 : halfK (j + 1) d = X at *
      generalize hE1 : halfK j d = E at *
      go_wp2_with (refine wpList_load_blk rfl 25 _ rfl (w.heap.size) rfl _ 25 Kdwr.out _ Tryz.underlying25 rfl 32 size_digest HD0.out.size ?_)
      refine (CH.out _).mono ?_
      rintro e w21 ⟨rfl, bw21⟩
      have HBw21 := hid (Below.on HBwr.out bw21)
      have hsw21 := HBw21.out.size
      have Kdw21 := hid (Kdwr.out.below bw21)
      clear bw21
      go_wp2_with (
            refine wpList_store_blk rfl 25 _ _ rfl (w.heap.size) (X.map (Value.int .u8)).toArray rfl rfl _ 25 Kdw21.out 32 size_digest HD0.out.size HX.out.size (ints_one _ _) ?_
            intro w9 hb9 hk9
            have Hk9 := hid hk9
            have Hb9 := hid (hb9.below HBw21.out HBw21.out.size (by omega))
            clear hb9 hk9)
      exact ⟨⟨j + 1, by omega, by first | rfl | simp, by rw [hX1]; exact Hk9.out, Hb9.out⟩, by simp [intOf]; omega⟩
    · skip
      have hk7 : j = k := by omega
      subst hk7
      have hc0 : ¬ ((j : Int) < j) := by omega
      have hb0 := bit_halfK hd j 0 (by omega)
      rw [Nat.add_zero] at hb0
      have HB0 := hid (show bitL d j = (halfK j d).getD 31 0 % 2 by rw [← hb0]; simp [bitL])
      have HD0 := hid (hd.halfK j)
      have hxx := dg_at HD0.out 31
      have hlen := HD0.out.len
      have hxe : (halfK j d)[31]? = some ((halfK j d).getD 31 0) := by rw [List.getD_eq_getElem?_getD, List.getElem?_eq_getElem (by omega)]; rfl
      have cdk : wr.cell? ⟨w.heap.size, 31, none⟩ = some (.int .u8 ((halfK j d).getD 31 0)) := by
        rw [Kdwr.out.cell, List.getElem?_toArray, List.getElem?_map, hxe]; rfl
      clear hb0 hxe
      generalize (halfK j d).getD 31 0 = x at *
      go_wp2_with fail
      go_returns
      refine ⟨?_, HBwr.out⟩
      rw [HB0.out]
      first | rfl | (show Ending.returned (.int .i64 (wrap64 (x % 2))) = _; rw [show wrap64 (x % 2) = x % 2 by unfold wrap64; omega])
end Go.Proofs.YtkakoiaahgchmaaGreatDoor
namespace Go.Proofs.YtkakoiaahgchmaaGreatDoor
set_option maxRecDepth 100000
open Go.ChangeShapes Go.WideShapes Go.ChangeAt Go.RowKit
open Go.WideMaps (KeyLaw)
open Go.ChangeMaps (setBlock)
/-- An index was counted so often. -/
def MapN (r : Nat) (kv : Value) (n : Nat) (w : World) : Prop := (n = 0 ∧ w.heap[r]? = some (.map #[] 0)) ∨ w.heap[r]? = some (.map #[⟨kv, .int .i64 n, 0⟩] 1)
/-- The entries of a row. -/
structure EntsAt (w : World) (a : Option Addr) (len cap : Nat) (es : List (List Int × List Int)) : Prop where
  length : es.length = len
  le : len ≤ cap
  each : ∀ x ∈ es, Dg x.1 ∧ Dg x.2
  mem : len = 0 ∨ ∃ x o, a = some ⟨x, o, none⟩ ∧ x < w.heap.size ∧ ∀ j, j < len → w.rangeAt x (o + j * 64) ((entL (es.getD j ([], [])).1 (es.getD j ([], [])).2).map (Value.int .u8))
/-- The world goes on, and the map keeps its number. -/
def MapR (r : Nat) (kv : Value) (n : Nat) (a b : World) : Prop := FlowB.ButIn [r] a b ∧ (MapN r kv n a → MapN r kv n b)
end Go.Proofs.YtkakoiaahgchmaaGreatDoor
namespace Go.Proofs.YtkakoiaahgchmaaGreatDoor
set_option maxRecDepth 100000
open Go.ChangeShapes Go.WideShapes Go.ChangeAt Go.RowKit
/-- Is a place's sibling known? -/
def knB (d : List Int) (k : Nat) : Bool := decide (d.getD (k / 8) 0 / 2 ^ (k % 8) % 2 = 1)
/-- How many of the first places' siblings are known. -/
def knN (d : List Int) : Nat → Nat
  | 0 => 0
  | k + 1 => knN d k + (if knB d k then 1 else 0)
theorem knN_le (d : List Int) (k : Nat) : knN d k ≤ k := by
  induction k with
  | zero => exact Nat.le_refl _
  | succ k ih => unfold knN; split <;> omega
theorem knN_mono (d : List Int) {j k : Nat} (h : j ≤ k) : knN d j ≤ knN d k := by
  induction h with
  | refl => exact Nat.le_refl _
  | step _ ih => exact Nat.le_trans ih (by rw [knN]; omega)
def onesB (x : Int) : Nat := (if x / 2 ^ 0 % 2 = 1 then 1 else 0) + (if x / 2 ^ 1 % 2 = 1 then 1 else 0) + (if x / 2 ^ 2 % 2 = 1 then 1 else 0) + (if x / 2 ^ 3 % 2 = 1 then 1 else 0) + (if x / 2 ^ 4 % 2 = 1 then 1 else 0) + (if x / 2 ^ 5 % 2 = 1 then 1 else 0) + (if x / 2 ^ 6 % 2 = 1 then 1 else 0) + (if x / 2 ^ 7 % 2 = 1 then 1 else 0)
theorem pop8_ones (x : Int) (h0 : 0 ≤ x) (h1 : x ≤ 255) : Lib.pop8 x = (onesB x : Int) := by
  obtain ⟨n, rfl⟩ := Int.eq_ofNat_of_zero_le h0
  exact (by decide +kernel : ∀ i : Fin 256, Lib.pop8 ((i.val : Nat) : Int) = (onesB ((i.val : Nat) : Int) : Int)) ⟨n, by omega⟩
theorem onesB_le (x : Int) : onesB x ≤ 8 := by
  unfold onesB
  repeat' split
  all_goals omega
theorem knN_step (d : List Int) (i : Nat) : knN d (8 * (i + 1)) = knN d (8 * i) + onesB (d.getD i 0) := by
  have h (j : Nat) (hj : j < 8) : knB d (8 * i + j) = decide (d.getD i 0 / 2 ^ j % 2 = 1) := by
    unfold knB
    rw [show (8 * i + j) / 8 = i by omega, show (8 * i + j) % 8 = j by omega]
  have h0 := h 0 (by omega)
  rw [Nat.add_zero] at h0
  rw [show 8 * (i + 1) = 8 * i + 1 + 1 + 1 + 1 + 1 + 1 + 1 + 1 by omega]
  simp only [knN]
  rw [h0, h 1 (by omega), h 2 (by omega), h 3 (by omega), h 4 (by omega), h 5 (by omega), h 6 (by omega), h 7 (by omega)]
  simp only [decide_eq_true_eq]
  unfold onesB
  omega
section
variable {P : Program} {ops : Array Oper} {rest : List Oper} {op : Oper} {a : Act} {w : World} {Q : Exit → Act → World → Prop}
theorem wpList_index_pop8 (hgd : op.guard = none) (t : TypeId) (s : ByteArray) (x : Operand) (ho : op.op = .index t (.const (.string s)) x) (hs : s = Lib.pop8tab) (ht : P.underlying t = some .string) (k : IntKind) (i : Int) (hx : a.eval x = .int k i) (h0 : 0 ≤ i) (h1 : i ≤ 255)
    (h : wpList P ops Q rest (a.put op.dst (.int .u8 (Lib.pop8 i))) w) : wpList P ops Q (op :: rest) a w :=
  wpList_plain hgd fun K hK => by
    subst hs
    unfold Oper.wp execOp
    have hc : a.eval (.const (.string Lib.pop8tab)) = .string Lib.pop8tab := rfl
    simp only [ho, hx, hc, Sem.run_bind, Sem.run_pure, Result.andThen_ok, Lib.run_index_pop8tab w t k i ht h0 h1, Oper.upon_value]
    exact hK _ _ h
end
set_option maxHeartbeats 4000000 in
theorem ones_any (x : Int) (w : World) (h0 : 0 ≤ x) (h1 : x < 256) : Calls Tryz.prog 146 #[.int .u8 x] w fun e w' => e = .returned (.int .i64 (onesB x)) ∧ w' = w := by
  have h6 : wrap64 (Lib.pop8 x) = (onesB x : Int) := by
    rw [pop8_ones x h0 (by omega)]
    have := onesB_le x
    unfold wrap64
    omega
  go_enter Tryz.func146, Tryz.ntmps146
  go_wp2_with (refine wpList_index_pop8 rfl _ _ _ rfl (by kernel_rfl) Tryz.underlying9 .u8 x rfl (by omega) (by omega) ?_)
  go_ret
  exact ⟨by first | rfl | (rw [h6]; rfl) | (rw [← h6]; rfl), rfl⟩
set_option maxHeartbeats 4000000 in
theorem refkn_any (d : List Int) (k : Nat) (w : World) (hd : Dg d) (hk : k < 256) :
    Calls Tryz.prog 80 #[.agg (d.map (Value.int .u8)).toArray, .int .i64 k] w fun e w' => e = .returned (.bool (knB d k)) ∧ Below w.heap.size w w' := by
  have hxx := dg_at hd (k / 8)
  have hlen := hd.len
  have hxe : d[k / 8]? = some (d.getD (k / 8) 0) := by rw [List.getD_eq_getElem?_getD, List.getElem?_eq_getElem (by omega)]; rfl
  unfold knB
  generalize d.getD (k / 8) 0 = x at *
  have b1 := (Below.refl w.heap.size w).alloc (Nat.le_refl _) (.cells (d.map (Value.int .u8)).toArray 25 (0, 0))
  have Kd := hid (Blk.new (w := w) (n := w.heap.size) rfl (d.map (Value.int .u8)).toArray 25)
  have Hb := hid b1
  have hbz := b1.size
  have Hbs := hid (show w.heap.size + 1 = (w.alloc (.cells (d.map (Value.int .u8)).toArray 25 (0, 0))).heap.size by simp only [World.size_alloc])
  clear b1 
  go_enter Tryz.func80, Tryz.ntmps80
  go_wp2_with fail
  go_loopw [5, 6] (fun bv iv wr => ∃ j : Nat, j ≤ k % 8 ∧ iv = .int .i64 j ∧ bv = .int .u8 (x / 2 ^ j) ∧ Below w.heap.size w wr) (fun _ iv _ => 8 - (intOf iv).toNat)
  case atStart => exact ⟨0, Nat.zero_le _, rfl, by rw [Int.pow_zero, Int.ediv_one], Hb.out⟩
  case round =>
    obtain ⟨j, hj, rfl, rfl, bel⟩ := hrel
    have HBwr := hid bel
    clear bel
    have hj8 : j < 8 := by omega
    have hyy : 0 ≤ x / 2 ^ j ∧ x / 2 ^ j < 256 := ⟨Int.ediv_nonneg hxx.1 (Int.le_of_lt (Int.pow_pos (by omega))), Int.lt_of_le_of_lt (Int.ediv_le_self _ hxx.1) hxx.2⟩
    by_cases hlt : j < k % 8
    · skip
      have hc0 : (j : Int) < (k : Int) % 8 := by omega
      have HS := hid (show x / 2 ^ (j + 1) = x / 2 ^ j / 2 by rw [Int.pow_succ]; first | exact (Int.ediv_ediv_of_nonneg (Int.le_of_lt (Int.pow_pos (by omega)))).symm | (rw [Int.ediv_ediv_of_nonneg (Int.le_of_lt (Int.pow_pos (by omega)))]))
      generalize hY : x / 2 ^ j = y at *
      have HY := hid hY
      clear hY
      go_wp2_with fail
      exact ⟨⟨j + 1, by omega, by first | rfl | simp, by rw [HS.out], HBwr.out⟩, by simp [intOf]; omega⟩
    · skip
      have hk7 : j = k % 8 := by omega
      have hc0 : ¬ ((j : Int) < (k : Int) % 8) := by omega
      have HK := hid hk7
      rw [← hk7]
      clear hk7
      generalize hY : x / 2 ^ j = y at *
      have HY := hid hY
      clear hY
      go_wp2_with fail
      go_returns
      refine ⟨?_, HBwr.out⟩
      rw [← HK.out, HY.out]
      by_cases hz : y % 2 = 1
      · rw [hz]; rfl
      · rw [show ((y % 2 : Int) == 1) = false by simp [hz], decide_eq_false hz]; rfl
end Go.Proofs.YtkakoiaahgchmaaGreatDoor
namespace Go.Proofs.YtkakoiaahgchmaaGreatDoor
set_option maxRecDepth 100000
open Go.ChangeShapes Go.WideShapes Go.ChangeAt Go.RowKit
set_option maxHeartbeats 4000000 in
theorem refwhole_any (d : List Int) (ad : Option Addr) (len cap : Nat) (w : World) (hd : Dg d) :
    Calls Tryz.prog 36 #[.agg (d.map (Value.int .u8)).toArray, .slice ad len cap] w fun e w' => e = .returned (.bool (decide (knN d 256 = len))) ∧ Below w.heap.size w w' := by
  have b1 := (Below.refl w.heap.size w).alloc (Nat.le_refl _) (.cells (d.map (Value.int .u8)).toArray 25 (0, 0))
  have Kd := hid (Blk.new (w := w) (n := w.heap.size) rfl (d.map (Value.int .u8)).toArray 25)
  have Hb := hid b1
  have hbz := b1.size
  have Hbs := hid (show w.heap.size + 1 = (w.alloc (.cells (d.map (Value.int .u8)).toArray 25 (0, 0))).heap.size by simp only [World.size_alloc])
  clear b1 
  go_enter Tryz.func36, Tryz.ntmps36
  go_wp2_with fail
  go_loopw [5, 6] (fun nv iv wr => ∃ k : Nat, k ≤ 256 ∧ iv = .int .i64 k ∧ nv = .int .i64 (knN d k : Nat) ∧ Blk wr w.heap.size (d.map (Value.int .u8)).toArray 25 ∧ Below w.heap.size w wr) (fun _ iv _ => 256 - (intOf iv).toNat)
  case atStart => exact ⟨0, Nat.zero_le _, rfl, rfl, Kd.out, Hb.out⟩
  case round =>
    obtain ⟨k, hk, rfl, rfl, kd, bel⟩ := hrel
    have Kdwr := hid kd
    have HBwr := hid bel
    have hswr := bel.size
    have hdlt := kd.lt
    clear kd bel
    have hnk := knN_le d k
    by_cases hlt : k < 256
    · skip
      have hc0 : (k : Int) < 256 := by omega
      have CK := hid (fun W : World => refkn_any d k W hd hlt)
      have HD0 := hid hd
      have HN := hid (show knN d (k + 1) = knN d k + (if knB d k then 1 else 0) from rfl)
      generalize hN : knN d k = n at *
      clear hN
      cases hB : knB d k
      · rw [hB] at CK HN
        clear hB
        go_wp2_with (refine wpList_load_blk rfl 25 _ rfl (w.heap.size) rfl _ 25 Kdwr.out _ Tryz.underlying25 rfl 32 size_digest HD0.out.size ?_)
        refine (CK.out _).mono ?_
        rintro e w21 ⟨rfl, bw21⟩
        have HBw21 := hid (Below.on HBwr.out bw21)
        have hsw21 := HBw21.out.size
        have Kdw21 := hid (Kdwr.out.below bw21)
        clear bw21
        go_wp2_with fail
        exact ⟨⟨k + 1, by omega, by first | rfl | simp, by rw [HN.out]; first | rfl | simp, Kdw21.out, HBw21.out⟩, by simp [intOf]; omega⟩
      · rw [hB] at CK HN
        clear hB
        go_wp2_with (refine wpList_load_blk rfl 25 _ rfl (w.heap.size) rfl _ 25 Kdwr.out _ Tryz.underlying25 rfl 32 size_digest HD0.out.size ?_)
        refine (CK.out _).mono ?_
        rintro e w21 ⟨rfl, bw21⟩
        have HBw21 := hid (Below.on HBwr.out bw21)
        have hsw21 := HBw21.out.size
        have Kdw21 := hid (Kdwr.out.below bw21)
        clear bw21
        go_wp2_with fail
        exact ⟨⟨k + 1, by omega, by first | rfl | simp, by rw [HN.out]; first | rfl | simp, Kdw21.out, HBw21.out⟩, by simp [intOf]; omega⟩
    · skip
      have hk7 : k = 256 := by omega
      subst hk7
      have hc0 : ¬ ((256 : Int) < 256) := by omega
      generalize hN : knN d 256 = n at *
      have HN := hid hN
      clear hN
      go_wp2_with fail
      go_returns
      refine ⟨?_, HBwr.out⟩
      rw [HN.out]
      by_cases hz : n = len
      · subst hz; rw [decide_eq_true rfl]; first | rfl | (show Ending.returned (.bool ((n : Int) == (n : Int))) = _; simp)
      · rw [decide_eq_false hz]; show Ending.returned (.bool ((n : Int) == (len : Int))) = _; rw [show ((n : Int) == (len : Int)) = false by simp; omega]; try rfl
end Go.Proofs.YtkakoiaahgchmaaGreatDoor
namespace Go.Proofs.YtkakoiaahgchmaaGreatDoor
set_option maxRecDepth 100000
open Go.ChangeShapes Go.WideShapes Go.ChangeAt Go.RowKit
theorem size_proof : (Tryz.prog.info? 47).map (·.size) = some 33 := by kernel_rfl
/-- A proof's cells. -/
def prC (d : List Int) (v : Value) : List Value := d.map (Value.int .u8) ++ [v]
theorem prC_size {d : List Int} (h : Dg d) (v : Value) : (prC d v).toArray.size = 33 := by simp [prC, h.len]
theorem prC_nodes {d : List Int} {v : Value} {w : World} {b : Nat} {T : TypeId} (h : Dg d) (k : Blk w b (prC d v).toArray T) : w.cell? ⟨b, 32, none⟩ = some v := by
  rw [k.cell, List.getElem?_toArray]
  simp [prC, h.len]
theorem prC_known {d : List Int} {v : Value} {w : World} {b : Nat} {T : TypeId} (k : Blk w b (prC d v).toArray T) : w.rangeAt b 0 (d.map (Value.int .u8)) := fun j u hu => by
  have hj : j < d.length := by have := (List.getElem?_eq_some_iff.1 hu).1; simpa using this
  rw [Nat.zero_add, k.cell, List.getElem?_toArray, ← hu]
  unfold prC
  rw [List.getElem?_append_left (by simpa using hj)]
set_option maxHeartbeats 4000000 in
theorem complete_any (d : List Int) (ad : Option Addr) (len cap : Nat) (w : World) (hd : Dg d) :
    Calls Tryz.prog 136 #[.agg (prC d (.slice ad len cap)).toArray] w fun e w' => e = .returned (.bool (decide (knN d 256 = len))) ∧ Below w.heap.size w w' := by
  have b1 := (Below.refl w.heap.size w).alloc (Nat.le_refl _) (.cells (prC d (.slice ad len cap)).toArray 47 (0, 0))
  have Kp := hid (Blk.new (w := w) (n := w.heap.size) rfl (prC d (.slice ad len cap)).toArray 47)
  have Hb := hid b1
  have hbz := b1.size
  have Hbs := hid (show w.heap.size + 1 = (w.alloc (.cells (prC d (.slice ad len cap)).toArray 47 (0, 0))).heap.size by simp only [World.size_alloc])
  clear b1 
  go_enter Tryz.func136, Tryz.ntmps136
  go_wp2_with (refine wpList_load_mid rfl 25 _ rfl (w.heap.size) 0 rfl _ _ (prC_known Kp.out) Tryz.underlying25 rfl (by rw [List.length_map, hd.len]; exact size_digest) ?_)
  go_loopw [3, 8] (fun nv iv wr => ∃ k : Nat, k ≤ 32 ∧ iv = .int .i64 k ∧ nv = .int .i64 (knN d (8 * k) : Nat) ∧ Blk wr w.heap.size (prC d (.slice ad len cap)).toArray 47 ∧ Below w.heap.size w wr) (fun _ iv _ => 32 - (intOf iv).toNat)
  case atStart => exact ⟨0, Nat.zero_le _, rfl, rfl, Kp.out, Hb.out⟩
  case round =>
    obtain ⟨k, hk, rfl, rfl, kd, bel⟩ := hrel
    have Kpwr := hid kd
    have HBwr := hid bel
    have hswr := bel.size
    clear kd bel
    have hnk := knN_le d (8 * k)
    by_cases hlt : k < 32
    · skip
      have hc0 : (k : Int) < 32 := by omega
      have hxx := dg_at hd k
      have hlen := hd.len
      have hix := fun W : World => run_index_ints (P := Tryz.prog) (t := 25) (e := 5) (n := 32) (k' := .i64) Tryz.underlying25 Tryz.underlying5 rfl rfl d hlen k hlt W
      have hob := onesB_le (d.getD k 0)
      have CK := hid (fun W : World => ones_any (d.getD k 0) W hxx.1 hxx.2)
      have HD0 := hid hd
      have HN := hid (knN_step d k)
      generalize d.getD k 0 = x at *
      generalize onesB x = z at *
      generalize hN : knN d (8 * k) = n at *
      clear hN
      go_wp2_with (go_at_call 146; refine (CK.out _).mono ?_; rintro e w' ⟨rfl, rfl⟩)
      exact ⟨⟨k + 1, by omega, by first | rfl | simp, by rw [HN.out]; first | rfl | simp, Kpwr.out, HBwr.out⟩, by simp [intOf]; omega⟩
    · skip
      have hk7 : k = 32 := by omega
      subst hk7
      have hc0 : ¬ ((32 : Int) < 32) := by omega
      have g32 := prC_nodes hd Kpwr.out
      generalize hN : knN d (8 * 32) = n at *
      have HN := hid hN
      clear hN
      go_wp2_with fail
      go_returns
      refine ⟨?_, HBwr.out⟩
      rw [show (256 : Nat) = 8 * 32 from rfl, HN.out]
      by_cases hz : n = len
      · subst hz; rw [decide_eq_true rfl]; first | rfl | (show Ending.returned (.bool ((n : Int) == (n : Int))) = _; simp)
      · rw [decide_eq_false hz]; show Ending.returned (.bool ((len : Int) == (n : Int))) = _; rw [show ((len : Int) == (n : Int)) = false by simp; omega]
end Go.Proofs.YtkakoiaahgchmaaGreatDoor
namespace Go.Proofs.YtkakoiaahgchmaaGreatDoor
set_option maxRecDepth 100000
open Go.ChangeShapes Go.WideShapes Go.ChangeAt Go.RowKit
set_option maxHeartbeats 4000000 in
theorem climb_bad_q (x i d : List Int) (ad : Option Addr) (len cap : Nat) (w : World) (hd : Dg d) (hn : ¬ knN d 256 = len) :
    Calls Tryz.prog 117 #[.agg (x.map (Value.int .u8)).toArray, .agg (i.map (Value.int .u8)).toArray, .agg (prC d (.slice ad len cap)).toArray] w fun e w' => e = .returned (.tuple #[.agg (byteCells 32 []), .int .i64 2]) ∧ Below w.heap.size w w' := by
  have b1 := (Below.refl w.heap.size w).alloc (Nat.le_refl _) (.cells (x.map (Value.int .u8)).toArray 25 (0, 0))
  have b2 := b1.alloc b1.size (.cells (i.map (Value.int .u8)).toArray 25 (0, 0))
  have b3 := b2.alloc b2.size (.cells (prC d (.slice ad len cap)).toArray 47 (0, 0))
  have b4 := b3.alloc b3.size (.cells (byteCells 32 []) 25 (0, 0))
  have Kx := hid ((((Blk.new (w := w) (n := w.heap.size) rfl (x.map (Value.int .u8)).toArray 25).old (.cells (i.map (Value.int .u8)).toArray 25 (0, 0))).old (.cells (prC d (.slice ad len cap)).toArray 47 (0, 0))).old (.cells (byteCells 32 []) 25 (0, 0)))
  have Ki := hid (((Blk.new (w := (w.alloc (.cells (x.map (Value.int .u8)).toArray 25 (0, 0)))) (n := w.heap.size + 1) (by simp only [World.size_alloc]) (i.map (Value.int .u8)).toArray 25).old (.cells (prC d (.slice ad len cap)).toArray 47 (0, 0))).old (.cells (byteCells 32 []) 25 (0, 0)))
  have Kp := hid ((Blk.new (w := ((w.alloc (.cells (x.map (Value.int .u8)).toArray 25 (0, 0))).alloc (.cells (i.map (Value.int .u8)).toArray 25 (0, 0)))) (n := w.heap.size + 1 + 1) (by simp only [World.size_alloc]) (prC d (.slice ad len cap)).toArray 47).old (.cells (byteCells 32 []) 25 (0, 0)))
  have Kr := hid (Blk.new (w := (((w.alloc (.cells (x.map (Value.int .u8)).toArray 25 (0, 0))).alloc (.cells (i.map (Value.int .u8)).toArray 25 (0, 0))).alloc (.cells (prC d (.slice ad len cap)).toArray 47 (0, 0)))) (n := w.heap.size + 1 + 1 + 1) (by simp only [World.size_alloc]) (byteCells 32 []) 25)
  have Hb := hid b4
  have hbz := b4.size
  have Hbs := hid (show w.heap.size + 1 + 1 + 1 + 1 = ((((w.alloc (.cells (x.map (Value.int .u8)).toArray 25 (0, 0))).alloc (.cells (i.map (Value.int .u8)).toArray 25 (0, 0))).alloc (.cells (prC d (.slice ad len cap)).toArray 47 (0, 0))).alloc (.cells (byteCells 32 []) 25 (0, 0))).heap.size by simp only [World.size_alloc])
  clear b1 b2 b3 b4 
  go_enter Tryz.func117, Tryz.ntmps117
  go_wp2_with (refine wpList_load_blk rfl 47 _ rfl (w.heap.size + 1 + 1) rfl _ 47 Kp.out _ Tryz.underlying47 rfl 33 size_proof (prC_size hd _) ?_)
  have CK := hid (fun W : World => complete_any d ad len cap W hd)
  rw [decide_eq_false hn] at CK
  refine (CK.out _).mono ?_
  rintro e w1 ⟨rfl, bw1⟩
  have HBw1 := hid (Below.on Hb.out bw1)
  have hsw1 := HBw1.out.size
  have Kxw1 := hid (Kx.out.below bw1)
  have Kiw1 := hid (Ki.out.below bw1)
  have Kpw1 := hid (Kp.out.below bw1)
  have Krw1 := hid (Kr.out.below bw1)
  clear bw1
  go_wp2_with (
      refine wpList_store_blk rfl 25 _ _ rfl (w.heap.size + 1 + 1 + 1) (byteCells 32 []) rfl rfl _ 25 Krw1.out 32 size_digest zsize zsize (by decide +kernel) ?_
      intro w9 hb9 hk9
      have HB9 := hid (hb9.below HBw1.out HBw1.out.size (by omega))
      have HK9 := hid hk9
      clear hb9 hk9)
  exact bodyPost_ret (v := .tuple #[.agg (byteCells 32 []), .int .i64 2]) (results_blk_tmp Tryz.results117 _ (w.heap.size + 1 + 1 + 1) rfl _ rfl _ 25 HK9.out _ Tryz.underlying25 rfl 32 size_digest zsize) rfl ⟨rfl, HB9.out⟩
end Go.Proofs.YtkakoiaahgchmaaGreatDoor
namespace Go.Proofs.YtkakoiaahgchmaaGreatDoor
set_option maxRecDepth 100000
open Go.ChangeShapes Go.WideShapes Go.ChangeAt Go.RowKit
/-- The sibling of a level. -/
def sibL (d : List Int) (ns : List (List Int)) (k : Nat) : List Int := if knB d k then ns.getD (knN d k) [] else emptyL k
/-- A step up. -/
def stepL (i : List Int) (k : Nat) (x s : List Int) : List Int := if bitL i k = 0 then nodeL x s else nodeL s x
/-- Where one comes to. -/
def climbK (d i : List Int) (ns : List (List Int)) (x : List Int) : Nat → List Int
  | 0 => x
  | k + 1 => stepL i k (climbK d i ns x k) (sibL d ns k)
theorem Dg.stepL (i : List Int) (k : Nat) (x s : List Int) : Dg (stepL i k x s) := by
  unfold Go.Proofs.YtkakoiaahgchmaaGreatDoor.stepL
  split
  · exact Dg.nodeL _ _
  · exact Dg.nodeL _ _
theorem Dg.climbK {x : List Int} (hx : Dg x) (d i : List Int) (ns : List (List Int)) (k : Nat) : Dg (climbK d i ns x k) := by
  cases k with
  | zero => exact hx
  | succ k => exact Dg.stepL _ _ _ _
theorem own_at {w : World} {base : Nat} {e : TypeId} {ea : Option Addr} {en ec k : Nat} {ds : List (List Int)} (h : OwnD w base e (.slice ea en ec) ds) (hk : k < ds.length) :
    ∃ g o, ea = some ⟨g, o, none⟩ ∧ (base ≤ g ∧ g < w.heap.size) ∧ w.rangeAt g (o + k * 32) ((ds.getD k []).map (Value.int .u8)) := by
  obtain ⟨a, cap, hv, hd, ha⟩ := h.digs
  cases hv
  obtain ⟨g, o, rfl, hg, hr⟩ := hd.at_ (by omega)
  refine ⟨g, o, rfl, ⟨?_, hg⟩, hr k hk⟩
  rcases ha with ha | ⟨g', ha, hb⟩
  · cases ha
  · cases ha; exact hb
theorem But.ownD2 {b base g o n c : Nat} {w w' : World} {ds : List (List Int)} (hb : But b w w') (h : OwnD w base 25 (.slice (some ⟨g, o, none⟩) n c) ds) (hne : g ≠ b) : OwnD w' base 25 (.slice (some ⟨g, o, none⟩) n c) ds := by
  obtain ⟨⟨h1, h2⟩, h3⟩ := h
  refine ⟨⟨h1, h2.imp id ?_⟩, h3⟩
  rintro ⟨g, cap, cur, hv, hg, hh, hle, hmx, hsz, htk⟩
  cases hv
  have hk : Blk w _ cur 25 := hh
  exact ⟨_, _, cur, rfl, hg, hb.blk hk hne, hle, hmx, hsz, htk⟩
set_option maxHeartbeats 4000000 in
theorem refclimb_any_q (x i d : List Int) (ad : Option Addr) (len cap : Nat) (ns : List (List Int)) (w : World) (hx : Dg x) (hi : Dg i) (hd : Dg d) (hn : knN d 256 = len) (hns : DigsAt w ad len cap ns) :
    Calls Tryz.prog 40 #[.agg (x.map (Value.int .u8)).toArray, .agg (i.map (Value.int .u8)).toArray, .agg (d.map (Value.int .u8)).toArray, .slice ad len cap] w fun e w' => e = .returned (.agg ((climbK d i ns x 256).map (Value.int .u8)).toArray) ∧ Below w.heap.size w w' := by
  have b1 := (Below.refl w.heap.size w).alloc (Nat.le_refl _) (.cells (x.map (Value.int .u8)).toArray 25 (0, 0))
  have b2 := b1.alloc b1.size (.cells (i.map (Value.int .u8)).toArray 25 (0, 0))
  have b3 := b2.alloc b2.size (.cells (d.map (Value.int .u8)).toArray 25 (0, 0))
  have b4 := b3.alloc b3.size (.cells (byteCells 32 []) 25 (0, 0))
  have Kx := hid ((((Blk.new (w := w) (n := w.heap.size) rfl (x.map (Value.int .u8)).toArray 25).old (.cells (i.map (Value.int .u8)).toArray 25 (0, 0))).old (.cells (d.map (Value.int .u8)).toArray 25 (0, 0))).old (.cells (byteCells 32 []) 25 (0, 0)))
  have Ki := hid (((Blk.new (w := (w.alloc (.cells (x.map (Value.int .u8)).toArray 25 (0, 0)))) (n := w.heap.size + 1) (by simp only [World.size_alloc]) (i.map (Value.int .u8)).toArray 25).old (.cells (d.map (Value.int .u8)).toArray 25 (0, 0))).old (.cells (byteCells 32 []) 25 (0, 0)))
  have Kd := hid ((Blk.new (w := ((w.alloc (.cells (x.map (Value.int .u8)).toArray 25 (0, 0))).alloc (.cells (i.map (Value.int .u8)).toArray 25 (0, 0)))) (n := w.heap.size + 1 + 1) (by simp only [World.size_alloc]) (d.map (Value.int .u8)).toArray 25).old (.cells (byteCells 32 []) 25 (0, 0)))
  have Kr := hid (Blk.new (w := (((w.alloc (.cells (x.map (Value.int .u8)).toArray 25 (0, 0))).alloc (.cells (i.map (Value.int .u8)).toArray 25 (0, 0))).alloc (.cells (d.map (Value.int .u8)).toArray 25 (0, 0)))) (n := w.heap.size + 1 + 1 + 1) (by simp only [World.size_alloc]) (byteCells 32 []) 25)
  have Hb := hid b4
  have hbz := b4.size
  have Hbs := hid (show w.heap.size + 1 + 1 + 1 + 1 = ((((w.alloc (.cells (x.map (Value.int .u8)).toArray 25 (0, 0))).alloc (.cells (i.map (Value.int .u8)).toArray 25 (0, 0))).alloc (.cells (d.map (Value.int .u8)).toArray 25 (0, 0))).alloc (.cells (byteCells 32 []) 25 (0, 0))).heap.size by simp only [World.size_alloc])
  clear b1 b2 b3 b4 
  go_enter Tryz.func40, Tryz.ntmps40
  go_wp2_with fail
  refine (refempty_any _).mono ?_
  rintro e w1 ⟨v, rfl, b1, ho⟩
  have HB1 := hid (Below.on Hb.out b1)
  have hs1 := HB1.out.size
  have Kx1 := hid (Kx.out.below b1)
  have Ki1 := hid (Ki.out.below b1)
  have Kd1 := hid (Kd.out.below b1)
  have Kr1 := hid (Kr.out.below b1)
  have ho := ho.re (base' := w.heap.size + 1 + 1 + 1 + 1) (Nat.le_of_eq Hbs.out)
  obtain ⟨ea, ec, rfl, -, -⟩ := ho.digs
  rw [empN_length] at ho ⊢
  have HO1 := hid ho
  clear b1 ho
  go_wp2_with fail
  go_loopw [10, 11, 12] (fun av kv _ wr => ∃ k : Nat, k ≤ 256 ∧ kv = .int .i64 k ∧ av = .int .i64 (knN d k : Nat) ∧ Blk wr w.heap.size ((climbK d i ns x k).map (Value.int .u8)).toArray 25 ∧ Blk wr (w.heap.size + 1) (i.map (Value.int .u8)).toArray 25 ∧ Blk wr (w.heap.size + 1 + 1) (d.map (Value.int .u8)).toArray 25 ∧ Blk wr (w.heap.size + 1 + 1 + 1) (byteCells 32 []) 25 ∧ OwnD wr (w.heap.size + 1 + 1 + 1 + 1) 25 (.slice ea 257 ec) (empN 257) ∧ Below w.heap.size w wr) (fun _ kv _ _ => 256 - (intOf kv).toNat)
  case atStart => exact ⟨0, Nat.zero_le _, rfl, rfl, Kx1.out, Ki1.out, Kd1.out, Kr1.out, HO1.out, HB1.out⟩
  case round =>
    obtain ⟨k, hk, rfl, rfl, kx, ki, kd, kr, ho, bel⟩ := hrel
    have Kxwr := hid kx
    have Kiwr := hid ki
    have Kdwr := hid kd
    have Krwr := hid kr
    have HBwr := hid bel
    have KOwr := hid ho
    have hswr := bel.size
    have hrl := kr.lt
    have hnk := knN_le d k
    clear kx ki kd kr bel
    by_cases hlt : k < 256
    · skip
      have hc0 : (k : Int) < 256 := by omega
      obtain ⟨g, o, rfl, ⟨hgb, hgl⟩, hr0⟩ := own_at ho (show k < (empN 257).length by rw [empN_length]; omega)
      rw [empN_get (by omega)] at hr0
      have Hr0 := hid hr0
      have HE := hid (Dg.emptyL k)
      have HI0 := hid hi
      have HD0 := hid hd
      have HX0 := hid (Dg.climbK hx d i ns k)
      have CK := hid (fun W : World => refkn_any d k W hd hlt)
      have CB := hid (fun W : World => refbit_in i k W hi hlt)
      have HN := hid (show knN d (k + 1) = knN d k + (if knB d k then 1 else 0) from rfl)
      have HS := hid (show climbK d i ns x (k + 1) = stepL i k (climbK d i ns x k) (sibL d ns k) from rfl)
      have HSB := hid (show sibL d ns k = if knB d k then ns.getD (knN d k) [] else emptyL k from rfl)
      generalize climbK d i ns x k = X at *
      generalize emptyL k = E at *
      clear ho hr0
      go_wp2_with (first
         | (refine wpList_index_digs rfl 33 _ _ rfl Tryz.underlying33 size_digest g o 257 ec rfl _ _ rfl k rfl (by omega) ?_)
         | (refine wpList_load_mid rfl 25 _ rfl g (o + k * 32) rfl _ _ Hr0.out Tryz.underlying25 rfl (by rw [List.length_map, HE.out.len]; exact size_digest) ?_)
         | (
            refine wpList_store_blk rfl 25 _ _ rfl (wr.heap.size) (E.map (Value.int .u8)).toArray rfl rfl _ 25 (Blk.new rfl (byteCells 32 []) _) 32 size_digest zsize HE.out.size (ints_one _ _) ?_
            intro w21 hbw21 hkw21
            have hw21 := hbw21.below ((Below.refl wr.heap.size wr).alloc (Nat.le_refl _) _) (by simp only [World.size_alloc]; omega) (Nat.le_refl _)
            have HBw21 := hid (Below.on HBwr.out hw21)
            have hsw21 := HBw21.out.size
            have Kxw21 := hid (Kxwr.out.below hw21)
            have hlxw21 := Kxwr.out.lt
            have Kiw21 := hid (Kiwr.out.below hw21)
            have hliw21 := Kiwr.out.lt
            have Kdw21 := hid (Kdwr.out.below hw21)
            have hldw21 := Kdwr.out.lt
            have Krw21 := hid (Krwr.out.below hw21)
            have hlrw21 := Krwr.out.lt
            have KOw21 := hid (KOwr.out.below hw21)
            have hlOw21 := KOwr.out.lt
            have Ksw21 := hid hkw21
            have hfw21 : w.heap.size ≤ wr.heap.size := HBwr.out.size
            clear hbw21 hkw21 hw21)
         | (refine wpList_load_blk rfl 25 _ rfl ((w.heap.size + 1 + 1)) rfl _ 25 Kdw21.out _ Tryz.underlying25 rfl 32 size_digest HD0.out.size ?_))
      refine (CK.out _).mono ?_
      rintro e w22 ⟨rfl, bw22⟩
      have HBw22 := hid (Below.on HBw21.out bw22)
      have hsw22 := HBw22.out.size
      have Kxw22 := hid (Kxw21.out.below bw22)
      have Kiw22 := hid (Kiw21.out.below bw22)
      have Kdw22 := hid (Kdw21.out.below bw22)
      have Krw22 := hid (Krw21.out.below bw22)
      have KOw22 := hid (KOw21.out.below bw22)
      have Ksw22 := hid (Ksw21.out.below bw22)
      clear bw22
      have HK8 := hid hnk
      clear hnk
      cases hB : knB d k
      · skip
        rw [hB] at HN HSB
        clear hB
        rw [if_neg (by simp)] at HSB
        generalize hQ : knN d k = q at *
        clear hQ
        go_wp2_with (refine wpList_load_blk rfl 25 _ rfl ((w.heap.size + 1)) rfl _ 25 Kiw22.out _ Tryz.underlying25 rfl 32 size_digest HI0.out.size ?_)
        refine (CB.out _).mono ?_
        rintro e w23 ⟨rfl, bw23⟩
        have HBw23 := hid (Below.on HBw22.out bw23)
        have hsw23 := HBw23.out.size
        have Kxw23 := hid (Kxw22.out.below bw23)
        have Kiw23 := hid (Kiw22.out.below bw23)
        have Kdw23 := hid (Kdw22.out.below bw23)
        have Krw23 := hid (Krw22.out.below bw23)
        have KOw23 := hid (KOw22.out.below bw23)
        have Ksw23 := hid (Ksw22.out.below bw23)
        clear bw23
        by_cases hb : bitL i k = 0
        · skip
          have HS2 := hid (show stepL i k X E = nodeL X E by unfold Go.Proofs.YtkakoiaahgchmaaGreatDoor.stepL; rw [if_pos hb])
          have CN := hid (fun W : World => refnode_any X E W HX0.out HE.out)
          have HX9 := hid (Dg.nodeL X E)
          generalize hX9 : nodeL X E = X9 at *
          have HE9 := hid hX9
          clear hX9
          generalize bitL i k = bv at *
          go_wp2_with (first
             | (refine wpList_load_blk rfl 25 _ rfl (w.heap.size) rfl _ 25 Kxw23.out _ Tryz.underlying25 rfl 32 size_digest HX0.out.size ?_)
             | (refine wpList_load_blk rfl 25 _ rfl (wr.heap.size) rfl _ 25 Ksw23.out _ Tryz.underlying25 rfl 32 size_digest HE.out.size ?_))
          refine (CN.out _).mono ?_
          rintro e w24 ⟨rfl, bw24⟩
          have HBw24 := hid (Below.on HBw23.out bw24)
          have hsw24 := HBw24.out.size
          have Kxw24 := hid (Kxw23.out.below bw24)
          have Kiw24 := hid (Kiw23.out.below bw24)
          have Kdw24 := hid (Kdw23.out.below bw24)
          have Krw24 := hid (Krw23.out.below bw24)
          have KOw24 := hid (KOw23.out.below bw24)
          have Ksw24 := hid (Ksw23.out.below bw24)
          clear bw24
          go_wp2_with (
                refine wpList_store_blk rfl 25 _ _ rfl (w.heap.size) (X9.map (Value.int .u8)).toArray rfl rfl _ 25 Kxw24.out 32 size_digest HX0.out.size HX9.out.size (ints_one _ _) ?_
                intro w25 hbw25 hkw25
                have HBw25 := hid (hbw25.below HBw24.out HBw24.out.size (by omega))
                have hsw25 := HBw25.out.size
                have Kiw25 := hid (hbw25.blk Kiw24.out (by have := Kiw24.out.lt; omega))
                have Kdw25 := hid (hbw25.blk Kdw24.out (by have := Kdw24.out.lt; omega))
                have Krw25 := hid (hbw25.blk Krw24.out (by have := Krw24.out.lt; omega))
                have KOw25 := hid (hbw25.ownD2 KOw24.out (by omega))
                have Ksw25 := hid (hbw25.blk Ksw24.out (by have := Ksw24.out.lt; omega))
                have Kxw25 := hid hkw25
                clear hbw25 hkw25)
          exact ⟨⟨k + 1, by omega, by first | rfl | simp, by rw [HN.out]; first | rfl | (rw [show wrap64 ((q : Int) + 1) = (q : Int) + 1 by have := HK8.out; unfold wrap64; omega]; simp), by rw [HS.out, HSB.out, HS2.out]; exact Kxw25.out, Kiw25.out, Kdw25.out, Krw25.out, KOw25.out, HBw25.out⟩, by simp [intOf]; omega⟩
        · skip
          have HS2 := hid (show stepL i k X E = nodeL E X by unfold Go.Proofs.YtkakoiaahgchmaaGreatDoor.stepL; rw [if_neg hb])
          have CN := hid (fun W : World => refnode_any E X W HE.out HX0.out)
          have HX9 := hid (Dg.nodeL E X)
          generalize hX9 : nodeL E X = X9 at *
          have HE9 := hid hX9
          clear hX9
          generalize bitL i k = bv at *
          go_wp2_with (first
             | (refine wpList_load_blk rfl 25 _ rfl (w.heap.size) rfl _ 25 Kxw23.out _ Tryz.underlying25 rfl 32 size_digest HX0.out.size ?_)
             | (refine wpList_load_blk rfl 25 _ rfl (wr.heap.size) rfl _ 25 Ksw23.out _ Tryz.underlying25 rfl 32 size_digest HE.out.size ?_))
          refine (CN.out _).mono ?_
          rintro e w24 ⟨rfl, bw24⟩
          have HBw24 := hid (Below.on HBw23.out bw24)
          have hsw24 := HBw24.out.size
          have Kxw24 := hid (Kxw23.out.below bw24)
          have Kiw24 := hid (Kiw23.out.below bw24)
          have Kdw24 := hid (Kdw23.out.below bw24)
          have Krw24 := hid (Krw23.out.below bw24)
          have KOw24 := hid (KOw23.out.below bw24)
          have Ksw24 := hid (Ksw23.out.below bw24)
          clear bw24
          go_wp2_with (
                refine wpList_store_blk rfl 25 _ _ rfl (w.heap.size) (X9.map (Value.int .u8)).toArray rfl rfl _ 25 Kxw24.out 32 size_digest HX0.out.size HX9.out.size (ints_one _ _) ?_
                intro w25 hbw25 hkw25
                have HBw25 := hid (hbw25.below HBw24.out HBw24.out.size (by omega))
                have hsw25 := HBw25.out.size
                have Kiw25 := hid (hbw25.blk Kiw24.out (by have := Kiw24.out.lt; omega))
                have Kdw25 := hid (hbw25.blk Kdw24.out (by have := Kdw24.out.lt; omega))
                have Krw25 := hid (hbw25.blk Krw24.out (by have := Krw24.out.lt; omega))
                have KOw25 := hid (hbw25.ownD2 KOw24.out (by omega))
                have Ksw25 := hid (hbw25.blk Ksw24.out (by have := Ksw24.out.lt; omega))
                have Kxw25 := hid hkw25
                clear hbw25 hkw25)
          exact ⟨⟨k + 1, by omega, by first | rfl | simp, by rw [HN.out]; first | rfl | (rw [show wrap64 ((q : Int) + 1) = (q : Int) + 1 by have := HK8.out; unfold wrap64; omega]; simp), by rw [HS.out, HSB.out, HS2.out]; exact Kxw25.out, Kiw25.out, Kdw25.out, Krw25.out, KOw25.out, HBw25.out⟩, by simp [intOf]; omega⟩
      · skip
        rw [hB] at HN HSB
        clear hB
        have hkl : knN d k < len := by
          have h1 := knN_mono d (show k + 1 ≤ 256 by omega)
          rw [HN.out, if_pos rfl] at h1
          omega
        obtain ⟨g2, o2, rfl, -, hr2⟩ := (hns.below HBw22.out).at_ (by omega)
        have Hr2 := hid (hr2 _ hkl)
        have HY := hid (hns.get hkl)
        rw [if_pos rfl] at HSB
        generalize ns.getD (knN d k) [] = Y at *
        generalize hQ : knN d k = q at *
        clear hQ hr2
        go_wp2_with (first
           | (refine wpList_index_digs rfl 33 _ _ rfl Tryz.underlying33 size_digest g2 o2 len cap rfl _ _ rfl q rfl hkl ?_)
           | (refine wpList_load_mid rfl 25 _ rfl g2 (o2 + q * 32) rfl _ _ Hr2.out Tryz.underlying25 rfl (by rw [List.length_map, HY.out.len]; exact size_digest) ?_)
           | (
              refine wpList_store_blk rfl 25 _ _ rfl (wr.heap.size) (Y.map (Value.int .u8)).toArray rfl rfl _ 25 Ksw22.out 32 size_digest HE.out.size HY.out.size (ints_one _ _) ?_
              intro w23 hbw23 hkw23
              have HBw23 := hid (hbw23.below HBw22.out HBw22.out.size (by omega))
              have hsw23 := HBw23.out.size
              have Kxw23 := hid (hbw23.blk Kxw22.out (by have := Kxw22.out.lt; omega))
              have Kiw23 := hid (hbw23.blk Kiw22.out (by have := Kiw22.out.lt; omega))
              have Kdw23 := hid (hbw23.blk Kdw22.out (by have := Kdw22.out.lt; omega))
              have Krw23 := hid (hbw23.blk Krw22.out (by have := Krw22.out.lt; omega))
              have KOw23 := hid (hbw23.ownD2 KOw22.out (by omega))
              have Ksw23 := hid hkw23
              clear hbw23 hkw23)
           | (refine wpList_load_blk rfl 25 _ rfl ((w.heap.size + 1)) rfl _ 25 Kiw23.out _ Tryz.underlying25 rfl 32 size_digest HI0.out.size ?_))
        refine (CB.out _).mono ?_
        rintro e w24 ⟨rfl, bw24⟩
        have HBw24 := hid (Below.on HBw23.out bw24)
        have hsw24 := HBw24.out.size
        have Kxw24 := hid (Kxw23.out.below bw24)
        have Kiw24 := hid (Kiw23.out.below bw24)
        have Kdw24 := hid (Kdw23.out.below bw24)
        have Krw24 := hid (Krw23.out.below bw24)
        have KOw24 := hid (KOw23.out.below bw24)
        have Ksw24 := hid (Ksw23.out.below bw24)
        clear bw24
        by_cases hb : bitL i k = 0
        · skip
          have HS2 := hid (show stepL i k X Y = nodeL X Y by unfold Go.Proofs.YtkakoiaahgchmaaGreatDoor.stepL; rw [if_pos hb])
          have CN := hid (fun W : World => refnode_any X Y W HX0.out HY.out)
          have HX9 := hid (Dg.nodeL X Y)
          generalize hX9 : nodeL X Y = X9 at *
          have HE9 := hid hX9
          clear hX9
          generalize bitL i k = bv at *
          go_wp2_with (first
             | (refine wpList_load_blk rfl 25 _ rfl (w.heap.size) rfl _ 25 Kxw24.out _ Tryz.underlying25 rfl 32 size_digest HX0.out.size ?_)
             | (refine wpList_load_blk rfl 25 _ rfl (wr.heap.size) rfl _ 25 Ksw24.out _ Tryz.underlying25 rfl 32 size_digest HY.out.size ?_))
          refine (CN.out _).mono ?_
          rintro e w25 ⟨rfl, bw25⟩
          have HBw25 := hid (Below.on HBw24.out bw25)
          have hsw25 := HBw25.out.size
          have Kxw25 := hid (Kxw24.out.below bw25)
          have Kiw25 := hid (Kiw24.out.below bw25)
          have Kdw25 := hid (Kdw24.out.below bw25)
          have Krw25 := hid (Krw24.out.below bw25)
          have KOw25 := hid (KOw24.out.below bw25)
          have Ksw25 := hid (Ksw24.out.below bw25)
          clear bw25
          go_wp2_with (
                refine wpList_store_blk rfl 25 _ _ rfl (w.heap.size) (X9.map (Value.int .u8)).toArray rfl rfl _ 25 Kxw25.out 32 size_digest HX0.out.size HX9.out.size (ints_one _ _) ?_
                intro w26 hbw26 hkw26
                have HBw26 := hid (hbw26.below HBw25.out HBw25.out.size (by omega))
                have hsw26 := HBw26.out.size
                have Kiw26 := hid (hbw26.blk Kiw25.out (by have := Kiw25.out.lt; omega))
                have Kdw26 := hid (hbw26.blk Kdw25.out (by have := Kdw25.out.lt; omega))
                have Krw26 := hid (hbw26.blk Krw25.out (by have := Krw25.out.lt; omega))
                have KOw26 := hid (hbw26.ownD2 KOw25.out (by omega))
                have Ksw26 := hid (hbw26.blk Ksw25.out (by have := Ksw25.out.lt; omega))
                have Kxw26 := hid hkw26
                clear hbw26 hkw26)
          exact ⟨⟨k + 1, by omega, by first | rfl | simp, by rw [HN.out]; first | rfl | (rw [show wrap64 ((q : Int) + 1) = (q : Int) + 1 by have := HK8.out; unfold wrap64; omega]; simp), by rw [HS.out, HSB.out, HS2.out]; exact Kxw26.out, Kiw26.out, Kdw26.out, Krw26.out, KOw26.out, HBw26.out⟩, by simp [intOf]; omega⟩
        · skip
          have HS2 := hid (show stepL i k X Y = nodeL Y X by unfold Go.Proofs.YtkakoiaahgchmaaGreatDoor.stepL; rw [if_neg hb])
          have CN := hid (fun W : World => refnode_any Y X W HY.out HX0.out)
          have HX9 := hid (Dg.nodeL Y X)
          generalize hX9 : nodeL Y X = X9 at *
          have HE9 := hid hX9
          clear hX9
          generalize bitL i k = bv at *
          go_wp2_with (first
             | (refine wpList_load_blk rfl 25 _ rfl (w.heap.size) rfl _ 25 Kxw24.out _ Tryz.underlying25 rfl 32 size_digest HX0.out.size ?_)
             | (refine wpList_load_blk rfl 25 _ rfl (wr.heap.size) rfl _ 25 Ksw24.out _ Tryz.underlying25 rfl 32 size_digest HY.out.size ?_))
          refine (CN.out _).mono ?_
          rintro e w25 ⟨rfl, bw25⟩
          have HBw25 := hid (Below.on HBw24.out bw25)
          have hsw25 := HBw25.out.size
          have Kxw25 := hid (Kxw24.out.below bw25)
          have Kiw25 := hid (Kiw24.out.below bw25)
          have Kdw25 := hid (Kdw24.out.below bw25)
          have Krw25 := hid (Krw24.out.below bw25)
          have KOw25 := hid (KOw24.out.below bw25)
          have Ksw25 := hid (Ksw24.out.below bw25)
          clear bw25
          go_wp2_with (
                refine wpList_store_blk rfl 25 _ _ rfl (w.heap.size) (X9.map (Value.int .u8)).toArray rfl rfl _ 25 Kxw25.out 32 size_digest HX0.out.size HX9.out.size (ints_one _ _) ?_
                intro w26 hbw26 hkw26
                have HBw26 := hid (hbw26.below HBw25.out HBw25.out.size (by omega))
                have hsw26 := HBw26.out.size
                have Kiw26 := hid (hbw26.blk Kiw25.out (by have := Kiw25.out.lt; omega))
                have Kdw26 := hid (hbw26.blk Kdw25.out (by have := Kdw25.out.lt; omega))
                have Krw26 := hid (hbw26.blk Krw25.out (by have := Krw25.out.lt; omega))
                have KOw26 := hid (hbw26.ownD2 KOw25.out (by omega))
                have Ksw26 := hid (hbw26.blk Ksw25.out (by have := Ksw25.out.lt; omega))
                have Kxw26 := hid hkw26
                clear hbw26 hkw26)
          exact ⟨⟨k + 1, by omega, by first | rfl | simp, by rw [HN.out]; first | rfl | (rw [show wrap64 ((q : Int) + 1) = (q : Int) + 1 by have := HK8.out; unfold wrap64; omega]; simp), by rw [HS.out, HSB.out, HS2.out]; exact Kxw26.out, Kiw26.out, Kdw26.out, Krw26.out, KOw26.out, HBw26.out⟩, by simp [intOf]; omega⟩
    · skip
      have hk7 : k = 256 := by omega
      subst hk7
      have hc0 : ¬ ((256 : Int) < 256) := by omega
      have HX0 := hid (Dg.climbK hx d i ns 256)
      generalize hX : climbK d i ns x 256 = X at *
      have HE9 := hid hX
      clear hX ho
      go_wp2_with (first
         | (refine wpList_load_blk rfl 25 _ rfl (w.heap.size) rfl _ 25 Kxwr.out _ Tryz.underlying25 rfl 32 size_digest HX0.out.size ?_)
         | (
            refine wpList_store_blk rfl 25 _ _ rfl (w.heap.size + 1 + 1 + 1) (X.map (Value.int .u8)).toArray rfl rfl _ 25 Krwr.out 32 size_digest zsize HX0.out.size (ints_one _ _) ?_
            intro w9 hb9 hk9
            have HB9 := hid (hb9.below HBwr.out HBwr.out.size (by omega))
            have HK9 := hid hk9
            clear hb9 hk9))
      exact bodyPost_ret (v := .agg (X.map (Value.int .u8)).toArray) (results_blk Tryz.results40 _ (w.heap.size + 1 + 1 + 1) rfl _ 25 HK9.out _ Tryz.underlying25 rfl 32 size_digest HX0.out.size) rfl ⟨by first | rfl | rw [HE9.out], HB9.out⟩
end Go.Proofs.YtkakoiaahgchmaaGreatDoor
namespace Go.Proofs.YtkakoiaahgchmaaGreatDoor
set_option maxRecDepth 100000
open Go.ChangeShapes Go.WideShapes Go.ChangeAt Go.RowKit
set_option maxHeartbeats 4000000 in
theorem leads_ok (x o i d T : List Int) (ad : Option Addr) (len cap : Nat) (ns : List (List Int)) (w : World) (hx : Dg x) (ho : Dg o) (hi : Dg i) (hd : Dg d) (hT : Dg T) (hns : DigsAt w ad len cap ns) (tab : ShaTab w)
    (cu : ∀ W : World, DigsAt W ad len cap ns → ShaTab W → Calls Tryz.prog 117 #[.agg (x.map (Value.int .u8)).toArray, .agg (i.map (Value.int .u8)).toArray, .agg (prC d (.slice ad len cap)).toArray] W fun e w' => e = .returned (.tuple #[.agg (T.map (Value.int .u8)).toArray, .int .i64 0]) ∧ Below W.heap.size W w') :
    Calls Tryz.prog 89 #[.agg (x.map (Value.int .u8)).toArray, .agg (o.map (Value.int .u8)).toArray, .agg (i.map (Value.int .u8)).toArray, .agg (prC d (.slice ad len cap)).toArray] w fun e w' => e = .returned (.bool (decide (T = o))) ∧ Below w.heap.size w w' := by
  have b1 := (Below.refl w.heap.size w).alloc (Nat.le_refl _) (.cells (x.map (Value.int .u8)).toArray 25 (0, 0))
  have b2 := b1.alloc b1.size (.cells (o.map (Value.int .u8)).toArray 25 (0, 0))
  have b3 := b2.alloc b2.size (.cells (i.map (Value.int .u8)).toArray 25 (0, 0))
  have b4 := b3.alloc b3.size (.cells (prC d (.slice ad len cap)).toArray 47 (0, 0))
  have Kx := hid ((((Blk.new (w := w) (n := w.heap.size) rfl (x.map (Value.int .u8)).toArray 25).old (.cells (o.map (Value.int .u8)).toArray 25 (0, 0))).old (.cells (i.map (Value.int .u8)).toArray 25 (0, 0))).old (.cells (prC d (.slice ad len cap)).toArray 47 (0, 0)))
  have Ko := hid (((Blk.new (w := (w.alloc (.cells (x.map (Value.int .u8)).toArray 25 (0, 0)))) (n := w.heap.size + 1) (by simp only [World.size_alloc]) (o.map (Value.int .u8)).toArray 25).old (.cells (i.map (Value.int .u8)).toArray 25 (0, 0))).old (.cells (prC d (.slice ad len cap)).toArray 47 (0, 0)))
  have Ki := hid ((Blk.new (w := ((w.alloc (.cells (x.map (Value.int .u8)).toArray 25 (0, 0))).alloc (.cells (o.map (Value.int .u8)).toArray 25 (0, 0)))) (n := w.heap.size + 1 + 1) (by simp only [World.size_alloc]) (i.map (Value.int .u8)).toArray 25).old (.cells (prC d (.slice ad len cap)).toArray 47 (0, 0)))
  have Kp := hid (Blk.new (w := (((w.alloc (.cells (x.map (Value.int .u8)).toArray 25 (0, 0))).alloc (.cells (o.map (Value.int .u8)).toArray 25 (0, 0))).alloc (.cells (i.map (Value.int .u8)).toArray 25 (0, 0)))) (n := w.heap.size + 1 + 1 + 1) (by simp only [World.size_alloc]) (prC d (.slice ad len cap)).toArray 47)
  have Hb := hid b4
  have hbz := b4.size
  have Hbs := hid (show w.heap.size + 1 + 1 + 1 + 1 = ((((w.alloc (.cells (x.map (Value.int .u8)).toArray 25 (0, 0))).alloc (.cells (o.map (Value.int .u8)).toArray 25 (0, 0))).alloc (.cells (i.map (Value.int .u8)).toArray 25 (0, 0))).alloc (.cells (prC d (.slice ad len cap)).toArray 47 (0, 0))).heap.size by simp only [World.size_alloc])
  clear b1 b2 b3 b4 
  go_enter Tryz.func89, Tryz.ntmps89
  go_wp2_with (first
     | (refine wpList_load_blk rfl 25 _ rfl (w.heap.size) rfl _ 25 Kx.out _ Tryz.underlying25 rfl 32 size_digest hx.size ?_)
     | (refine wpList_load_blk rfl 25 _ rfl (w.heap.size + 1 + 1) rfl _ 25 Ki.out _ Tryz.underlying25 rfl 32 size_digest hi.size ?_)
     | (refine wpList_load_blk rfl 47 _ rfl (w.heap.size + 1 + 1 + 1) rfl _ 47 Kp.out _ Tryz.underlying47 rfl 33 size_proof (prC_size hd _) ?_))
  refine (cu _ (hns.below Hb.out) (tab.below Hb.out)).mono ?_
  rintro e w1 ⟨rfl, bw1⟩
  have HBw1 := hid (Below.on Hb.out bw1)
  have hsw1 := HBw1.out.size
  have Kxw1 := hid (Kx.out.below bw1)
  have Kow1 := hid (Ko.out.below bw1)
  have Kiw1 := hid (Ki.out.below bw1)
  have Kpw1 := hid (Kp.out.below bw1)
  clear bw1
  have q1 := fun W => eqD T o hT.len ho.len W
  go_wp2_with (first
     | (
        refine wpList_store_blk rfl 25 _ _ rfl (w1.heap.size) (T.map (Value.int .u8)).toArray rfl rfl _ 25 (Blk.new rfl (byteCells 32 []) _) 32 size_digest zsize hT.size (ints_one _ _) ?_
        intro w2 hbw2 hkw2
        have hw2 := hbw2.below ((Below.refl w1.heap.size w1).alloc (Nat.le_refl _) _) (by simp only [World.size_alloc]; omega) (Nat.le_refl _)
        have HBw2 := hid (Below.on HBw1.out hw2)
        have hsw2 := HBw2.out.size
        have Kxw2 := hid (Kxw1.out.below hw2)
        have hlxw2 := Kxw1.out.lt
        have Kow2 := hid (Kow1.out.below hw2)
        have hlow2 := Kow1.out.lt
        have Kiw2 := hid (Kiw1.out.below hw2)
        have hliw2 := Kiw1.out.lt
        have Kpw2 := hid (Kpw1.out.below hw2)
        have hlpw2 := Kpw1.out.lt
        have Ktw2 := hid hkw2
        have hfw2 : w.heap.size ≤ w1.heap.size := HBw1.out.size
        clear hbw2 hkw2 hw2)
     | (refine wpList_load_blk_if (by first | rfl | go_simp) 25 _ rfl (w1.heap.size) rfl _ 25 Ktw2.out _ Tryz.underlying25 rfl 32 size_digest hT.size ?_)
     | (refine wpList_load_blk_if (by first | rfl | go_simp) 25 _ rfl (w.heap.size + 1) rfl _ 25 Kow2.out _ Tryz.underlying25 rfl 32 size_digest ho.size ?_))
  go_returns
  exact ⟨by first | rfl | simp, HBw2.out⟩
set_option maxHeartbeats 4000000 in
theorem leads_no (x o i d T : List Int) (ad : Option Addr) (len cap : Nat) (ns : List (List Int)) (w : World) (hx : Dg x) (hi : Dg i) (hd : Dg d) (hT : Dg T) (hns : DigsAt w ad len cap ns) (tab : ShaTab w)
    (cu : ∀ W : World, DigsAt W ad len cap ns → ShaTab W → Calls Tryz.prog 117 #[.agg (x.map (Value.int .u8)).toArray, .agg (i.map (Value.int .u8)).toArray, .agg (prC d (.slice ad len cap)).toArray] W fun e w' => e = .returned (.tuple #[.agg (T.map (Value.int .u8)).toArray, .int .i64 2]) ∧ Below W.heap.size W w') :
    Calls Tryz.prog 89 #[.agg (x.map (Value.int .u8)).toArray, .agg (o.map (Value.int .u8)).toArray, .agg (i.map (Value.int .u8)).toArray, .agg (prC d (.slice ad len cap)).toArray] w fun e w' => e = .returned (.bool false) ∧ Below w.heap.size w w' := by
  have b1 := (Below.refl w.heap.size w).alloc (Nat.le_refl _) (.cells (x.map (Value.int .u8)).toArray 25 (0, 0))
  have b2 := b1.alloc b1.size (.cells (o.map (Value.int .u8)).toArray 25 (0, 0))
  have b3 := b2.alloc b2.size (.cells (i.map (Value.int .u8)).toArray 25 (0, 0))
  have b4 := b3.alloc b3.size (.cells (prC d (.slice ad len cap)).toArray 47 (0, 0))
  have Kx := hid ((((Blk.new (w := w) (n := w.heap.size) rfl (x.map (Value.int .u8)).toArray 25).old (.cells (o.map (Value.int .u8)).toArray 25 (0, 0))).old (.cells (i.map (Value.int .u8)).toArray 25 (0, 0))).old (.cells (prC d (.slice ad len cap)).toArray 47 (0, 0)))
  have Ko := hid (((Blk.new (w := (w.alloc (.cells (x.map (Value.int .u8)).toArray 25 (0, 0)))) (n := w.heap.size + 1) (by simp only [World.size_alloc]) (o.map (Value.int .u8)).toArray 25).old (.cells (i.map (Value.int .u8)).toArray 25 (0, 0))).old (.cells (prC d (.slice ad len cap)).toArray 47 (0, 0)))
  have Ki := hid ((Blk.new (w := ((w.alloc (.cells (x.map (Value.int .u8)).toArray 25 (0, 0))).alloc (.cells (o.map (Value.int .u8)).toArray 25 (0, 0)))) (n := w.heap.size + 1 + 1) (by simp only [World.size_alloc]) (i.map (Value.int .u8)).toArray 25).old (.cells (prC d (.slice ad len cap)).toArray 47 (0, 0)))
  have Kp := hid (Blk.new (w := (((w.alloc (.cells (x.map (Value.int .u8)).toArray 25 (0, 0))).alloc (.cells (o.map (Value.int .u8)).toArray 25 (0, 0))).alloc (.cells (i.map (Value.int .u8)).toArray 25 (0, 0)))) (n := w.heap.size + 1 + 1 + 1) (by simp only [World.size_alloc]) (prC d (.slice ad len cap)).toArray 47)
  have Hb := hid b4
  have hbz := b4.size
  have Hbs := hid (show w.heap.size + 1 + 1 + 1 + 1 = ((((w.alloc (.cells (x.map (Value.int .u8)).toArray 25 (0, 0))).alloc (.cells (o.map (Value.int .u8)).toArray 25 (0, 0))).alloc (.cells (i.map (Value.int .u8)).toArray 25 (0, 0))).alloc (.cells (prC d (.slice ad len cap)).toArray 47 (0, 0))).heap.size by simp only [World.size_alloc])
  clear b1 b2 b3 b4 
  go_enter Tryz.func89, Tryz.ntmps89
  go_wp2_with (first
     | (refine wpList_load_blk rfl 25 _ rfl (w.heap.size) rfl _ 25 Kx.out _ Tryz.underlying25 rfl 32 size_digest hx.size ?_)
     | (refine wpList_load_blk rfl 25 _ rfl (w.heap.size + 1 + 1) rfl _ 25 Ki.out _ Tryz.underlying25 rfl 32 size_digest hi.size ?_)
     | (refine wpList_load_blk rfl 47 _ rfl (w.heap.size + 1 + 1 + 1) rfl _ 47 Kp.out _ Tryz.underlying47 rfl 33 size_proof (prC_size hd _) ?_))
  refine (cu _ (hns.below Hb.out) (tab.below Hb.out)).mono ?_
  rintro e w1 ⟨rfl, bw1⟩
  have HBw1 := hid (Below.on Hb.out bw1)
  have hsw1 := HBw1.out.size
  have Kxw1 := hid (Kx.out.below bw1)
  have Kow1 := hid (Ko.out.below bw1)
  have Kiw1 := hid (Ki.out.below bw1)
  have Kpw1 := hid (Kp.out.below bw1)
  clear bw1
  go_wp2_with (
        refine wpList_store_blk rfl 25 _ _ rfl (w1.heap.size) (T.map (Value.int .u8)).toArray rfl rfl _ 25 (Blk.new rfl (byteCells 32 []) _) 32 size_digest zsize hT.size (ints_one _ _) ?_
        intro w2 hbw2 hkw2
        have hw2 := hbw2.below ((Below.refl w1.heap.size w1).alloc (Nat.le_refl _) _) (by simp only [World.size_alloc]; omega) (Nat.le_refl _)
        have HBw2 := hid (Below.on HBw1.out hw2)
        have hsw2 := HBw2.out.size
        have Kxw2 := hid (Kxw1.out.below hw2)
        have hlxw2 := Kxw1.out.lt
        have Kow2 := hid (Kow1.out.below hw2)
        have hlow2 := Kow1.out.lt
        have Kiw2 := hid (Kiw1.out.below hw2)
        have hliw2 := Kiw1.out.lt
        have Kpw2 := hid (Kpw1.out.below hw2)
        have hlpw2 := Kpw1.out.lt
        have Ktw2 := hid hkw2
        have hfw2 : w.heap.size ≤ w1.heap.size := HBw1.out.size
        clear hbw2 hkw2 hw2)
  go_returns
  exact ⟨by first | rfl | simp, HBw2.out⟩
end Go.Proofs.YtkakoiaahgchmaaGreatDoor
namespace Go.Proofs.YtkakoiaahgchmaaGreatDoor
set_option maxRecDepth 100000
open Go.ChangeShapes Go.WideShapes Go.ChangeAt Go.RowKit
theorem run_build_ent {a b : List Int} (ha : Dg a) (hb : Dg b) (w : World) : (Instr.build 130 #[(0, .agg (a.map (Value.int .u8)).toArray), (1, .agg (b.map (Value.int .u8)).toArray)]).run Tryz.prog w = .ok (.agg ((entL a b).map (Value.int .u8)).toArray) w := by
  refine run_build w _ _ _ ?_
  obtain ⟨i0, hi, hz0⟩ := Option.map_eq_some_iff.1 (show (Tryz.prog.info? 130).map (·.zero) = some (some (.agg ((entL zD zD).map (Value.int .u8)).toArray)) by kernel_rfl)
  obtain ⟨fields, hu, hq⟩ : ∃ fields, Tryz.prog.underlying 130 = some (.struct fields) ∧ fields.toList.mapM (fun f => (Tryz.prog.info? f.type).map fun i => (f.offset, i.size)) = some [(0, 32), (32, 32)] := ⟨_, Tryz.underlying130, by kernel_rfl⟩
  have hz : (Value.agg ((entL zD zD).map (Value.int .u8)).toArray).cells = ((entL zD zD).map (Value.int .u8)).toArray := rfl
  unfold Program.built
  simp only [hi, hu, hz0, hq, hz]
  have hs0 : (Value.agg (a.map (Value.int .u8)).toArray).cells.size = 32 := ha.size
  have hs1 : (Value.agg (b.map (Value.int .u8)).toArray).cells.size = 32 := hb.size
  have t0 : splice (((entL zD zD).map (Value.int .u8)).toArray).toList 0 (Value.agg (a.map (Value.int .u8)).toArray).cells.toList = (entL a zD).map (Value.int .u8) := by
    show splice ((entL zD zD).map (Value.int .u8)) 0 (a.map (Value.int .u8)) = _
    unfold splice entL
    rw [List.take_zero, List.nil_append, List.length_map, ha.len, List.map_append, List.drop_append_of_le_length (by rw [List.length_map, Dg.zero.len]; omega), List.drop_eq_nil_of_le (by rw [List.length_map, Dg.zero.len]; omega), List.nil_append, List.map_append]
  have t1 : splice ((entL a zD).map (Value.int .u8)) 32 (Value.agg (b.map (Value.int .u8)).toArray).cells.toList = (entL a b).map (Value.int .u8) := by
    show splice ((entL a zD).map (Value.int .u8)) 32 (b.map (Value.int .u8)) = _
    unfold splice entL
    rw [List.map_append, List.take_append_of_le_length (by rw [List.length_map, ha.len]; omega), List.take_of_length_le (by rw [List.length_map, ha.len]; omega), List.length_map, hb.len, List.drop_eq_nil_of_le (by simp [ha.len, Dg.zero.len]), List.append_nil, List.map_append]
  rw [fill_part _ _ 0 0 _ _ (by rw [hs0]; rfl) (by rw [hs0, two_size Dg.zero Dg.zero]; omega), t0]
  rw [fill_part _ _ 1 32 _ _ (by rw [hs1]; rfl) (by rw [hs1, two_size ha Dg.zero]; omega), List.toList_toArray, t1, Instr.fill]
theorem quiet_build_ent {op : Oper} {a : Act} {C : World → Prop} {K : Act → Prop} (x y : Operand) (u v r : Value) (ho : op.op = .build 130 #[(0, x), (1, y)]) (hx : a.eval x = u) (hy : a.eval y = v) (hr : ∀ w', (Instr.build 130 #[(0, u), (1, v)]).run Tryz.prog w' = .ok r w') (h : K (a.put op.dst r)) : op.quiet Tryz.prog a C K :=
  ⟨r, fun w' _ => by
    unfold Oper.quietAt execOp
    simp only [ho, List.map_toArray, List.map_cons, List.map_nil, hx, hy, Sem.run_bind, hr w', Result.andThen_ok, Sem.run_pure]
    simp [Oper.quietUpon], h⟩
set_option maxHeartbeats 4000000 in
theorem present_any (o i c d : List Int) (ad : Option Addr) (len cap : Nat) (ns : List (List Int)) (b : Bool) (w : World) (ho : Dg o) (hi : Dg i) (hc : Dg c) (hd : Dg d) (hns : DigsAt w ad len cap ns) (tab : ShaTab w)
    (cl : ∀ W : World, DigsAt W ad len cap ns → ShaTab W → Calls Tryz.prog 89 #[.agg ((leafE i c).map (Value.int .u8)).toArray, .agg (o.map (Value.int .u8)).toArray, .agg (i.map (Value.int .u8)).toArray, .agg (prC d (.slice ad len cap)).toArray] W fun e w' => e = .returned (.bool b) ∧ Below W.heap.size W w') :
    Calls Tryz.prog 48 #[.agg (o.map (Value.int .u8)).toArray, .agg (i.map (Value.int .u8)).toArray, .agg (c.map (Value.int .u8)).toArray, .agg (prC d (.slice ad len cap)).toArray] w fun e w' => e = .returned (.bool b) ∧ Below w.heap.size w w' := by
  have CL := hid (fun (W : World) (t : ShaTab W) => leaf_any_q i c W hi hc t)
  have CD := hid cl
  have HBE := hid (fun W : World => run_build_ent hi hc W)
  clear cl
  generalize leafE i c = L at *
  have b1 := (Below.refl w.heap.size w).alloc (Nat.le_refl _) (.cells (o.map (Value.int .u8)).toArray 25 (0, 0))
  have b2 := b1.alloc b1.size (.cells (i.map (Value.int .u8)).toArray 25 (0, 0))
  have b3 := b2.alloc b2.size (.cells (c.map (Value.int .u8)).toArray 25 (0, 0))
  have b4 := b3.alloc b3.size (.cells (prC d (.slice ad len cap)).toArray 47 (0, 0))
  have Ko := hid ((((Blk.new (w := w) (n := w.heap.size) rfl (o.map (Value.int .u8)).toArray 25).old (.cells (i.map (Value.int .u8)).toArray 25 (0, 0))).old (.cells (c.map (Value.int .u8)).toArray 25 (0, 0))).old (.cells (prC d (.slice ad len cap)).toArray 47 (0, 0)))
  have Ki := hid (((Blk.new (w := (w.alloc (.cells (o.map (Value.int .u8)).toArray 25 (0, 0)))) (n := w.heap.size + 1) (by simp only [World.size_alloc]) (i.map (Value.int .u8)).toArray 25).old (.cells (c.map (Value.int .u8)).toArray 25 (0, 0))).old (.cells (prC d (.slice ad len cap)).toArray 47 (0, 0)))
  have Kc := hid ((Blk.new (w := ((w.alloc (.cells (o.map (Value.int .u8)).toArray 25 (0, 0))).alloc (.cells (i.map (Value.int .u8)).toArray 25 (0, 0)))) (n := w.heap.size + 1 + 1) (by simp only [World.size_alloc]) (c.map (Value.int .u8)).toArray 25).old (.cells (prC d (.slice ad len cap)).toArray 47 (0, 0)))
  have Kp := hid (Blk.new (w := (((w.alloc (.cells (o.map (Value.int .u8)).toArray 25 (0, 0))).alloc (.cells (i.map (Value.int .u8)).toArray 25 (0, 0))).alloc (.cells (c.map (Value.int .u8)).toArray 25 (0, 0)))) (n := w.heap.size + 1 + 1 + 1) (by simp only [World.size_alloc]) (prC d (.slice ad len cap)).toArray 47)
  have Hb := hid b4
  have hbz := b4.size
  have Hbs := hid (show w.heap.size + 1 + 1 + 1 + 1 = ((((w.alloc (.cells (o.map (Value.int .u8)).toArray 25 (0, 0))).alloc (.cells (i.map (Value.int .u8)).toArray 25 (0, 0))).alloc (.cells (c.map (Value.int .u8)).toArray 25 (0, 0))).alloc (.cells (prC d (.slice ad len cap)).toArray 47 (0, 0))).heap.size by simp only [World.size_alloc])
  have Htab := hid tab
  clear b1 b2 b3 b4 tab 
  go_enter Tryz.func48, Tryz.ntmps48
  go_wp2_with fail
  refine wp_region_flow 8 (List.range 8) [] [] (by kernel_rfl) (by kernel_rfl) ?_
  apply Exists.intro
  refine ⟨fun w0 hb0 hF0 => ?_, ?_⟩
  · skip
    have x0 : ∀ w', (∃ x : Ext w0, w' = x.at_) → ∃ T, Blk w' (w.heap.size) (o.map (Value.int .u8)).toArray T := fun w' ⟨x, hx⟩ => ⟨_, hx ▸ (Ko.out.below hb0).below x.same⟩
    have x1 : ∀ w', (∃ x : Ext w0, w' = x.at_) → ∃ T, Blk w' (w.heap.size + 1) (i.map (Value.int .u8)).toArray T := fun w' ⟨x, hx⟩ => ⟨_, hx ▸ (Ki.out.below hb0).below x.same⟩
    have x2 : ∀ w', (∃ x : Ext w0, w' = x.at_) → ∃ T, Blk w' (w.heap.size + 1 + 1) (c.map (Value.int .u8)).toArray T := fun w' ⟨x, hx⟩ => ⟨_, hx ▸ (Kc.out.below hb0).below x.same⟩
    have x3 : ∀ w', (∃ x : Ext w0, w' = x.at_) → ∃ T, Blk w' (w.heap.size + 1 + 1 + 1) (prC d (.slice ad len cap)).toArray T := fun w' ⟨x, hx⟩ => ⟨_, hx ▸ (Kp.out.below hb0).below x.same⟩
    have c0 := fun e : Ext w0 => CL.out e.at_ (Htab.out.below (Below.on (Below.on Hb.out hb0) e.same))
    have c1 := fun e : Ext w0 => CD.out e.at_ (hns.below (Below.on (Below.on Hb.out hb0) e.same)) (Htab.out.below (Below.on (Below.on Hb.out hb0) e.same))
    simp only [pick, List.range, List.range.loop, List.getElem?_toArray, List.getElem?_cons_succ, List.getElem?_cons_zero, Option.toList_some, List.cons_append, List.nil_append]
    repeat (first | (go_big_quiet_want; refine quiet_load_blk 25 _ rfl (w.heap.size) rfl _ x0 _ Tryz.underlying25 rfl 32 size_digest ho.size ?_; go_big_quiet_on; simp only [Act.put, List.setIfInBounds_toArray, List.set_cons_zero, List.set_cons_succ]) | (go_big_quiet_want; refine quiet_load_blk 25 _ rfl (w.heap.size + 1) rfl _ x1 _ Tryz.underlying25 rfl 32 size_digest hi.size ?_; go_big_quiet_on; simp only [Act.put, List.setIfInBounds_toArray, List.set_cons_zero, List.set_cons_succ]) | (go_big_quiet_want; refine quiet_load_blk 25 _ rfl (w.heap.size + 1 + 1) rfl _ x2 _ Tryz.underlying25 rfl 32 size_digest hc.size ?_; go_big_quiet_on; simp only [Act.put, List.setIfInBounds_toArray, List.set_cons_zero, List.set_cons_succ]) | (go_big_quiet_want; refine quiet_load_blk 47 _ rfl (w.heap.size + 1 + 1 + 1) rfl _ x3 _ Tryz.underlying47 rfl 33 size_proof (prC_size hd _) ?_; go_big_quiet_on; simp only [Act.put, List.setIfInBounds_toArray, List.set_cons_zero, List.set_cons_succ]) | (go_big_quiet_want; refine quiet_build_ent (.tmp 9) (.tmp 10) _ _ _ rfl rfl rfl HBE.out ?_; go_big_quiet_on; simp only [Act.put, List.setIfInBounds_toArray, List.set_cons_zero, List.set_cons_succ]) | go_big_quiet_step (first | (go_at_call 90; with_reducible exact Calls.ext (c0 _)) | (go_at_call 89; with_reducible exact Calls.ext (c1 _))))
    exact wpQuiet_nil rfl
  refine AlChk.nil ?_
  refine Walk.fin fun w1 hw1 _ _ => ?_
  simp only [List.drop_succ_cons, List.drop_zero]
  have HBw1 := hid (Below.on Hb.out hw1)
  have hsw1 := HBw1.out.size
  have Kow1 := hid (Ko.out.below hw1)
  have Kiw1 := hid (Ki.out.below hw1)
  have Kcw1 := hid (Kc.out.below hw1)
  have Kpw1 := hid (Kp.out.below hw1)
  clear hw1
  go_wp2_with fail
  go_returns
  exact ⟨rfl, HBw1.out⟩
end Go.Proofs.YtkakoiaahgchmaaGreatDoor
namespace Go.Proofs.YtkakoiaahgchmaaGreatDoor
set_option maxRecDepth 100000
open Go.ChangeShapes Go.WideShapes Go.ChangeAt Go.RowKit
set_option maxHeartbeats 4000000 in
theorem absent_any (o i d : List Int) (ad : Option Addr) (len cap : Nat) (ns : List (List Int)) (b : Bool) (w : World) (ho : Dg o) (hi : Dg i) (hd : Dg d) (hns : DigsAt w ad len cap ns) (tab : ShaTab w)
    (cl : ∀ W : World, DigsAt W ad len cap ns → ShaTab W → Calls Tryz.prog 89 #[.agg ((emptyL 0).map (Value.int .u8)).toArray, .agg (o.map (Value.int .u8)).toArray, .agg (i.map (Value.int .u8)).toArray, .agg (prC d (.slice ad len cap)).toArray] W fun e w' => e = .returned (.bool b) ∧ Below W.heap.size W w') :
    Calls Tryz.prog 91 #[.agg (o.map (Value.int .u8)).toArray, .agg (i.map (Value.int .u8)).toArray, .agg (prC d (.slice ad len cap)).toArray] w fun e w' => e = .returned (.bool b) ∧ Below w.heap.size w w' := by
  have CE := hid (fun (W : World) (t : ShaTab W) => empty_any W t)
  have CD := hid cl
  have Hds := hid (empN_each 257)
  have Hlen := hid (empN_length 257)
  have Hget := hid (empN_get (n := 257) (k := 0) (by omega))
  have HE := hid (Dg.emptyL 0)
  clear cl
  generalize empN 257 = ds at *
  generalize emptyL 0 = E at *
  have b1 := (Below.refl w.heap.size w).alloc (Nat.le_refl _) (.cells (o.map (Value.int .u8)).toArray 25 (0, 0))
  have b2 := b1.alloc b1.size (.cells (i.map (Value.int .u8)).toArray 25 (0, 0))
  have b3 := b2.alloc b2.size (.cells (prC d (.slice ad len cap)).toArray 47 (0, 0))
  have Ko := hid (((Blk.new (w := w) (n := w.heap.size) rfl (o.map (Value.int .u8)).toArray 25).old (.cells (i.map (Value.int .u8)).toArray 25 (0, 0))).old (.cells (prC d (.slice ad len cap)).toArray 47 (0, 0)))
  have Ki := hid ((Blk.new (w := (w.alloc (.cells (o.map (Value.int .u8)).toArray 25 (0, 0)))) (n := w.heap.size + 1) (by simp only [World.size_alloc]) (i.map (Value.int .u8)).toArray 25).old (.cells (prC d (.slice ad len cap)).toArray 47 (0, 0)))
  have Kp := hid (Blk.new (w := ((w.alloc (.cells (o.map (Value.int .u8)).toArray 25 (0, 0))).alloc (.cells (i.map (Value.int .u8)).toArray 25 (0, 0)))) (n := w.heap.size + 1 + 1) (by simp only [World.size_alloc]) (prC d (.slice ad len cap)).toArray 47)
  have Hb := hid b3
  have hbz := b3.size
  have Hbs := hid (show w.heap.size + 1 + 1 + 1 = (((w.alloc (.cells (o.map (Value.int .u8)).toArray 25 (0, 0))).alloc (.cells (i.map (Value.int .u8)).toArray 25 (0, 0))).alloc (.cells (prC d (.slice ad len cap)).toArray 47 (0, 0))).heap.size by simp only [World.size_alloc])
  have Htab := hid tab
  clear b1 b2 b3 tab 
  go_enter Tryz.func91, Tryz.ntmps91
  go_wp2_with fail
  refine wp_region_flow 7 [3, 4, 5] [] [(.c 0, [1, 2, 6], [])] (by kernel_rfl) (by kernel_rfl) ?_
  apply Exists.intro
  refine ⟨fun w0 hb0 hF0 => ?_, ?_⟩
  · skip
    have x0 : ∀ w', (∃ x : Ext w0, w' = x.at_) → ∃ T, Blk w' (w.heap.size) (o.map (Value.int .u8)).toArray T := fun w' ⟨x, hx⟩ => ⟨_, hx ▸ (Ko.out.below hb0).below x.same⟩
    have x1 : ∀ w', (∃ x : Ext w0, w' = x.at_) → ∃ T, Blk w' (w.heap.size + 1) (i.map (Value.int .u8)).toArray T := fun w' ⟨x, hx⟩ => ⟨_, hx ▸ (Ki.out.below hb0).below x.same⟩
    have x2 : ∀ w', (∃ x : Ext w0, w' = x.at_) → ∃ T, Blk w' (w.heap.size + 1 + 1) (prC d (.slice ad len cap)).toArray T := fun w' ⟨x, hx⟩ => ⟨_, hx ▸ (Kp.out.below hb0).below x.same⟩
    simp only [pick, List.getElem?_toArray, List.getElem?_cons_succ, List.getElem?_cons_zero, Option.toList_some, List.cons_append, List.nil_append]
    repeat (first | (go_big_quiet_want; refine quiet_load_blk 25 _ rfl (w.heap.size) rfl _ x0 _ Tryz.underlying25 rfl 32 size_digest ho.size ?_; go_big_quiet_on; simp only [Act.put, List.setIfInBounds_toArray, List.set_cons_zero, List.set_cons_succ]) | (go_big_quiet_want; refine quiet_load_blk 25 _ rfl (w.heap.size + 1) rfl _ x1 _ Tryz.underlying25 rfl 32 size_digest hi.size ?_; go_big_quiet_on; simp only [Act.put, List.setIfInBounds_toArray, List.set_cons_zero, List.set_cons_succ]) | (go_big_quiet_want; refine quiet_load_blk 47 _ rfl (w.heap.size + 1 + 1) rfl _ x2 _ Tryz.underlying47 rfl 33 size_proof (prC_size hd _) ?_; go_big_quiet_on; simp only [Act.put, List.setIfInBounds_toArray, List.set_cons_zero, List.set_cons_succ]) | go_big_quiet_step (fail))
    exact wpQuiet_nil rfl
  refine AlChk.nil ?_
  refine Walk.call rfl 118 #[] (fun v w' => ∃ g, v = .slice (some ⟨g, 0, none⟩) 257 257 ∧ Blk w' g (dcs ds) 25) (fun v w' w'' h k => by obtain ⟨g, h1, h2⟩ := h; exact ⟨g, h1, h2.below k⟩) rfl (fun w1 hb1 hF1 => ⟨by go_simp, ?_⟩) ?_
  · refine (CE.out w1 (Htab.out.below (Below.on Hb.out hb1))).mono ?_
    rintro e w2 ⟨rfl, b2, k2⟩
    exact ⟨_, rfl, b2, _, rfl, k2⟩
  rintro v0 w1 hb1 hF1 ⟨g, rfl, _⟩
  apply Exists.intro
  refine ⟨fun w0 hb0 hF0 => ?_, ?_⟩
  · skip
    obtain ⟨_, g', hg', kg⟩ := hF0
    cases hg'
    have yr : ∀ w', (∃ x : Ext w0, w' = x.at_) → w'.rangeAt g (0 + 0 * 32) (E.map (Value.int .u8)) := fun w' ⟨x, hx⟩ => by
      have h := dig_rng (kg.below x.same) Hds.out (j := 0) (by rw [Hlen.out]; omega)
      rw [Hget.out] at h
      rw [hx]
      exact h
    have c0 := fun e : Ext w0 => CD.out e.at_ (hns.below (Below.on (Below.on Hb.out hb0) e.same)) (Htab.out.below (Below.on (Below.on Hb.out hb0) e.same))
    simp only [pick, List.getElem?_toArray, List.getElem?_cons_succ, List.getElem?_cons_zero, Option.toList_some, List.cons_append, List.nil_append, Act.put, List.setIfInBounds_toArray, List.set_cons_zero, List.set_cons_succ]
    repeat (first | (go_big_quiet_want; refine quiet_index_digs 33 _ _ rfl Tryz.underlying33 size_digest g 0 257 257 rfl _ _ rfl 0 rfl (by omega) ?_; go_big_quiet_on; simp only [Act.put, List.setIfInBounds_toArray, List.set_cons_zero, List.set_cons_succ]) | (go_big_quiet_want; refine quiet_load_mid 25 _ rfl g (0 + 0 * 32) rfl _ yr _ Tryz.underlying25 rfl (by rw [List.length_map, HE.out.len]; exact size_digest) ?_; go_big_quiet_on; simp only [Act.put, List.setIfInBounds_toArray, List.set_cons_zero, List.set_cons_succ]) | go_big_quiet_step (first | (go_at_call 89; with_reducible exact Calls.ext (c0 _))))
    exact wpQuiet_nil rfl
  refine AlChk.nil ?_
  refine Walk.fin fun w5 h5 hF5 _ => ?_
  simp only [List.drop_succ_cons, List.drop_zero]
  have HB5 := hid (Below.on Hb.out h5)
  clear h5 hF5
  go_wp2_with fail
  go_returns
  exact ⟨rfl, HB5.out⟩
end Go.Proofs.YtkakoiaahgchmaaGreatDoor
namespace Go.Proofs.YtkakoiaahgchmaaGreatDoor
set_option maxRecDepth 100000
open Go.ChangeShapes Go.WideShapes Go.ChangeAt Go.RowKit
set_option maxHeartbeats 4000000 in
theorem siblings_any (d : List Int) (ad : Option Addr) (len cap : Nat) (w : World) :
    Calls Tryz.prog 137 #[.agg (prC d (.slice ad len cap)).toArray] w fun e w' => e = .returned (.func (.func 147) #[] #[.pointer (some ⟨w.heap.size, 0, none⟩)]) ∧ Below w.heap.size w w' ∧ Blk w' w.heap.size (prC d (.slice ad len cap)).toArray 47 := by
  have b1 := (Below.refl w.heap.size w).alloc (Nat.le_refl _) (.cells (prC d (.slice ad len cap)).toArray 47 (0, 0))
  have Kp := hid (Blk.new (w := w) (n := w.heap.size) rfl (prC d (.slice ad len cap)).toArray 47)
  have Hb := hid b1
  have hbz := b1.size
  have Hbs := hid (show w.heap.size + 1 = (w.alloc (.cells (prC d (.slice ad len cap)).toArray 47 (0, 0))).heap.size by simp only [World.size_alloc])
  clear b1 
  go_enter Tryz.func137, Tryz.ntmps137
  go_wp2_with fail
  go_returns
  exact ⟨rfl, Hb.out, Kp.out⟩
end Go.Proofs.YtkakoiaahgchmaaGreatDoor
namespace Go.Proofs.YtkakoiaahgchmaaGreatDoor
set_option maxRecDepth 100000
open Go.ChangeShapes Go.WideShapes Go.ChangeAt Go.RowKit Go.Shelf
/-- Below block b all is as it was; from there on all cells are, but those of block b. -/
structure KeepC (b : Nat) (W W' : World) : Prop where
  low : Below b W W'
  same : ∀ (k : Nat) (o : Obj), k ≠ b → W.heap[k]? = some o → o.isCells = true → W'.heap[k]? = some o
theorem KeepC.trans {b : Nat} {X Y Z : World} (h : KeepC b X Y) (k : KeepC b Y Z) : KeepC b X Z := ⟨h.low.trans k.low, fun i o hi hx ho => k.same i o hi (h.same i o hi hx ho) ho⟩
theorem KeepC.of_below {b : Nat} {W W' : World} (hb : b ≤ W.heap.size) (h : Below W.heap.size W W') : KeepC b W W' :=
  ⟨h.mono hb, fun _ _ _ hk _ => (h.block _ (Array.getElem?_eq_some_iff.1 hk).1).trans hk⟩
theorem KeepC.of_but {b : Nat} {W W' : World} (hb : b ≤ W.heap.size) (h : But b W W') : KeepC b W W' :=
  ⟨⟨h.os, h.tape, h.output, h.size, fun k hk => h.block k (by omega) (by omega)⟩, fun _ _ hne hk _ => (h.block _ (Array.getElem?_eq_some_iff.1 hk).1 hne).trans hk⟩
theorem KeepC.putObj {b n : Nat} (hb : b ≤ n) (W : World) (l : Nat) (o o' : Obj) (hn : n ≤ l) (h : W.heap[l]? = some o) (ho : o.isCells = false) : KeepC b W (W.putObj l o') :=
  ⟨(Below.refl b W).grown (grownBy_putObj' W l o') (by have := (Array.getElem?_eq_some_iff.1 h).1; omega) (fun k e => by cases e; omega), fun k q _ hk hq => by
    by_cases e : k = l
    · subst e; rw [h] at hk; cases hk; rw [ho] at hq; cases hq
    · exact (World.putObj_heap_other e).trans hk⟩
theorem KeepC.blk {b n : Nat} {W W' : World} {cs : Array Value} {T : TypeId} (h : KeepC b W W') (k : Blk W n cs T) (hne : n ≠ b) : Blk W' n cs T := h.same n _ hne k rfl
theorem keepsFrom_below {B : Nat} {W W' : World} (h : Below W.heap.size W W') : KeepsFrom B W W' :=
  ⟨h.size, fun _ _ _ hk _ => (h.block _ (Array.getElem?_eq_some_iff.1 hk).1).trans hk⟩
theorem keepsFrom_but {b B : Nat} {W W' : World} (hb : b < B) (h : But b W W') : KeepsFrom B W W' :=
  ⟨h.size, fun _ _ hB hk _ => (h.block _ (Array.getElem?_eq_some_iff.1 hk).1 (by omega)).trans hk⟩
def noDefer (o : Oper) : Bool := match o.op with | .defer _ => false | _ => true
theorem noDefer_ne {o : Oper} (h : noDefer o = true) : ∀ c, o.op ≠ .defer c := fun c hc => by
  unfold noDefer at h
  rw [hc] at h
  cases h
theorem callsIn_any {F : Fence} (hF : F.plain = Fence.wide) {n : Nat} {P : Program} {f : FuncId} {args : Array Value} {w : World} {R : Ending → World → Prop} (h : Calls P f args w R) : CallsIn F n P f args w R := by
  have h1 : CallsIn F.plain n P f args w R := by rw [hF]; exact callsIn_wide.2 h
  exact h1
theorem rowsIn_any {F : Fence} (hF : F.plain = Fence.wide) {n : Nat} {P : Program} {row : String} {args : Array Value} {w : World} {R : Value → World → Prop} (h : Rows P row args w R) : RowsIn F n P row args w R := by
  have h1 : RowsIn F.plain n P row args w R := by
    rw [hF]
    intro c cs _
    obtain ⟨v, w1, h1, s1⟩ := h c cs
    exact ⟨v, w1, h1, stepsIn_wide.2 s1⟩
  exact h1
theorem wpListIn_pre {F : Fence} (hF : F.plain = Fence.wide) {n : Nat} {P : Program} {ops : Array Oper} {Q : Exit → Act → World → Prop} (rest : List Oper) : ∀ (L : List Oper) (a : Act) (w : World), L.all noDefer = true → wpList P ops (fun e a w => e = .normal ∧ wpListIn F n P ops Q rest a w) L a w → wpListIn F n P ops Q (L ++ rest) a w
  | [], _, _, _, h => h.2
  | o :: L, a, w, hnd, h => by
    have hfn : ∀ f, F.fn f := fun f => by
      have h1 : F.plain.fn f := by rw [hF]; trivial
      exact h1
    have hdp : F.depth = none := by
      have h1 : F.plain.depth = none := by rw [hF]; rfl
      exact h1
    rw [List.all_cons, Bool.and_eq_true] at hnd
    have ih := fun a w => wpListIn_pre hF (P := P) (ops := ops) (Q := Q) (n := n) rest L a w hnd.2
    have hout : ¬ LetsOut (fun e a w => e = Exit.normal ∧ wpListIn F n P ops Q rest a w) := fun ⟨_, _, h, _⟩ => by cases h
    unfold wpList at h
    rw [List.cons_append]
    unfold wpListIn
    split at h
    · rename_i hw
      rw [if_pos hw]
      rcases h with h | ⟨_, h⟩
      · refine ⟨fun f _ => hfn f, ?_⟩
        rw [Oper.semAt_plain F _ _ (noDefer_ne hnd.1)]
        unfold Oper.wp at h
        revert h
        generalize (execOp a.eval o).run P w = r
        intro h
        unfold Oper.upon at h
        split at h
        · exact ih _ _ h
        · exact ih _ _ h
        · exact ih _ _ h
        · refine ⟨fun h => (by rw [hdp] at h; cases h), callsIn_any hF (h.mono ?_)⟩
          intro e w1 h1
          cases e with
          | returned v => exact ih _ _ h1
          | panicked c => exact absurd h1.1 (by simp)
          | outgrown => exact (hout h1).elim
        · refine ⟨fun h => (by rw [hdp] at h; cases h), ?_⟩
          exact rowsIn_any hF (h.mono fun v w1 h1 => ih _ _ h1)
        · exact absurd h.1 (by simp)
        · exact h.elim
      · exact (hout h).elim
    · rename_i hw
      rw [if_neg hw]
      exact ⟨fun f _ => hfn f, ih _ _ h⟩
theorem wpListIn_any {F : Fence} (hF : F.plain = Fence.wide) {n : Nat} {P : Program} {ops : Array Oper} {Q : Exit → Act → World → Prop} (L : List Oper) (a : Act) (w : World) (hnd : L.all noDefer = true) (h : wpList P ops (fun e a w => e = .normal ∧ Q .normal a w) L a w) : wpListIn F n P ops Q L a w := by
  have := wpListIn_pre hF (P := P) (ops := ops) (Q := Q) (n := n) [] L a w hnd h
  rwa [List.append_nil] at this
theorem wpListIn_one {F : Fence} (hF : F.plain = Fence.wide) {n : Nat} {P : Program} {ops : Array Oper} {Q : Exit → Act → World → Prop} {rest : List Oper} {o : Oper} {a : Act} {w : World} (hnd : noDefer o = true) (h : wpList P ops (fun e a w => e = .normal ∧ wpListIn F n P ops Q rest a w) [o] a w) : wpListIn F n P ops Q (o :: rest) a w :=
  wpListIn_pre hF rest [o] a w (by simp [hnd]) h
/-- A region within a range over a function, walked as anywhere. -/
theorem wpIn_region_as {F : Fence} (hF : F.plain = Fence.wide) {n id : Nat} {P : Program} {L : List Oper} {Q : Exit → Act → World → Prop} {a : Act} {w : World} (hnd : L.all noDefer = true) (h : wpList P L.toArray (fun e a w => e = .normal ∧ Q .normal a w) L a w) : (Code.region id L.toArray false).wpIn F n P Q a w :=
  wpIn_region_lit (wpListIn_any hF L a w hnd h)
theorem grown_below {w w' : World} (h : Below w.heap.size w w') : w.grownBy w' none := ⟨h.os, h.tape, h.output, h.size, fun k hk _ => h.block k hk⟩
/-- The places up to k. -/
def upF (k : Nat) : List (Fin 256) := (List.finRange 256).take k
theorem upF_succ {k : Nat} (hk : k < 256) : upF (k + 1) = upF k ++ [⟨k, hk⟩] := by
  unfold upF
  rw [List.take_add_one, List.getElem?_eq_getElem (by rw [List.length_finRange]; exact hk)]
  simp
theorem upF_length {k : Nat} (hk : k ≤ 256) : (upF k).length = k := by
  unfold upF
  rw [List.length_take, List.length_finRange]
  omega
/-- Where one has come to when these places are climbed. -/
def foldC (d i : List Int) (ns : List (List Int)) (x : List Int) (pre : List (Fin 256)) : List Int := pre.foldl (fun X (k : Fin 256) => stepL i k.1 X (sibL d ns k.1)) x
theorem foldC_snoc (d i : List Int) (ns : List (List Int)) (x : List Int) (pre : List (Fin 256)) (k : Fin 256) : foldC d i ns x (pre ++ [k]) = stepL i k.1 (foldC d i ns x pre) (sibL d ns k.1) := by
  simp [foldC]
theorem foldC_up (d i : List Int) (ns : List (List Int)) (x : List Int) : ∀ {k : Nat}, k ≤ 256 → foldC d i ns x (upF k) = climbK d i ns x k
  | 0, _ => rfl
  | k + 1, h => by rw [upF_succ (by omega), foldC_snoc, foldC_up d i ns x (by omega)]; rfl
theorem Dg.foldC {x : List Int} (hx : Dg x) (d i : List Int) (ns : List (List Int)) (pre : List (Fin 256)) : Dg (foldC d i ns x pre) := by
  rcases List.eq_nil_or_concat pre with rfl | ⟨l, a, rfl⟩
  · exact hx
  · rw [List.concat_eq_append, foldC_snoc]; exact Dg.stepL _ _ _ _
theorem Dg.sibL {w : World} {d : List Int} {ad : Option Addr} {len cap : Nat} {ns : List (List Int)} (hn : knN d 256 = len) (hns : DigsAt w ad len cap ns) {k : Nat} (hk : k < 256) : Dg (sibL d ns k) := by
  unfold Go.Proofs.YtkakoiaahgchmaaGreatDoor.sibL
  split
  · rename_i h
    have h1 : knN d (k + 1) = knN d k + (if knB d k then 1 else 0) := rfl
    rw [if_pos h] at h1
    have h2 := knN_mono d (show k + 1 ≤ 256 by omega)
    exact Dg.getD hns.each (by rw [hns.length]; omega)
  · exact Dg.emptyL k
end Go.Proofs.YtkakoiaahgchmaaGreatDoor
namespace Go.Proofs.YtkakoiaahgchmaaGreatDoor
set_option maxRecDepth 100000
open Go.ChangeShapes Go.WideShapes Go.ChangeAt Go.RowKit Go.Shelf
attribute [local go_sem] Oper.semAt_some
theorem quiet_cut_l {op : Oper} {a : Act} {C : World → Prop} {K : Act → Prop} (x y : Operand) (ho : op.op = .slice 33 x (some y) none none) (a0 : Option Addr) (len cap n : Nat) (v : Int) (hx : a.eval x = .slice a0 len cap) (hy : a.eval y = .int .i64 v) (hv : v = n) (hn : n ≤ len)
    (h : K (a.put op.dst (.slice (cutD a0 n cap) (len - n) (cap - n)))) : op.quiet Tryz.prog a C K :=
  ⟨.slice (cutD a0 n cap) (len - n) (cap - n), fun w' _ => by
    subst hv
    have hr := run_cutd_l (P := Tryz.prog) Tryz.underlying33 size_digest a0 len cap (n : Int) w' (by omega) (by omega)
    rw [Int.toNat_natCast] at hr
    have he : Tryz.prog.elem 33 = 25 := by simp [Program.elem, Tryz.underlying33]
    have hs := run_sliceAt_slice (P := Tryz.prog) (w := w') 33 (.slice a0 len cap) (some (.int .i64 n)) none none (by rw [he]; exact Tryz.underlying33)
    rw [hr] at hs
    unfold Oper.quietAt execOp
    simp only [ho, hx, hy, Option.map_none, Option.map_some, Sem.run_bind, Sem.run_pure, Result.andThen_ok, hs]
    simp [Oper.quietUpon], h⟩
theorem cut_one {w : World} {a : Option Addr} {len cap q : Nat} {ns : List (List Int)} (h : DigsAt w a (len - q) (cap - q) (ns.drop q)) (hq : q + 1 ≤ len) : DigsAt w (cutD a 1 (cap - q)) (len - (q + 1)) (cap - (q + 1)) (ns.drop (q + 1)) := by
  have h1 := h.cut 1 (len - q) (by omega) (Nat.le_refl _)
  rw [List.drop_drop, List.take_of_length_le (by have := h.length; rw [List.length_drop] at this; rw [List.length_drop]; omega), Nat.sub_sub, Nat.sub_sub, show q + 1 = q + 1 from rfl] at h1
  exact h1
set_option maxHeartbeats 4000000 in
theorem siblings_stops (n : Nat) (d : List Int) (ad : Option Addr) (len cap : Nat) (ns : List (List Int)) (pb : Nat) (w W0 : World) (hd : Dg d) (hn : knN d 256 = len) (hns : DigsAt w ad len cap ns) (hB : Below w.heap.size w W0) (hpb : w.heap.size < pb) (hk : Blk W0 pb (prC d (.slice ad len cap)).toArray 47) (tab : ShaTab W0) :
    SeqStopsK Fence.wide n Tryz.prog 147 #[.pointer (some ⟨pb, 0, none⟩)] (fun k : Fin 256 => #[.int .i64 (k.1 : Int), .agg ((sibL d ns k.1).map (Value.int .u8)).toArray]) (KeepC w.heap.size) (fun ys => ys = upF 256) (fun pre => ∃ k, k ≤ 256 ∧ pre = upF k) 256 W0 := fun l J Jx W hW hJ hJx hY h0 => by
  have HK := hid (hk.below hW)
  have HB := hid (Below.on hB hW)
  have HT := hid (tab.below hW)
  have HNS := hid hns
  have HY := hid hY
  have HJ := hid hJ
  have H0 := hid h0
  have hpl := HK.out.lt
  have hws := HB.out.size
  have CE := hid (fun (W : World) (t : ShaTab W) => empty_any W t)
  have hEe := hid (empN_each 257)
  have hEl := hid (empN_length 257)
  have hEg := hid (fun (k : Nat) (h : k < 257) => empN_get (n := 257) (k := k) h)
  generalize empN 257 = es at *
  have c1 : W.cell? ⟨pb, 32, none⟩ = some (.slice ad len cap) := prC_nodes hd HK.out
  clear hW hB tab hns hY hJ hJx h0 hk
  refine callsIn_of_wp Tryz.func147 rfl trivial ?_ rfl
  simp only [Tryz.ntmps147, List.size_toArray, List.length_cons, List.length_nil, Nat.reduceAdd, Nat.reduceSub, Array.replicate_succ, Array.replicate_zero, List.push_toArray, List.append_toArray, List.nil_append, List.cons_append]
  apply wpIn_seq_k
  intro _ _
  refine wpIn_region_as rfl rfl ?_
  go_wp2_with fail
  apply wpIn_seq_k
  intro _ _
  refine wpIn_region_as rfl rfl ?_
  go_wp2_with fail
  refine (CE.out _ HT.out).mono ?_
  rintro e w1 ⟨rfl, b1, k1⟩
  have HK1 := hid (HK.out.below b1)
  have HB1 := hid (Below.on HB.out b1)
  have hb1s := b1.size
  have HG1 := hid k1
  have HJ1 := hid (HJ.out [] W w1 none H0.out (grown_below b1) (by intro r e; cases e))
  have hcut : ∀ W' : World, (Instr.slice 33 (.slice (some ⟨W.heap.size, 0, none⟩) 257 257) none (some (.int .i64 256)) none).run Tryz.prog W' = .ok (.slice (some ⟨W.heap.size, 0, none⟩) 256 257) W' := fun W' => by
    have h := run_cutd_h (P := Tryz.prog) Tryz.underlying33 size_digest (some ⟨W.heap.size, 0, none⟩) 257 257 256 W' (by omega) (by omega)
    exact h
  clear b1 k1 c1
  go_wp2_with fail
  apply wpIn_block
  gi_loopw [3, 11] (fun rv kv wr => ∃ k : Nat, k ≤ 256 ∧ kv = .int .i64 k ∧ (∃ ra, rv = .slice ra (len - knN d k) (cap - knN d k) ∧ DigsAt w ra (len - knN d k) (cap - knN d k) (ns.drop (knN d k))) ∧ J (upF k) wr ∧ Below w.heap.size w wr ∧ Blk wr pb (prC d (.slice ad len cap)).toArray 47 ∧ Blk wr W.heap.size (dcs es) 25) (fun _ kv _ => 256 - (intOf kv).toNat)
  case atStart => exact ⟨0, Nat.zero_le _, rfl, ⟨ad, rfl, by rw [show knN d 0 = 0 from rfl]; exact HNS.out⟩, HJ1.out, HB1.out, HK1.out, HG1.out⟩
  case round =>
    obtain ⟨k, hk, rfl, ⟨ra, rfl, hra⟩, hj, bel, kp, kg⟩ := hrel
    have HRA := hid hra
    have HKr := hid kp
    have HGr := hid kg
    have HBr := hid bel
    have HJr := hid hj
    have hsr := bel.size
    have hplr := kp.lt
    have hglr := kg.lt
    clear kp kg bel hj hra
    by_cases hlt : k < 256
    · skip
      have hc0 : (k : Int) < 256 := by omega
      apply wpIn_seq_k
      intro _ _
      refine wpIn_region_as rfl rfl ?_
      go_wp2_with fail
      apply wpIn_seq_k
      intro _ _
      refine wpIn_cond_true rfl ?_
      apply wpIn_skip
      gi_step
      gi_step
      apply wpIn_seq_k
      intro _ _
      apply wpIn_block
      apply wpIn_seq_k
      intro _ _
      have hE : es.getD k [] = emptyL k := hEg.out k (by omega)
      have HE := hid (Dg.emptyL k)
      have Hr0 := hid (by have h := dig_rng HGr.out hEe.out (j := k) (by rw [hEl.out]; omega); rw [hE] at h; exact h)
      clear hE
      refine wpIn_region_as rfl rfl ?_
      go_wp2_with (first
               | (refine wpList_index_digs rfl 33 _ _ rfl Tryz.underlying33 size_digest W.heap.size 0 256 257 rfl _ _ rfl k rfl (by omega) ?_)
               | (refine wpList_load_mid rfl 25 _ rfl W.heap.size (0 + k * 32) rfl _ _ Hr0.out Tryz.underlying25 rfl (by rw [List.length_map, HE.out.len]; exact size_digest) ?_)
               | (
               refine wpList_store_blk rfl 25 _ _ rfl (wr.heap.size) ((emptyL k).map (Value.int .u8)).toArray rfl rfl _ 25 (Blk.new rfl (byteCells 32 []) _) 32 size_digest zsize HE.out.size (ints_one _ _) ?_
               intro w2 hb2 hk2
               have b2 := hb2.below ((Below.refl wr.heap.size wr).alloc (Nat.le_refl _) _) (by simp only [World.size_alloc]; omega) (Nat.le_refl _)
               have HB2 := hid b2
               have hs2 := b2.size
               have HK2 := hid (HKr.out.below b2)
               have HG2 := hid (HGr.out.below b2)
               have HS2 := hid hk2
               have hsl2 := hk2.lt
               clear hb2 hk2 b2))
      apply wpIn_seq_k
      intro _ _
      apply wpIn_seq_k
      intro _ _
      have hxx := dg_at hd (k / 8)
      have hlen := hd.len
      have hxe : w2.cell? ⟨pb, k / 8, none⟩ = some (.int .u8 (d.getD (k / 8) 0)) := by
        have h := prC_known HK2.out (k / 8) (.int .u8 (d.getD (k / 8) 0)) (by rw [List.getElem?_map, List.getD_eq_getElem?_getD, List.getElem?_eq_getElem (by omega)]; rfl)
        rw [Nat.zero_add] at h
        exact h
      have hI0 : ¬ (k : Int) / 8 < 0 := by omega
      have hI1 : ¬ (32 : Int) ≤ (k : Int) / 8 := by omega
      have hI2 : ¬ (k : Int) % 8 < 0 := by omega
      have hkb : knB d k = decide (d.getD (k / 8) 0 / 2 ^ (k % 8) % 2 = 1) := rfl
      have hsn : knN d (k + 1) = knN d k + (if knB d k then 1 else 0) := rfl
      have hsb : sibL d ns k = if knB d k then ns.getD (knN d k) [] else emptyL k := rfl
      have hmn := knN_mono d (show k + 1 ≤ 256 by omega)
      have HSd := hid (Dg.sibL hn HNS.out (k := k) (by omega))
      have HYk := hid (HY.out (upF k) ⟨k, hlt⟩)
      dsimp only at HYk
      generalize d.getD (k / 8) 0 = x at *
      have h2 : 0 ≤ x / 2 ^ (k % 8) ∧ x / 2 ^ (k % 8) < 256 := ⟨Int.ediv_nonneg hxx.1 (Int.le_of_lt (Int.pow_pos (by omega))), Int.lt_of_le_of_lt (Int.ediv_le_self _ hxx.1) hxx.2⟩
      have hbt := and_one' h2
      generalize sibL d ns k = Sb at *
      cases hB : knB d k
      · skip
        rw [hB] at hkb hsn hsb
        clear hB
        have hc1 : (bits .and .u8 (x / 2 ^ (k % 8)) 1 == 1) = false := by
          rw [hbt]
          have := of_decide_eq_false hkb.symm
          simpa using this
        rw [if_neg (by simp)] at hsn hsb
        rw [Nat.add_zero] at hsn
        rw [← hsb] at HS2
        generalize hq : knN d k = q at *
        have HN := hid hsn
        have HQ := hid hq
        have HSB := hid hsb
        clear hbt hkb hsn hq hsb h2 hxx
        refine wpIn_region_as rfl rfl ?_
        go_wp2_with fail
        refine wpIn_cond_false rfl ?_
        apply wpIn_skip
        gi_step
        gi_step
        have HJY := hid (HJ.out (upF k) wr w2 none HJr.out (grown_below HB2.out) (by intro r e; cases e))
        have HBY := hid (Below.on HBr.out HB2.out)
        have HKY := hid HK2.out
        have HGY := hid HG2.out
        have HSY := hid HS2.out
        have hsY := HBY.out.size
        obtain ⟨fn, tmps, assign, body, hy, hR⟩ := HYk.out w2 HJY.out (by rw [upF_length (by omega)]; exact hlt)
        have HR := hid hR
        clear hR
        apply wpIn_seq_k
        intro _ _
        apply wpIn_region_lit
        gi_wp2_with (refine wpListIn_one (F := Fence.wide) rfl rfl ?_; refine wpList_load_blk rfl 25 _ rfl (wr.heap.size) rfl _ 25 HSY.out _ Tryz.underlying25 rfl 32 size_digest HSd.out.size ?_; refine wpList_nil ⟨rfl, ?_⟩)
        refine ⟨fun h => (by simp [Fence.wide] at h), HR.out.mono ?_⟩
        rintro e W3 (⟨rfl, hJ3, hk3⟩ | ⟨rfl, hJx3⟩)
        · skip
          have HJ3 := hid hJ3
          have HK3 := hid hk3
          clear hJ3 hk3
          gi_wp2_with fail
          go_roundw
          case rel => exact ⟨k + 1, by omega, by simp, ⟨ra, by simp only [HN.out, Nat.add_zero], by simp only [HN.out, Nat.add_zero]; exact HRA.out⟩, by rw [upF_succ hlt]; exact HJ3.out, HBY.out.trans HK3.out.low, HK3.out.blk HKY.out (by omega), HK3.out.blk HGY.out (by omega)⟩
          case measure => simp [intOf]; omega
        · skip
          have HJ3 := hid hJx3
          clear hJx3
          gi_wp2_with fail
          refine bodyPost_ret (results_none rfl _ _ _) rfl ?_
          exact ⟨⟨_, rfl⟩, .inr ⟨_, ⟨k + 1, by omega, rfl⟩, by rw [upF_succ hlt]; exact HJ3.out⟩⟩
      · skip
        rw [hB] at hkb hsn hsb
        clear hB
        have hc1 : (bits .and .u8 (x / 2 ^ (k % 8)) 1 == 1) = true := by
          rw [hbt]
          have := of_decide_eq_true hkb.symm
          simpa using this
        rw [if_pos rfl] at hsn hsb
        generalize hq : knN d k = q at *
        have hql : q + 1 ≤ len := by omega
        have HN := hid hsn
        have HQ := hid hq
        have HSB := hid hsb
        clear hbt hkb hsn hq hsb h2 hxx
        obtain ⟨g, ro, rfl, hg, hr⟩ := HRA.out.at_ (by omega)
        have Hr1 := hid (by have h := hr 0 (by omega); rw [show (ns.drop q).getD 0 [] = ns.getD q [] by simp [List.getD_eq_getElem?_getD], ← HSB.out] at h; exact h)
        clear hr
        refine wpIn_region_as rfl rfl ?_
        go_wp2_with fail
        refine wpIn_cond_true rfl ?_
        refine wpIn_wide.2 ?_
        refine FlowB.wp_region_butIn [wr.heap.size] (fun wz => Blk wz wr.heap.size ((emptyL k).map (Value.int .u8)).toArray 25) 6 [0, 1, 2, 3, 4] [] [(.c 5, [], [])] (by kernel_rfl) (by kernel_rfl) HS2.out (fun _ _ h hb => h.below hb) ?_
        apply Exists.intro
        refine ⟨fun w0 hb0 hF0 => ?_, ?_⟩
        · skip
          have yr : ∀ w', (∃ x : Ext w0, w' = x.at_) → w'.rangeAt g (ro + 0 * 32) (Sb.map (Value.int .u8)) := fun w' ⟨x, hx⟩ => by
            rw [hx]
            exact rangeAt_below (w := w0) (fun j v hv => by
              have h1 := HB2.out
              rw [show w0.cell? ⟨g, ro + 0 * 32 + j, none⟩ = w.cell? ⟨g, ro + 0 * 32 + j, none⟩ from (hb0.below (Below.on HBr.out h1) (by have := h1.size; omega) (by intro b hb; simp only [List.mem_singleton] at hb; omega)).cell (p := ⟨g, ro + 0 * 32 + j, none⟩) hg]
              exact Hr1.out j v hv) (by have := hb0.size; have := HB2.out.size; omega) x.same
          simp only [pick, List.getElem?_toArray, List.getElem?_cons_succ, List.getElem?_cons_zero, Option.toList_some, List.cons_append, List.nil_append]
          repeat (first | (go_big_quiet_want; refine quiet_index_digs 33 _ _ rfl Tryz.underlying33 size_digest g ro (len - q) (cap - q) rfl _ _ rfl 0 rfl (by omega) ?_; go_big_quiet_on; simp only [Act.put, List.setIfInBounds_toArray, List.set_cons_zero, List.set_cons_succ]) | (go_big_quiet_want; refine quiet_load_mid 25 _ rfl g (ro + 0 * 32) rfl _ yr _ Tryz.underlying25 rfl (by rw [List.length_map, HSd.out.len]; exact size_digest) ?_; go_big_quiet_on; simp only [Act.put, List.setIfInBounds_toArray, List.set_cons_zero, List.set_cons_succ]) | (go_big_quiet_want; refine quiet_cut_l _ _ rfl (some ⟨g, ro, none⟩) (len - q) (cap - q) 1 _ rfl rfl rfl (by omega) ?_; go_big_quiet_on; simp only [Act.put, List.setIfInBounds_toArray, List.set_cons_zero, List.set_cons_succ]) | go_big_quiet_step (fail))
          exact wpQuiet_nil rfl
        refine FlowB.AlChk.nil ?_
        refine FlowB.Walk.skips rfl (fun wz => Blk wz wr.heap.size (Sb.map (Value.int .u8)).toArray 25) (fun _ _ h hb => h.below hb) rfl (fun w1 hb1 hF1 hG1 => ?_) ?_
        · exact FlowB.store_skips 25 _ _ rfl (wr.heap.size) (Sb.map (Value.int .u8)).toArray rfl rfl _ 25 hG1 32 size_digest HE.out.size HSd.out.size (ints_one _ _) (by simp) (fun w2 h2 h3 => h3)
        intro w1 hb1 hF1
        apply Exists.intro
        refine ⟨fun w2 hb2 hF2 => wpQuiet_nil rfl, ?_⟩
        refine FlowB.AlChk.nil ?_
        refine FlowB.Walk.fin fun w4 h4 _ hG4 => ?_
        simp only [List.drop_succ_cons, List.drop_zero]
        have HB4 := hid (h4.below HB2.out (by have := HB2.out.size; omega) (by intro b hb; simp only [List.mem_singleton] at hb; omega))
        have HK4 := hid (h4.blk HK2.out (by simp only [List.mem_singleton]; omega))
        have HG4 := hid (h4.blk HG2.out (by simp only [List.mem_singleton]; omega))
        have HS4 := hid hG4
        clear h4 hG4 hb1 hF1
        go_wp2_with fail
        have HJY := hid (HJ.out (upF k) wr w4 none HJr.out (grown_below HB4.out) (by intro r e; cases e))
        have HBY := hid (Below.on HBr.out HB4.out)
        have HKY := hid HK4.out
        have HGY := hid HG4.out
        have HSY := hid HS4.out
        have hsY := HBY.out.size
        obtain ⟨fn, tmps, assign, body, hy, hR⟩ := HYk.out w4 HJY.out (by rw [upF_length (by omega)]; exact hlt)
        have HR := hid hR
        clear hR
        apply wpIn_seq_k
        intro _ _
        apply wpIn_region_lit
        gi_wp2_with (refine wpListIn_one (F := Fence.wide) rfl rfl ?_; refine wpList_load_blk rfl 25 _ rfl (wr.heap.size) rfl _ 25 HSY.out _ Tryz.underlying25 rfl 32 size_digest HSd.out.size ?_; refine wpList_nil ⟨rfl, ?_⟩)
        refine ⟨fun h => (by simp [Fence.wide] at h), HR.out.mono ?_⟩
        rintro e W3 (⟨rfl, hJ3, hk3⟩ | ⟨rfl, hJx3⟩)
        · skip
          have HJ3 := hid hJ3
          have HK3 := hid hk3
          clear hJ3 hk3
          gi_wp2_with fail
          go_roundw
          case rel => exact ⟨k + 1, by omega, by simp, ⟨_, by rw [HN.out]; first | rfl | simp [Nat.sub_sub], by rw [HN.out]; exact cut_one HRA.out (by omega)⟩, by rw [upF_succ hlt]; exact HJ3.out, HBY.out.trans HK3.out.low, HK3.out.blk HKY.out (by omega), HK3.out.blk HGY.out (by omega)⟩
          case measure => simp [intOf]; omega
        · skip
          have HJ3 := hid hJx3
          clear hJx3
          gi_wp2_with fail
          refine bodyPost_ret (results_none rfl _ _ _) rfl ?_
          exact ⟨⟨_, rfl⟩, .inr ⟨_, ⟨k + 1, by omega, rfl⟩, by rw [upF_succ hlt]; exact HJ3.out⟩⟩
    · skip
      have hk7 : k = 256 := by omega
      subst hk7
      have hc0 : ¬ ((256 : Int) < 256) := by omega
      gi_wp2_with fail
      go_end0
      exact ⟨⟨_, rfl⟩, .inl HJr.out⟩
end Go.Proofs.YtkakoiaahgchmaaGreatDoor
