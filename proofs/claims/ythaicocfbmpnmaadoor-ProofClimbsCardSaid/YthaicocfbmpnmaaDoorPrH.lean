/-
  Layer 18: is it shown that nothing is there?
-/
import Derived.Test.YthaicocfbmpnmaaDoorPrG
namespace Go.Proofs.YthaicocfbmpnmaaDoor
open Go.ChangeShapes Go.WideShapes Go.ChangeAt Go.RowKit


set_option maxHeartbeats 4000000 in
set_option maxRecDepth 100000 in
theorem absent_any (o i d : List Int) (ad : Option Addr) (len cap : Nat) (ns : List (List Int)) (b : Bool) (w : World) (ho : Dg o) (hi : Dg i) (hd : Dg d) (hns : DigsAt w ad len cap ns) (tab : ShaTab w)
    (cl : ∀ W : World, DigsAt W ad len cap ns → ShaTab W → Calls Tryd.prog 60 #[.agg ((emptyL 0).map (Value.int .u8)).toArray, .agg (o.map (Value.int .u8)).toArray, .agg (i.map (Value.int .u8)).toArray, .agg (prC d (.slice ad len cap)).toArray] W fun e w' => e = .returned (.bool b) ∧ Below W.heap.size W w') :
    Calls Tryd.prog 32 #[.agg (o.map (Value.int .u8)).toArray, .agg (i.map (Value.int .u8)).toArray, .agg (prC d (.slice ad len cap)).toArray] w fun e w' => e = .returned (.bool b) ∧ Below w.heap.size w w' := by
  have CE := hid (fun (W : World) (t : ShaTab W) => empty_any W t)
  have CD := hid cl
  have Hds := hid (empN_each 257)
  have Hlen := hid (empN_length 257)
  have Hget := hid (empN_get (n := 257) (k := 0) (by omega))
  have HE := hid (Dg.emptyL 0)
  clear cl
  generalize empN 257 = ds at *
  generalize emptyL 0 = E at *
  have b1 := (Below.refl w.heap.size w).alloc (Nat.le_refl _) (.cells (o.map (Value.int .u8)).toArray 23 (0, 0))
  have b2 := b1.alloc b1.size (.cells (i.map (Value.int .u8)).toArray 23 (0, 0))
  have b3 := b2.alloc b2.size (.cells (prC d (.slice ad len cap)).toArray 46 (0, 0))
  have Ko := hid (((Blk.new (w := w) (n := w.heap.size) rfl (o.map (Value.int .u8)).toArray 23).old (.cells (i.map (Value.int .u8)).toArray 23 (0, 0))).old (.cells (prC d (.slice ad len cap)).toArray 46 (0, 0)))
  have Ki := hid ((Blk.new (w := (w.alloc (.cells (o.map (Value.int .u8)).toArray 23 (0, 0)))) (n := w.heap.size + 1) (by simp only [World.size_alloc]) (i.map (Value.int .u8)).toArray 23).old (.cells (prC d (.slice ad len cap)).toArray 46 (0, 0)))
  have Kp := hid (Blk.new (w := ((w.alloc (.cells (o.map (Value.int .u8)).toArray 23 (0, 0))).alloc (.cells (i.map (Value.int .u8)).toArray 23 (0, 0)))) (n := w.heap.size + 1 + 1) (by simp only [World.size_alloc]) (prC d (.slice ad len cap)).toArray 46)
  have Hb := hid b3
  have hbz := b3.size
  have Hbs := hid (show w.heap.size + 1 + 1 + 1 = (((w.alloc (.cells (o.map (Value.int .u8)).toArray 23 (0, 0))).alloc (.cells (i.map (Value.int .u8)).toArray 23 (0, 0))).alloc (.cells (prC d (.slice ad len cap)).toArray 46 (0, 0))).heap.size by simp only [World.size_alloc])
  have Htab := hid tab
  clear b1 b2 b3 tab 
  go_enter Tryd.func32, Tryd.ntmps32
  go_wp2_with fail
  refine wp_region_flow 7 [3, 4, 5] [] [(.c 0, [1, 2, 6], [])] (by kernel_rfl) (by kernel_rfl) ?_
  apply Exists.intro
  refine ⟨fun w0 hb0 hF0 => ?_, ?_⟩
  · skip
    have x0 : ∀ w', (∃ x : Ext w0, w' = x.at_) → ∃ T, Blk w' (w.heap.size) (o.map (Value.int .u8)).toArray T := fun w' ⟨x, hx⟩ => ⟨_, hx ▸ (Ko.out.below hb0).below x.same⟩
    have x1 : ∀ w', (∃ x : Ext w0, w' = x.at_) → ∃ T, Blk w' (w.heap.size + 1) (i.map (Value.int .u8)).toArray T := fun w' ⟨x, hx⟩ => ⟨_, hx ▸ (Ki.out.below hb0).below x.same⟩
    have x2 : ∀ w', (∃ x : Ext w0, w' = x.at_) → ∃ T, Blk w' (w.heap.size + 1 + 1) (prC d (.slice ad len cap)).toArray T := fun w' ⟨x, hx⟩ => ⟨_, hx ▸ (Kp.out.below hb0).below x.same⟩
    simp only [pick, List.getElem?_toArray, List.getElem?_cons_succ, List.getElem?_cons_zero, Option.toList_some, List.cons_append, List.nil_append]
    repeat (first | (go_big_quiet_want; refine quiet_load_blk 23 _ rfl (w.heap.size) rfl _ x0 _ Tryd.underlying23 rfl 32 size_digest ho.size ?_; go_big_quiet_on; simp only [Act.put, List.setIfInBounds_toArray, List.set_cons_zero, List.set_cons_succ]) | (go_big_quiet_want; refine quiet_load_blk 23 _ rfl (w.heap.size + 1) rfl _ x1 _ Tryd.underlying23 rfl 32 size_digest hi.size ?_; go_big_quiet_on; simp only [Act.put, List.setIfInBounds_toArray, List.set_cons_zero, List.set_cons_succ]) | (go_big_quiet_want; refine quiet_load_blk 46 _ rfl (w.heap.size + 1 + 1) rfl _ x2 _ Tryd.underlying46 rfl 33 size_proof (prC_size hd _) ?_; go_big_quiet_on; simp only [Act.put, List.setIfInBounds_toArray, List.set_cons_zero, List.set_cons_succ]) | go_big_quiet_step (fail))
    exact wpQuiet_nil rfl
  refine AlChk.nil ?_
  refine Walk.call rfl 13 #[] (fun v w' => ∃ g, v = .slice (some ⟨g, 0, none⟩) 257 257 ∧ Blk w' g (dcs ds) 23) (fun v w' w'' h k => by obtain ⟨g, h1, h2⟩ := h; exact ⟨g, h1, h2.below k⟩) rfl (fun w1 hb1 hF1 => ⟨by go_simp, ?_⟩) ?_
  · refine (CE.out w1 (Htab.out.below (Below.on Hb.out hb1))).mono ?_
    rintro e w2 ⟨rfl, b2, k2⟩
    exact ⟨_, rfl, b2, _, rfl, k2⟩
  rintro v0 w1 hb1 hF1 ⟨g, rfl, _⟩
  apply Exists.intro
  refine ⟨fun w0 hb0 hF0 => ?_, ?_⟩
  · skip
    obtain ⟨_, g', hg', kg⟩ := hF0
    cases hg'
    have yr : ∀ w', (∃ x : Ext w0, w' = x.at_) → w'.rangeAt g (0 + 0 * 32) (E.map (Value.int .u8)) := fun w' ⟨x, hx⟩ => by
      have h := dig_rng (kg.below x.same) Hds.out (j := 0) (by rw [Hlen.out]; omega)
      rw [Hget.out] at h
      rw [hx]
      exact h
    have c0 := fun e : Ext w0 => CD.out e.at_ (hns.below (Below.on (Below.on Hb.out hb0) e.same)) (Htab.out.below (Below.on (Below.on Hb.out hb0) e.same))
    simp only [pick, List.getElem?_toArray, List.getElem?_cons_succ, List.getElem?_cons_zero, Option.toList_some, List.cons_append, List.nil_append, Act.put, List.setIfInBounds_toArray, List.set_cons_zero, List.set_cons_succ]
    repeat (first | (go_big_quiet_want; refine quiet_index_digs 27 _ _ rfl Tryd.underlying27 size_digest g 0 257 257 rfl _ _ rfl 0 rfl (by omega) ?_; go_big_quiet_on; simp only [Act.put, List.setIfInBounds_toArray, List.set_cons_zero, List.set_cons_succ]) | (go_big_quiet_want; refine quiet_load_mid 23 _ rfl g (0 + 0 * 32) rfl _ yr _ Tryd.underlying23 rfl (by rw [List.length_map, HE.out.len]; exact size_digest) ?_; go_big_quiet_on; simp only [Act.put, List.setIfInBounds_toArray, List.set_cons_zero, List.set_cons_succ]) | go_big_quiet_step (first | (go_at_call 60; with_reducible exact Calls.ext (c0 _))))
    exact wpQuiet_nil rfl
  refine AlChk.nil ?_
  refine Walk.fin fun w5 h5 hF5 _ => ?_
  simp only [List.drop_succ_cons, List.drop_zero]
  have HB5 := hid (Below.on Hb.out h5)
  clear h5 hF5
  go_wp2_with fail
  go_returns
  exact ⟨rfl, HB5.out⟩
end Go.Proofs.YthaicocfbmpnmaaDoor
