/-
  Contracts of planchetref05: of, F, Prf, At, H.
-/
import Derived.Test.YtkiaeepdpmcafaaDoorKeyed2
import Derived.Test.YtkiaeepdpmcafaaDoorAdrsRefCap
import Derived.Test.YtkiaeepdpmcafaaDoorRefNumber
import Derived.Test.YtkiaeepdpmcafaaDoorShaRefSum
import Derived.Test.YtkiaeepdpmcafaaDoorFlowB
namespace Go.Proofs.YtkiaeepdpmcafaaDoor
open Go.ChangeShapes Go.WideShapes Go.ChangeAt Go.RowKit

/-- what an append may write to: the row, if it is a text of the call's own -/
theorem OwnB.typed {w w' : World} {B base : Nat} {e : TypeId} {v : Value} {bs : List Int} (h : OwnB w base e v bs) (hB : B ≤ base) (hg : w.grownBy w' v.ownBlock) : FlowB.Typed B e w w' :=
  FlowB.Typed.of_grown hg fun q hq => by
    refine ⟨Nat.le_trans hB (h.lt q hq).1, ?_⟩
    obtain ⟨⟨_, ⟨h, _⟩ | ⟨g, cap, cur, he, _, hh, _⟩⟩, _⟩ := h
    · rw [h] at hq; cases hq
    · rw [he] at hq
      simp only [Value.ownBlock, Option.some.injEq] at hq
      subst hq
      exact ⟨_, _, hh⟩

set_option maxHeartbeats 4000000 in
set_option maxRecDepth 100000 in
theorem of_any (n : Int) (key m : List Int) (ta : Option Addr) (tn tc : Nat) (w : World) (h0 : 0 ≤ n) (h1 : n < 18446744073709551616) (hkey : Dg key) (hT : TextAt w ta tn tc m) (hn : tn ≤ 140737488330000) :
    Calls Tryd.prog 49 #[.int .u64 n, .agg (key.map (Value.int .u8)).toArray, .slice ta tn tc] w fun e w' => e = .returned (.agg ((sumZ (be 32 n ++ (key ++ m))).map (Value.int .u8)).toArray) ∧ Below w.heap.size w w' := by
  obtain ⟨i0, hi, hz0, hz1, hz2⟩ := info_parts info_byte
  have HD := hid (Dg.sum (be 32 n ++ (key ++ m)))
  have b1 := (Below.refl w.heap.size w).alloc (Nat.le_refl _) (.cells (key.map (Value.int .u8)).toArray 26 (0, 0))
  have bz := b1.alloc b1.size (.cells (byteCells 32 []) 26 (0, 0))
  have K0 := hid ((Blk.new (w := w) (n := w.heap.size) rfl (key.map (Value.int .u8)).toArray 26).old (.cells (byteCells 32 []) 26 (0, 0)))
  have Kr := hid (Blk.new (w := w.alloc (.cells (key.map (Value.int .u8)).toArray 26 (0, 0))) (n := w.heap.size + 1) (by simp only [World.size_alloc]) (byteCells 32 []) 26)
  have Hb := hid bz
  have HzA := hid zsize
  have HT := hid hT
  have hle := hT.le
  have hmx := hT.max
  have Hml := hid hT.length
  have hbs : w.heap.size + 1 + 1 = ((w.alloc (.cells (key.map (Value.int .u8)).toArray 26 (0, 0))).alloc (.cells (byteCells 32 []) 26 (0, 0))).heap.size := by simp only [World.size_alloc]
  have Hbs := hid hbs
  clear bz b1 hT hbs
  go_enter Tryd.func49, Tryd.ntmps49
  go_wp2_with fail
  refine FlowB.wp_region_typed (w.heap.size + 1 + 1) 5 4 [0, 2] [] [(.c 1, [], []), (.c 3, [], [])] (by kernel_rfl) (by kernel_rfl) ?_
  apply Exists.intro
  refine ⟨fun w0 hb0 hF0 => ?_, ?_⟩
  · simp only [pick, List.getElem?_toArray, List.getElem?_cons_succ, List.getElem?_cons_zero, Option.toList_some, List.cons_append, List.nil_append]
    repeat (go_big_quiet_step (fail))
    exact wpQuiet_nil rfl
  refine FlowB.AlChk.nil ?_
  refine FlowB.Walk.call rfl 52 #[.int .u64 n, .int .i64 32] (fun _ _ => True) (fun v w' => OwnB w' (w.heap.size + 1 + 1) 5 v (be 32 n)) (fun v w' w'' _ h _ => h) (fun v w' w'' h k => h.below k) rfl (fun w1 hb1 hF1 _ => ⟨by go_simp, ?_⟩) ?_
  · refine (refnumber_own n 32 32 w1 h0 h1 rfl (by omega)).mono ?_
    rintro e w2 ⟨v, rfl, b2, o2⟩
    exact ⟨v, rfl, (FlowB.rel_typed _ _).of b2, trivial, o2.re (by rw [Hbs.out]; exact hb1.size)⟩
  rintro v w1 hb1 hF1 _
  apply Exists.intro
  refine ⟨fun w2 hb2 hF2 => wpQuiet_nil rfl, ?_⟩
  refine FlowB.AlChk.nil ?_
  refine FlowB.Walk.does rfl (fun _ _ => True) (fun v w' => OwnB w' (w.heap.size + 1 + 1) 5 v (be 32 n ++ key)) (fun v w' w'' _ h _ => h) (fun v w' w'' h k => h.below k) rfl (fun w2 hb2 hF2 hG2 => ?_) ?_
  · have hbB := hb2.below (B := w.heap.size + 1 + 1) (by rw [Hbs.out]; exact Nat.le_refl _)
    obtain ⟨v', w', hr, q2, q3, q4⟩ := run_append_text (P := Tryd.prog) 29 Tryd.underlying29 hi hz0 hz1 hz2 hG2 (hkey.text (K0.out.belowB (by omega) hbB)) (by simp [be_length]) (by rw [Hbs.out]; exact hb2.size)
    exact ⟨v', w', FlowB.exec_append rfl rfl rfl hr, hG2.typed (Nat.le_refl _) q3, trivial, q2⟩
  rintro v3 w3 hb3 hF3 _
  apply Exists.intro
  refine ⟨fun w2 hb2 hF2 => wpQuiet_nil rfl, ?_⟩
  refine FlowB.AlChk.nil ?_
  refine FlowB.Walk.fin fun w4 h4 _ hG4 => ?_
  simp only [List.drop_succ_cons, List.drop_zero]
  have hbB := h4.below (B := w.heap.size + 1 + 1) (by rw [Hbs.out]; exact Nat.le_refl _)
  have Hr4 := hid (Kr.out.belowB (by omega) hbB)
  have Hb4 := hid (Hb.out.trans (hbB.mono (by omega)))
  have Ho4 := hid (show OwnB w4 (w.heap.size + 1 + 1) 5 v3 (be 32 n ++ key) from hG4)
  have hsz4 : w.heap.size + 1 + 1 ≤ w4.heap.size := by rw [Hbs.out]; exact h4.size
  have HT4 := hid (HT.out.below Hb4.out)
  clear h4 hG4 hbB Kr K0 Hb
  go_wp2_with (at_builtin; refine wpList_append_text rfl _ _ rfl Tryd.underlying29 hi hz0 hz1 hz2 rfl Ho4.out rfl HT4.out (by rw [List.length_append, be_length, hkey.len]; omega) hsz4 ?_)
  intro v5 w5 own5 _ b5
  obtain ⟨a5, c5, rfl, hT5, _⟩ := own5.text
  rw [show (be 32 n ++ (key ++ m)).length = 64 + tn by rw [List.length_append, List.length_append, be_length, hkey.len, Hml.out]; omega] at hT5 ⊢
  have HT5 := hid hT5
  have Hb5 := hid (Hb4.out.trans (b5.mono (by omega)))
  have Hr5 := hid (Hr4.out.belowB (by omega) b5)
  clear own5 hT5 b5
  go_wp2_with fail
  refine (refsum_any a5 (64 + tn) c5 (be 32 n ++ (key ++ m)) w5 HT5.out (by omega)).mono ?_
  rintro e w6 ⟨rfl, b6⟩
  have Hb6 := hid (Below.on Hb5.out b6)
  have Hr6 := hid (Hr5.out.below b6)
  clear b6 HT5
  generalize hS : sumZ (be 32 n ++ (key ++ m)) = S at *
  go_wp2_with (refine wpList_store_blk rfl 26 _ _ rfl (w.heap.size + 1) _ rfl rfl _ 26 Hr6.out 32 size_digest HzA.out HD.out.size (ints_one _ _) ?_; intro w7 hbut7 hk7)
  exact bodyPost_ret (v := .agg (S.map (Value.int .u8)).toArray) (results_blk Tryd.results49 _ (w.heap.size + 1) rfl _ 26 hk7 _ Tryd.underlying26 rfl 32 size_digest HD.out.size) rfl ⟨by rw [hS], hbut7.below Hb6.out Hb6.out.size (by omega)⟩

set_option maxHeartbeats 2000000 in
set_option maxRecDepth 100000 in
theorem refF_any (key m : List Int) (w : World) (hkey : Dg key) (hm : Dg m) :
    Calls Tryd.prog 26 #[.agg (key.map (Value.int .u8)).toArray, .agg (m.map (Value.int .u8)).toArray] w fun e w' => e = .returned (.agg ((fZ key m).map (Value.int .u8)).toArray) ∧ Below w.heap.size w w' := by
  have HM : Hid (fZ key m = sumZ (be 32 0 ++ (key ++ m))) := hid (by unfold fZ; rfl)
  have HD := hid (Dg.f key m)
  have b1 := (Below.refl w.heap.size w).alloc (Nat.le_refl _) (.cells (key.map (Value.int .u8)).toArray 26 (0, 0))
  have b2 := b1.alloc b1.size (.cells (m.map (Value.int .u8)).toArray 26 (0, 0))
  have bz := b2.alloc b2.size (.cells (byteCells 32 []) 26 (0, 0))
  have K0 := hid (((Blk.new (w := w) (n := w.heap.size) rfl (key.map (Value.int .u8)).toArray 26).old (.cells (m.map (Value.int .u8)).toArray 26 (0, 0))).old (.cells (byteCells 32 []) 26 (0, 0)))
  have K1 := hid ((Blk.new (w := (w.alloc (.cells (key.map (Value.int .u8)).toArray 26 (0, 0)))) (n := w.heap.size + 1) (by simp only [World.size_alloc]) (m.map (Value.int .u8)).toArray 26).old (.cells (byteCells 32 []) 26 (0, 0)))
  have Kr := hid (Blk.new (w := ((w.alloc (.cells (key.map (Value.int .u8)).toArray 26 (0, 0))).alloc (.cells (m.map (Value.int .u8)).toArray 26 (0, 0)))) (n := w.heap.size + 1 + 1) (by simp only [World.size_alloc]) (byteCells 32 []) 26)
  have Hb := hid bz
  have HzA := hid zsize
  have hbz := bz.size
  have hbs : w.heap.size + 1 + 1 + 1 = (((w.alloc (.cells (key.map (Value.int .u8)).toArray 26 (0, 0))).alloc (.cells (m.map (Value.int .u8)).toArray 26 (0, 0))).alloc (.cells (byteCells 32 []) 26 (0, 0))).heap.size := by simp only [World.size_alloc]
  have Hbs := hid hbs
  clear bz hbs b1 b2
  go_enter Tryd.func26, Tryd.ntmps26
  go_wp2_with fail
  refine wp_region_flow 3 [0, 1, 2] [] [] (by kernel_rfl) (by kernel_rfl) ?_
  apply Exists.intro
  refine ⟨fun w0 hb0 hF0 => ?_, ?_⟩
  · have hs := fun e : Ext w0 => of_any 0 key m _ 32 32 e.at_ (by omega) (by omega) hkey (hm.text ((K1.out.below hb0).below e.same)) (by omega)
    rw [← HM.out] at hs
    have x0 : ∀ w', (∃ x : Ext w0, w' = x.at_) → ∃ T, Blk w' (w.heap.size) (key.map (Value.int .u8)).toArray T := fun w' ⟨x, hx⟩ => ⟨_, hx ▸ (K0.out.below hb0).below x.same⟩
    simp only [pick, List.getElem?_toArray, List.getElem?_cons_succ, List.getElem?_cons_zero, Option.toList_some, List.cons_append, List.nil_append]
    repeat (first | (go_big_quiet_want; refine quiet_load_blk 26 _ rfl (w.heap.size) rfl _ x0 _ Tryd.underlying26 rfl 32 size_digest hkey.size ?_; go_big_quiet_on; simp only [Act.put, List.setIfInBounds_toArray, List.set_cons_zero, List.set_cons_succ]) | go_big_quiet_step (first | (go_at_call 49; exact Calls.ext (hs _))))
    exact wpQuiet_nil rfl
  refine AlChk.nil ?_
  refine Walk.fin fun w4 h4 _ _ => ?_
  simp only [List.drop_succ_cons, List.drop_zero]
  have Hr4 := hid (Kr.out.below h4)
  have Hb4 := hid (Below.on Hb.out h4)
  clear h4
  go_wp2_with (refine wpList_store_blk rfl 26 _ _ rfl (w.heap.size + 1 + 1) _ rfl rfl _ 26 Hr4.out 32 size_digest HzA.out HD.out.size (ints_one _ _) ?_; intro w7 hbut7 hk7)
  exact bodyPost_ret (v := .agg ((fZ key m).map (Value.int .u8)).toArray) (results_blk Tryd.results26 _ (w.heap.size + 1 + 1) rfl _ 26 hk7 _ Tryd.underlying26 rfl 32 size_digest HD.out.size) rfl ⟨rfl, hbut7.below Hb4.out Hb4.out.size (by omega)⟩

set_option maxHeartbeats 2000000 in
set_option maxRecDepth 100000 in
theorem refPrf_any (key m : List Int) (ta : Option Addr) (tn tc : Nat) (w : World) (hkey : Dg key) (hT : TextAt w ta tn tc m) (hn : tn ≤ 140737488320000) :
    Calls Tryd.prog 30 #[.agg (key.map (Value.int .u8)).toArray, .slice ta tn tc] w fun e w' => e = .returned (.agg ((prfZ key m).map (Value.int .u8)).toArray) ∧ Below w.heap.size w w' := by
  have HM : Hid (prfZ key m = sumZ (be 32 3 ++ (key ++ m))) := hid (by unfold prfZ; rfl)
  have HD := hid (Dg.prf key m)
  have b1 := (Below.refl w.heap.size w).alloc (Nat.le_refl _) (.cells (key.map (Value.int .u8)).toArray 26 (0, 0))
  have bz := b1.alloc b1.size (.cells (byteCells 32 []) 26 (0, 0))
  have K0 := hid ((Blk.new (w := w) (n := w.heap.size) rfl (key.map (Value.int .u8)).toArray 26).old (.cells (byteCells 32 []) 26 (0, 0)))
  have Kr := hid (Blk.new (w := (w.alloc (.cells (key.map (Value.int .u8)).toArray 26 (0, 0)))) (n := w.heap.size + 1) (by simp only [World.size_alloc]) (byteCells 32 []) 26)
  have Hb := hid bz
  have HzA := hid zsize
  have hbz := bz.size
  have hbs : w.heap.size + 1 + 1 = ((w.alloc (.cells (key.map (Value.int .u8)).toArray 26 (0, 0))).alloc (.cells (byteCells 32 []) 26 (0, 0))).heap.size := by simp only [World.size_alloc]
  have Hbs := hid hbs
  have HT := hid hT
  have hle := hT.le
  have hmx := hT.max
  have Hml := hid hT.length
  clear bz hbs hT b1
  go_enter Tryd.func30, Tryd.ntmps30
  go_wp2_with (refine wpList_load_blk rfl 26 _ rfl (w.heap.size) rfl _ 26 K0.out _ Tryd.underlying26 rfl 32 size_digest hkey.size ?_)
  refine (of_any 3 key m ta tn tc _ (by omega) (by omega) hkey (HT.out.below Hb.out) (by omega)).mono ?_
  rintro e w4 ⟨rfl, b4⟩
  rw [← HM.out]
  have Hr4 := hid (Kr.out.below b4)
  have Hb4 := hid (Below.on Hb.out b4)
  clear b4
  go_wp2_with (refine wpList_store_blk rfl 26 _ _ rfl (w.heap.size + 1) _ rfl rfl _ 26 Hr4.out 32 size_digest HzA.out HD.out.size (ints_one _ _) ?_; intro w7 hbut7 hk7)
  exact bodyPost_ret (v := .agg ((prfZ key m).map (Value.int .u8)).toArray) (results_blk Tryd.results30 _ (w.heap.size + 1) rfl _ 26 hk7 _ Tryd.underlying26 rfl 32 size_digest HD.out.size) rfl ⟨rfl, hbut7.below Hb4.out Hb4.out.size (by omega)⟩

set_option maxHeartbeats 2000000 in
set_option maxRecDepth 100000 in
theorem refAt_any (key ad : List Int) (w : World) (hkey : Dg key) (ha : Aw ad) :
    Calls Tryd.prog 32 #[.agg (key.map (Value.int .u8)).toArray, .agg (ad.map (Value.int .u32)).toArray] w fun e w' => e = .returned (.agg ((atZ key ad).map (Value.int .u8)).toArray) ∧ Below w.heap.size w w' := by
  have HM : Hid (atZ key ad = sumZ (be 32 3 ++ (key ++ wordBytes ad))) := hid (by unfold atZ prfZ; rfl)
  have HD := hid (Dg.at_ key ad)
  have b1 := (Below.refl w.heap.size w).alloc (Nat.le_refl _) (.cells (key.map (Value.int .u8)).toArray 26 (0, 0))
  have b2 := b1.alloc b1.size (.cells (ad.map (Value.int .u32)).toArray 45 (0, 0))
  have bz := b2.alloc b2.size (.cells (byteCells 32 []) 26 (0, 0))
  have K0 := hid (((Blk.new (w := w) (n := w.heap.size) rfl (key.map (Value.int .u8)).toArray 26).old (.cells (ad.map (Value.int .u32)).toArray 45 (0, 0))).old (.cells (byteCells 32 []) 26 (0, 0)))
  have K1 := hid ((Blk.new (w := (w.alloc (.cells (key.map (Value.int .u8)).toArray 26 (0, 0)))) (n := w.heap.size + 1) (by simp only [World.size_alloc]) (ad.map (Value.int .u32)).toArray 45).old (.cells (byteCells 32 []) 26 (0, 0)))
  have Kr := hid (Blk.new (w := ((w.alloc (.cells (key.map (Value.int .u8)).toArray 26 (0, 0))).alloc (.cells (ad.map (Value.int .u32)).toArray 45 (0, 0)))) (n := w.heap.size + 1 + 1) (by simp only [World.size_alloc]) (byteCells 32 []) 26)
  have Hb := hid bz
  have HzA := hid zsize
  have hbz := bz.size
  have hbs : w.heap.size + 1 + 1 + 1 = (((w.alloc (.cells (key.map (Value.int .u8)).toArray 26 (0, 0))).alloc (.cells (ad.map (Value.int .u32)).toArray 45 (0, 0))).alloc (.cells (byteCells 32 []) 26 (0, 0))).heap.size := by simp only [World.size_alloc]
  have Hbs := hid hbs
  clear bz hbs b1 b2
  go_enter Tryd.func32, Tryd.ntmps32
  go_wp2_with fail
  refine wp_region_flow 4 [0, 1] [] [(.c 2, [3], [])] (by kernel_rfl) (by kernel_rfl) ?_
  apply Exists.intro
  refine ⟨fun w0 hb0 hF0 => ?_, ?_⟩
  · skip
    have x0 : ∀ w', (∃ x : Ext w0, w' = x.at_) → ∃ T, Blk w' (w.heap.size) (key.map (Value.int .u8)).toArray T := fun w' ⟨x, hx⟩ => ⟨_, hx ▸ (K0.out.below hb0).below x.same⟩
    have x1 : ∀ w', (∃ x : Ext w0, w' = x.at_) → ∃ T, Blk w' (w.heap.size + 1) (ad.map (Value.int .u32)).toArray T := fun w' ⟨x, hx⟩ => ⟨_, hx ▸ (K1.out.below hb0).below x.same⟩
    simp only [pick, List.getElem?_toArray, List.getElem?_cons_succ, List.getElem?_cons_zero, Option.toList_some, List.cons_append, List.nil_append]
    repeat (first | (go_big_quiet_want; refine quiet_load_blk 26 _ rfl (w.heap.size) rfl _ x0 _ Tryd.underlying26 rfl 32 size_digest hkey.size ?_; go_big_quiet_on; simp only [Act.put, List.setIfInBounds_toArray, List.set_cons_zero, List.set_cons_succ]) | (go_big_quiet_want; refine quiet_load_blk 45 _ rfl (w.heap.size + 1) rfl _ x1 _ Tryd.underlying45 rfl 8 sizeAdrs ha.size ?_; go_big_quiet_on; simp only [Act.put, List.setIfInBounds_toArray, List.set_cons_zero, List.set_cons_succ]) | go_big_quiet_step (fail))
    exact wpQuiet_nil rfl
  refine AlChk.nil ?_
  refine Walk.call rfl 51 #[.agg (ad.map (Value.int .u32)).toArray] (BytesAt ad) (fun v w' w'' h k => h.below k) rfl (fun w1 hb1 hF1 => ⟨by go_simp, ?_⟩) ?_
  · refine (ref_bytes_cap ad ha.len ha.small w1).mono ?_
    rintro e w2 ⟨g, cap, hc1, hc2, hg, rfl, b2, k2⟩
    exact ⟨_, rfl, b2, g, cap, rfl, hc1, hc2, k2⟩
  rintro v w1 hb1 hF1 ⟨g, cap, rfl, _, _, _⟩
  apply Exists.intro
  refine ⟨fun w3 hb3 hF3 => ?_, ?_⟩
  · have hs := fun e : Ext w3 => of_any 3 key (wordBytes ad) _ 32 cap e.at_ (by omega) (by omega) hkey ((hF3.2.below e.same).text ha.len) (by omega)
    rw [← HM.out] at hs
    simp only [pick, List.getElem?_toArray, List.getElem?_cons_succ, List.getElem?_cons_zero, Option.toList_some, List.cons_append, List.nil_append, Act.put, List.setIfInBounds_toArray, List.set_cons_zero, List.set_cons_succ]
    repeat (go_big_quiet_step (first | (go_at_call 49; exact Calls.ext (hs _))))
    exact wpQuiet_nil rfl
  refine AlChk.nil ?_
  refine Walk.fin fun w4 h4 _ _ => ?_
  simp only [List.drop_succ_cons, List.drop_zero]
  have Hr4 := hid (Kr.out.below h4)
  have Hb4 := hid (Below.on Hb.out h4)
  clear h4
  go_wp2_with (refine wpList_store_blk rfl 26 _ _ rfl (w.heap.size + 1 + 1) _ rfl rfl _ 26 Hr4.out 32 size_digest HzA.out HD.out.size (ints_one _ _) ?_; intro w7 hbut7 hk7)
  exact bodyPost_ret (v := .agg ((atZ key ad).map (Value.int .u8)).toArray) (results_blk Tryd.results32 _ (w.heap.size + 1 + 1) rfl _ 26 hk7 _ Tryd.underlying26 rfl 32 size_digest HD.out.size) rfl ⟨rfl, hbut7.below Hb4.out Hb4.out.size (by omega)⟩
end Go.Proofs.YtkiaeepdpmcafaaDoor
