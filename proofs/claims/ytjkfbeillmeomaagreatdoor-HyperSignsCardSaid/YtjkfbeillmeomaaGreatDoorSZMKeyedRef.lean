/-
  KeyedRef, KeyedRef2, KeyedZero: one text.
-/
import Derived.Test.YtjkfbeillmeomaaGreatDoorSZMKeyed
import Derived.Test.YtjkfbeillmeomaaGreatDoorSZMAdrs
import Derived.Test.YtjkfbeillmeomaaGreatDoorSZMNum
import Derived.Test.YtjkfbeillmeomaaGreatDoorSZNShaRefSum
import Derived.Test.YtjkfbeillmeomaaGreatDoorSZNFlowB
import Derived.Test.YtjkfbeillmeomaaGreatDoorSZMDig
namespace Go.Proofs.YtjkfbeillmeomaaGreatDoor
set_option maxRecDepth 100000
open Go.ChangeShapes Go.WideShapes Go.ChangeAt Go.RowKit
/-- what an append may write to: the row, if it is a text of the call's own -/
theorem OwnB.typed {w w' : World} {B base : Nat} {e : TypeId} {v : Value} {bs : List Int} (h : OwnB w base e v bs) (hB : B ≤ base) (hg : w.grownBy w' v.ownBlock) : FlowB.Typed B e w w' :=
  FlowB.Typed.of_grown hg fun q hq => by
    refine ⟨Nat.le_trans hB (h.lt q hq).1, ?_⟩
    obtain ⟨⟨_, ⟨h, _⟩ | ⟨g, cap, cur, he, _, hh, _⟩⟩, _⟩ := h
    · rw [h] at hq; cases hq
    · rw [he] at hq
      simp only [Value.ownBlock, Option.some.injEq] at hq
      subst hq
      exact ⟨_, _, hh⟩
set_option maxHeartbeats 4000000 in
theorem of_any (n : Int) (key m : List Int) (ta : Option Addr) (tn tc : Nat) (w : World) (h0 : 0 ≤ n) (h1 : n < 18446744073709551616) (hkey : Dg key) (hT : TextAt w ta tn tc m) (hn : tn ≤ 140737488330000) :
    Calls Tryz.prog 39 #[.int .u64 n, .agg (key.map (Value.int .u8)).toArray, .slice ta tn tc] w fun e w' => e = .returned (.agg ((sumZ (be 32 n ++ (key ++ m))).map (Value.int .u8)).toArray) ∧ Below w.heap.size w w' := by
  obtain ⟨i0, hi, hz0, hz1, hz2⟩ := info_parts info_byte
  have HD := hid (Dg.sum (be 32 n ++ (key ++ m)))
  have b1 := (Below.refl w.heap.size w).alloc (Nat.le_refl _) (.cells (key.map (Value.int .u8)).toArray 25 (0, 0))
  have bz := b1.alloc b1.size (.cells (byteCells 32 []) 25 (0, 0))
  have K0 := hid ((Blk.new (w := w) (n := w.heap.size) rfl (key.map (Value.int .u8)).toArray 25).old (.cells (byteCells 32 []) 25 (0, 0)))
  have Kr := hid (Blk.new (w := w.alloc (.cells (key.map (Value.int .u8)).toArray 25 (0, 0))) (n := w.heap.size + 1) (by simp only [World.size_alloc]) (byteCells 32 []) 25)
  have Hb := hid bz
  have HzA := hid zsize
  have HT := hid hT
  have hle := hT.le
  have hmx := hT.max
  have Hml := hid hT.length
  have hbs : w.heap.size + 1 + 1 = ((w.alloc (.cells (key.map (Value.int .u8)).toArray 25 (0, 0))).alloc (.cells (byteCells 32 []) 25 (0, 0))).heap.size := by simp only [World.size_alloc]
  have Hbs := hid hbs
  clear bz b1 hT hbs
  go_enter Tryz.func39, Tryz.ntmps39
  go_wp2_with fail
  refine FlowB.wp_region_typed (w.heap.size + 1 + 1) 5 4 [0, 2] [] [(.c 1, [], []), (.c 3, [], [])] (by kernel_rfl) (by kernel_rfl) ?_
  apply Exists.intro
  refine ⟨fun w0 hb0 hF0 => ?_, ?_⟩
  · simp only [pick, List.getElem?_toArray, List.getElem?_cons_succ, List.getElem?_cons_zero, Option.toList_some, List.cons_append, List.nil_append]
    repeat (go_big_quiet_step (fail))
    exact wpQuiet_nil rfl
  refine FlowB.AlChk.nil ?_
  refine FlowB.Walk.call rfl 26 #[.int .u64 n, .int .i64 32] (fun _ _ => True) (fun v w' => OwnB w' (w.heap.size + 1 + 1) 5 v (be 32 n)) (fun v w' w'' _ h _ => h) (fun v w' w'' h k => h.below k) rfl (fun w1 hb1 hF1 _ => ⟨by go_simp, ?_⟩) ?_
  · refine (refnumber_own n 32 32 w1 h0 h1 rfl (by omega)).mono ?_
    rintro e w2 ⟨v, rfl, b2, o2⟩
    exact ⟨v, rfl, (FlowB.rel_typed _ _).of b2, trivial, o2.re (by rw [Hbs.out]; exact hb1.size)⟩
  rintro v w1 hb1 hF1 _
  apply Exists.intro
  refine ⟨fun w2 hb2 hF2 => wpQuiet_nil rfl, ?_⟩
  refine FlowB.AlChk.nil ?_
  refine FlowB.Walk.does rfl (fun _ _ => True) (fun v w' => OwnB w' (w.heap.size + 1 + 1) 5 v (be 32 n ++ key)) (fun v w' w'' _ h _ => h) (fun v w' w'' h k => h.below k) rfl (fun w2 hb2 hF2 hG2 => ?_) ?_
  · have hbB := hb2.below (B := w.heap.size + 1 + 1) (by rw [Hbs.out]; exact Nat.le_refl _)
    obtain ⟨v', w', hr, q2, q3, q4⟩ := run_append_text (P := Tryz.prog) 44 Tryz.underlying44 hi hz0 hz1 hz2 hG2 (hkey.text (K0.out.belowB (by omega) hbB)) (by simp [be_length]) (by rw [Hbs.out]; exact hb2.size)
    exact ⟨v', w', FlowB.exec_append rfl rfl rfl hr, hG2.typed (Nat.le_refl _) q3, trivial, q2⟩
  rintro v3 w3 hb3 hF3 _
  apply Exists.intro
  refine ⟨fun w2 hb2 hF2 => wpQuiet_nil rfl, ?_⟩
  refine FlowB.AlChk.nil ?_
  refine FlowB.Walk.fin fun w4 h4 _ hG4 => ?_
  simp only [List.drop_succ_cons, List.drop_zero]
  have hbB := h4.below (B := w.heap.size + 1 + 1) (by rw [Hbs.out]; exact Nat.le_refl _)
  have Hr4 := hid (Kr.out.belowB (by omega) hbB)
  have Hb4 := hid (Hb.out.trans (hbB.mono (by omega)))
  have Ho4 := hid (show OwnB w4 (w.heap.size + 1 + 1) 5 v3 (be 32 n ++ key) from hG4)
  have hsz4 : w.heap.size + 1 + 1 ≤ w4.heap.size := by rw [Hbs.out]; exact h4.size
  have HT4 := hid (HT.out.below Hb4.out)
  clear h4 hG4 hbB Kr K0 Hb
  go_wp2_with (at_builtin; refine wpList_append_text rfl _ _ rfl Tryz.underlying44 hi hz0 hz1 hz2 rfl Ho4.out rfl HT4.out (by rw [List.length_append, be_length, hkey.len]; omega) hsz4 ?_)
  intro v5 w5 own5 _ b5
  obtain ⟨a5, c5, rfl, hT5, _⟩ := own5.text
  rw [show (be 32 n ++ (key ++ m)).length = 64 + tn by rw [List.length_append, List.length_append, be_length, hkey.len, Hml.out]; omega] at hT5 ⊢
  have HT5 := hid hT5
  have Hb5 := hid (Hb4.out.trans (b5.mono (by omega)))
  have Hr5 := hid (Hr4.out.belowB (by omega) b5)
  clear own5 hT5 b5
  go_wp2_with fail
  refine (refsum_any a5 (64 + tn) c5 (be 32 n ++ (key ++ m)) w5 HT5.out (by omega)).mono ?_
  rintro e w6 ⟨rfl, b6⟩
  have Hb6 := hid (Below.on Hb5.out b6)
  have Hr6 := hid (Hr5.out.below b6)
  clear b6 HT5
  generalize hS : sumZ (be 32 n ++ (key ++ m)) = S at *
  go_wp2_with (refine wpList_store_blk rfl 25 _ _ rfl (w.heap.size + 1) _ rfl rfl _ 25 Hr6.out 32 size_digest HzA.out HD.out.size (ints_one _ _) ?_; intro w7 hbut7 hk7)
  exact bodyPost_ret (v := .agg (S.map (Value.int .u8)).toArray) (results_blk Tryz.results39 _ (w.heap.size + 1) rfl _ 25 hk7 _ Tryz.underlying25 rfl 32 size_digest HD.out.size) rfl ⟨by rw [hS], hbut7.below Hb6.out Hb6.out.size (by omega)⟩
set_option maxHeartbeats 2000000 in
theorem refF_any (key m : List Int) (w : World) (hkey : Dg key) (hm : Dg m) :
    Calls Tryz.prog 90 #[.agg (key.map (Value.int .u8)).toArray, .agg (m.map (Value.int .u8)).toArray] w fun e w' => e = .returned (.agg ((fZ key m).map (Value.int .u8)).toArray) ∧ Below w.heap.size w w' := by
  have HM : Hid (fZ key m = sumZ (be 32 0 ++ (key ++ m))) := hid (by unfold fZ; rfl)
  have HD := hid (Dg.f key m)
  have b1 := (Below.refl w.heap.size w).alloc (Nat.le_refl _) (.cells (key.map (Value.int .u8)).toArray 25 (0, 0))
  have b2 := b1.alloc b1.size (.cells (m.map (Value.int .u8)).toArray 25 (0, 0))
  have bz := b2.alloc b2.size (.cells (byteCells 32 []) 25 (0, 0))
  have K0 := hid (((Blk.new (w := w) (n := w.heap.size) rfl (key.map (Value.int .u8)).toArray 25).old (.cells (m.map (Value.int .u8)).toArray 25 (0, 0))).old (.cells (byteCells 32 []) 25 (0, 0)))
  have K1 := hid ((Blk.new (w := (w.alloc (.cells (key.map (Value.int .u8)).toArray 25 (0, 0)))) (n := w.heap.size + 1) (by simp only [World.size_alloc]) (m.map (Value.int .u8)).toArray 25).old (.cells (byteCells 32 []) 25 (0, 0)))
  have Kr := hid (Blk.new (w := ((w.alloc (.cells (key.map (Value.int .u8)).toArray 25 (0, 0))).alloc (.cells (m.map (Value.int .u8)).toArray 25 (0, 0)))) (n := w.heap.size + 1 + 1) (by simp only [World.size_alloc]) (byteCells 32 []) 25)
  have Hb := hid bz
  have HzA := hid zsize
  have hbz := bz.size
  have hbs : w.heap.size + 1 + 1 + 1 = (((w.alloc (.cells (key.map (Value.int .u8)).toArray 25 (0, 0))).alloc (.cells (m.map (Value.int .u8)).toArray 25 (0, 0))).alloc (.cells (byteCells 32 []) 25 (0, 0))).heap.size := by simp only [World.size_alloc]
  have Hbs := hid hbs
  clear bz hbs b1 b2
  go_enter Tryz.func90, Tryz.ntmps90
  go_wp2_with fail
  refine wp_region_flow 3 [0, 1, 2] [] [] (by kernel_rfl) (by kernel_rfl) ?_
  apply Exists.intro
  refine ⟨fun w0 hb0 hF0 => ?_, ?_⟩
  · have hs := fun e : Ext w0 => of_any 0 key m _ 32 32 e.at_ (by omega) (by omega) hkey (hm.text ((K1.out.below hb0).below e.same)) (by omega)
    rw [← HM.out] at hs
    have x0 : ∀ w', (∃ x : Ext w0, w' = x.at_) → ∃ T, Blk w' (w.heap.size) (key.map (Value.int .u8)).toArray T := fun w' ⟨x, hx⟩ => ⟨_, hx ▸ (K0.out.below hb0).below x.same⟩
    simp only [pick, List.getElem?_toArray, List.getElem?_cons_succ, List.getElem?_cons_zero, Option.toList_some, List.cons_append, List.nil_append]
    repeat (first | (go_big_quiet_want; refine quiet_load_blk 25 _ rfl (w.heap.size) rfl _ x0 _ Tryz.underlying25 rfl 32 size_digest hkey.size ?_; go_big_quiet_on; simp only [Act.put, List.setIfInBounds_toArray, List.set_cons_zero, List.set_cons_succ]) | go_big_quiet_step (first | (go_at_call 39; exact Calls.ext (hs _))))
    exact wpQuiet_nil rfl
  refine AlChk.nil ?_
  refine Walk.fin fun w4 h4 _ _ => ?_
  simp only [List.drop_succ_cons, List.drop_zero]
  have Hr4 := hid (Kr.out.below h4)
  have Hb4 := hid (Below.on Hb.out h4)
  clear h4
  go_wp2_with (refine wpList_store_blk rfl 25 _ _ rfl (w.heap.size + 1 + 1) _ rfl rfl _ 25 Hr4.out 32 size_digest HzA.out HD.out.size (ints_one _ _) ?_; intro w7 hbut7 hk7)
  exact bodyPost_ret (v := .agg ((fZ key m).map (Value.int .u8)).toArray) (results_blk Tryz.results90 _ (w.heap.size + 1 + 1) rfl _ 25 hk7 _ Tryz.underlying25 rfl 32 size_digest HD.out.size) rfl ⟨rfl, hbut7.below Hb4.out Hb4.out.size (by omega)⟩
set_option maxHeartbeats 2000000 in
theorem refAt_any (key ad : List Int) (w : World) (hkey : Dg key) (ha : Aw ad) :
    Calls Tryz.prog 70 #[.agg (key.map (Value.int .u8)).toArray, .agg (ad.map (Value.int .u32)).toArray] w fun e w' => e = .returned (.agg ((atZ key ad).map (Value.int .u8)).toArray) ∧ Below w.heap.size w w' := by
  have HM : Hid (atZ key ad = sumZ (be 32 3 ++ (key ++ wordBytes ad))) := hid (by unfold atZ prfZ; rfl)
  have HD := hid (Dg.at_ key ad)
  have b1 := (Below.refl w.heap.size w).alloc (Nat.le_refl _) (.cells (key.map (Value.int .u8)).toArray 25 (0, 0))
  have b2 := b1.alloc b1.size (.cells (ad.map (Value.int .u32)).toArray 73 (0, 0))
  have bz := b2.alloc b2.size (.cells (byteCells 32 []) 25 (0, 0))
  have K0 := hid (((Blk.new (w := w) (n := w.heap.size) rfl (key.map (Value.int .u8)).toArray 25).old (.cells (ad.map (Value.int .u32)).toArray 73 (0, 0))).old (.cells (byteCells 32 []) 25 (0, 0)))
  have K1 := hid ((Blk.new (w := (w.alloc (.cells (key.map (Value.int .u8)).toArray 25 (0, 0)))) (n := w.heap.size + 1) (by simp only [World.size_alloc]) (ad.map (Value.int .u32)).toArray 73).old (.cells (byteCells 32 []) 25 (0, 0)))
  have Kr := hid (Blk.new (w := ((w.alloc (.cells (key.map (Value.int .u8)).toArray 25 (0, 0))).alloc (.cells (ad.map (Value.int .u32)).toArray 73 (0, 0)))) (n := w.heap.size + 1 + 1) (by simp only [World.size_alloc]) (byteCells 32 []) 25)
  have Hb := hid bz
  have HzA := hid zsize
  have hbz := bz.size
  have hbs : w.heap.size + 1 + 1 + 1 = (((w.alloc (.cells (key.map (Value.int .u8)).toArray 25 (0, 0))).alloc (.cells (ad.map (Value.int .u32)).toArray 73 (0, 0))).alloc (.cells (byteCells 32 []) 25 (0, 0))).heap.size := by simp only [World.size_alloc]
  have Hbs := hid hbs
  clear bz hbs b1 b2
  go_enter Tryz.func70, Tryz.ntmps70
  go_wp2_with fail
  refine wp_region_flow 4 [0, 1] [] [(.c 2, [3], [])] (by kernel_rfl) (by kernel_rfl) ?_
  apply Exists.intro
  refine ⟨fun w0 hb0 hF0 => ?_, ?_⟩
  · skip
    have x0 : ∀ w', (∃ x : Ext w0, w' = x.at_) → ∃ T, Blk w' (w.heap.size) (key.map (Value.int .u8)).toArray T := fun w' ⟨x, hx⟩ => ⟨_, hx ▸ (K0.out.below hb0).below x.same⟩
    have x1 : ∀ w', (∃ x : Ext w0, w' = x.at_) → ∃ T, Blk w' (w.heap.size + 1) (ad.map (Value.int .u32)).toArray T := fun w' ⟨x, hx⟩ => ⟨_, hx ▸ (K1.out.below hb0).below x.same⟩
    simp only [pick, List.getElem?_toArray, List.getElem?_cons_succ, List.getElem?_cons_zero, Option.toList_some, List.cons_append, List.nil_append]
    repeat (first | (go_big_quiet_want; refine quiet_load_blk 25 _ rfl (w.heap.size) rfl _ x0 _ Tryz.underlying25 rfl 32 size_digest hkey.size ?_; go_big_quiet_on; simp only [Act.put, List.setIfInBounds_toArray, List.set_cons_zero, List.set_cons_succ]) | (go_big_quiet_want; refine quiet_load_blk 73 _ rfl (w.heap.size + 1) rfl _ x1 _ Tryz.underlying73 rfl 8 sizeAdrs ha.size ?_; go_big_quiet_on; simp only [Act.put, List.setIfInBounds_toArray, List.set_cons_zero, List.set_cons_succ]) | go_big_quiet_step (fail))
    exact wpQuiet_nil rfl
  refine AlChk.nil ?_
  refine Walk.call rfl 92 #[.agg (ad.map (Value.int .u32)).toArray] (BytesAt ad) (fun v w' w'' h k => h.below k) rfl (fun w1 hb1 hF1 => ⟨by go_simp, ?_⟩) ?_
  · refine (ref_bytes_cap ad ha.len ha.small w1).mono ?_
    rintro e w2 ⟨g, cap, hc1, hc2, hg, rfl, b2, k2⟩
    exact ⟨_, rfl, b2, g, cap, rfl, hc1, hc2, k2⟩
  rintro v w1 hb1 hF1 ⟨g, cap, rfl, _, _, _⟩
  apply Exists.intro
  refine ⟨fun w3 hb3 hF3 => ?_, ?_⟩
  · have hs := fun e : Ext w3 => of_any 3 key (wordBytes ad) _ 32 cap e.at_ (by omega) (by omega) hkey ((hF3.2.below e.same).text ha.len) (by omega)
    rw [← HM.out] at hs
    simp only [pick, List.getElem?_toArray, List.getElem?_cons_succ, List.getElem?_cons_zero, Option.toList_some, List.cons_append, List.nil_append, Act.put, List.setIfInBounds_toArray, List.set_cons_zero, List.set_cons_succ]
    repeat (go_big_quiet_step (first | (go_at_call 39; exact Calls.ext (hs _))))
    exact wpQuiet_nil rfl
  refine AlChk.nil ?_
  refine Walk.fin fun w4 h4 _ _ => ?_
  simp only [List.drop_succ_cons, List.drop_zero]
  have Hr4 := hid (Kr.out.below h4)
  have Hb4 := hid (Below.on Hb.out h4)
  clear h4
  go_wp2_with (refine wpList_store_blk rfl 25 _ _ rfl (w.heap.size + 1 + 1) _ rfl rfl _ 25 Hr4.out 32 size_digest HzA.out HD.out.size (ints_one _ _) ?_; intro w7 hbut7 hk7)
  exact bodyPost_ret (v := .agg ((atZ key ad).map (Value.int .u8)).toArray) (results_blk Tryz.results70 _ (w.heap.size + 1 + 1) rfl _ 25 hk7 _ Tryz.underlying25 rfl 32 size_digest HD.out.size) rfl ⟨rfl, hbut7.below Hb4.out Hb4.out.size (by omega)⟩
end Go.Proofs.YtjkfbeillmeomaaGreatDoor
namespace Go.Proofs.YtjkfbeillmeomaaGreatDoor
set_option maxRecDepth 100000
open Go.ChangeShapes Go.WideShapes Go.ChangeAt Go.RowKit
/-- A text that came in, whatever is done to blocks from B on. -/
theorem TextAt.low0 {w0 w w' : World} {B : Nat} {a : Option Addr} {len cap : Nat} {t : List Int} (h0 : TextAt w0 a len cap t) (h : TextAt w a len cap t) (hB : w0.heap.size ≤ B) (hb : Below B w w') : TextAt w' a len cap t := by
  rcases Nat.eq_zero_or_pos len with hz | hz
  · obtain ⟨h1, h2, h3, h4, h5⟩ := h
    exact ⟨h1, h2, h3, h4, h5.imp id fun ⟨x, o, s, e, _⟩ => ⟨x, o, s, e, fun j hj => by omega⟩⟩
  · refine h.low hb fun p hp => ?_
    obtain ⟨x, o, he, hx, _⟩ := h0.at_ hz
    rw [hp] at he
    cases he
    show x < B
    omega
/-- an empty slice of bytes that the call made -/
def EmptyAt (B : Nat) (v : Value) : Prop := ∃ g, v = .slice (some ⟨g, 0, none⟩) 0 0 ∧ B ≤ g
def EmptyIn (v : Value) (w : World) : Prop := ∀ g, v = .slice (some ⟨g, 0, none⟩) 0 0 → Blk w g #[] 5
theorem EmptyIn.own {B g : Nat} {w : World} (h : EmptyIn (.slice (some ⟨g, 0, none⟩) 0 0) w) (hg : B ≤ g) : OwnB w B 5 (.slice (some ⟨g, 0, none⟩) 0 0) [] := OwnB.of_blk (bs := []) (h g rfl) hg rfl (by omega) (by simp)
theorem EmptyIn.new (w : World) : EmptyIn (.slice (some ⟨w.heap.size, 0, none⟩) 0 0) (w.alloc (.cells #[] 5)) := fun g hg => by
  injection hg with h1
  injection h1 with h1
  injection h1 with h1
  subst h1
  exact Blk.new rfl _ _
set_option maxHeartbeats 4000000 in
theorem refH_any (key a b : List Int) (w : World) (hkey : Dg key) (ha : Dg a) (hb : Dg b) :
    Calls Tryz.prog 102 #[.agg (key.map (Value.int .u8)).toArray, .agg (a.map (Value.int .u8)).toArray, .agg (b.map (Value.int .u8)).toArray] w fun e w' => e = .returned (.agg ((hZ key a b).map (Value.int .u8)).toArray) ∧ Below w.heap.size w w' := by
  have HM : Hid (hZ key a b = sumZ (be 32 1 ++ (key ++ (a ++ b)))) := hid (by unfold hZ; rfl)
  have HD := hid (Dg.h key a b)
  obtain ⟨i0, hi, hz0, hz1, hz2⟩ := info_parts info_byte
  have b1 := (Below.refl w.heap.size w).alloc (Nat.le_refl _) (.cells (key.map (Value.int .u8)).toArray 25 (0, 0))
  have b2 := b1.alloc b1.size (.cells (a.map (Value.int .u8)).toArray 25 (0, 0))
  have b3 := b2.alloc b2.size (.cells (b.map (Value.int .u8)).toArray 25 (0, 0))
  have bz := b3.alloc b3.size (.cells (byteCells 32 []) 25 (0, 0))
  have K0 := hid ((((Blk.new (w := w) (n := w.heap.size) rfl (key.map (Value.int .u8)).toArray 25).old (.cells (a.map (Value.int .u8)).toArray 25 (0, 0))).old (.cells (b.map (Value.int .u8)).toArray 25 (0, 0))).old (.cells (byteCells 32 []) 25 (0, 0)))
  have K1 := hid (((Blk.new (w := (w.alloc (.cells (key.map (Value.int .u8)).toArray 25 (0, 0)))) (n := w.heap.size + 1) (by simp only [World.size_alloc]) (a.map (Value.int .u8)).toArray 25).old (.cells (b.map (Value.int .u8)).toArray 25 (0, 0))).old (.cells (byteCells 32 []) 25 (0, 0)))
  have K2 := hid ((Blk.new (w := ((w.alloc (.cells (key.map (Value.int .u8)).toArray 25 (0, 0))).alloc (.cells (a.map (Value.int .u8)).toArray 25 (0, 0)))) (n := w.heap.size + 1 + 1) (by simp only [World.size_alloc]) (b.map (Value.int .u8)).toArray 25).old (.cells (byteCells 32 []) 25 (0, 0)))
  have Kr := hid (Blk.new (w := (((w.alloc (.cells (key.map (Value.int .u8)).toArray 25 (0, 0))).alloc (.cells (a.map (Value.int .u8)).toArray 25 (0, 0))).alloc (.cells (b.map (Value.int .u8)).toArray 25 (0, 0)))) (n := w.heap.size + 1 + 1 + 1) (by simp only [World.size_alloc]) (byteCells 32 []) 25)
  have Hb := hid bz
  have HzA := hid zsize
  have hbz := bz.size
  have hbs : w.heap.size + 1 + 1 + 1 + 1 = ((((w.alloc (.cells (key.map (Value.int .u8)).toArray 25 (0, 0))).alloc (.cells (a.map (Value.int .u8)).toArray 25 (0, 0))).alloc (.cells (b.map (Value.int .u8)).toArray 25 (0, 0))).alloc (.cells (byteCells 32 []) 25 (0, 0))).heap.size := by simp only [World.size_alloc]
  have Hbs := hid hbs
  clear bz hbs b1 b2 b3
  go_enter Tryz.func102, Tryz.ntmps102
  go_wp2_with fail
  have hB : w.heap.size + 1 + 1 + 1 + 1 ≤ ((((w.alloc (.cells (key.map (Value.int .u8)).toArray 25 (0, 0))).alloc (.cells (a.map (Value.int .u8)).toArray 25 (0, 0))).alloc (.cells (b.map (Value.int .u8)).toArray 25 (0, 0))).alloc (.cells (byteCells 32 []) 25 (0, 0))).heap.size := by rw [Hbs.out]; exact Nat.le_refl _
  have HB := hid hB
  clear hB
  refine FlowB.wp_region_typed (w.heap.size + 1 + 1 + 1 + 1) 5 7 [0, 2, 4] [] [(.c 1, [], []), (.c 3, [], []), (.c 5, [], []), (.c 6, [], [])] (by kernel_rfl) (by kernel_rfl) ?_
  apply Exists.intro
  refine ⟨fun w0 hb0 hF0 => ?_, ?_⟩
  · skip
    have x0 : ∀ w', (∃ x : Ext w0, w' = x.at_) → ∃ T, Blk w' (w.heap.size) (key.map (Value.int .u8)).toArray T := fun w' ⟨x, hx⟩ => ⟨_, hx ▸ (K0.out.belowB (by omega) (hb0.below HB.out)).below x.same⟩
    simp only [pick, List.getElem?_toArray, List.getElem?_cons_succ, List.getElem?_cons_zero, Option.toList_some, List.cons_append, List.nil_append]
    repeat (first | (go_big_quiet_want; refine quiet_load_blk 25 _ rfl (w.heap.size) rfl _ x0 _ Tryz.underlying25 rfl 32 size_digest hkey.size ?_; go_big_quiet_on; simp only [Act.put, List.setIfInBounds_toArray, List.set_cons_zero, List.set_cons_succ]) | go_big_quiet_step (fail))
    exact wpQuiet_nil rfl
  refine FlowB.AlChk.nil ?_
  refine FlowB.Walk.does rfl (fun v _ => EmptyAt (w.heap.size + 1 + 1 + 1 + 1) v) (fun v w' => EmptyIn v w') (fun v w' w'' _ h _ => h) (fun v w' w'' h k g hg => (h g hg).below k) rfl (fun w5 hb5 hF5 _ => ?_) ?_
  · exact ⟨.slice (some ⟨w5.heap.size, 0, none⟩) 0 0, w5.alloc (.cells #[] 5), by go_simp, (FlowB.rel_typed _ _).of ((Below.refl _ _).alloc (Nat.le_refl _) _), ⟨w5.heap.size, rfl, Nat.le_trans HB.out hb5.size⟩, EmptyIn.new w5⟩
  rintro v w5 hb5 hF5 ⟨gE, rfl, hgE⟩
  apply Exists.intro
  refine ⟨fun w4 hb4 hF4 => wpQuiet_nil rfl, ?_⟩
  refine FlowB.AlChk.nil ?_
  refine FlowB.Walk.does rfl (fun _ _ => True) (fun v w' => OwnB w' (w.heap.size + 1 + 1 + 1 + 1) 5 v a) (fun v w' w'' _ h _ => h) (fun v w' w'' h k => h.below k) rfl (fun w6 hb6 hF6 hG6 => ?_) ?_
  · have own := hG6.own hgE
    obtain ⟨v', w', hr, q2, q3, q4⟩ := run_append_text (P := Tryz.prog) 44 Tryz.underlying44 hi hz0 hz1 hz2 own (ha.text (K1.out.belowB (by omega) (hb6.below HB.out))) (by simp) (Nat.le_trans HB.out hb6.size)
    exact ⟨v', w', FlowB.exec_append rfl rfl rfl hr, own.typed (Nat.le_refl _) q3, trivial, by simpa using q2⟩
  rintro v6 w6 hb6 hF6 _
  apply Exists.intro
  refine ⟨fun w4 hb4 hF4 => wpQuiet_nil rfl, ?_⟩
  refine FlowB.AlChk.nil ?_
  refine FlowB.Walk.does rfl (fun _ _ => True) (fun v w' => OwnB w' (w.heap.size + 1 + 1 + 1 + 1) 5 v (a ++ b)) (fun v w' w'' _ h _ => h) (fun v w' w'' h k => h.below k) rfl (fun w7 hb7 hF7 hG7 => ?_) ?_
  · obtain ⟨v', w', hr, q2, q3, q4⟩ := run_append_text (P := Tryz.prog) 44 Tryz.underlying44 hi hz0 hz1 hz2 hG7 (hb.text (K2.out.belowB (by omega) (hb7.below HB.out))) (by rw [ha.len]; omega) (Nat.le_trans HB.out hb7.size)
    exact ⟨v', w', FlowB.exec_append rfl rfl rfl hr, hG7.typed (Nat.le_refl _) q3, trivial, q2⟩
  rintro v7 w7 hb7 hF7 _
  apply Exists.intro
  refine ⟨fun w4 hb4 hF4 => wpQuiet_nil rfl, ?_⟩
  refine FlowB.AlChk.nil ?_
  refine FlowB.Walk.call rfl 39 #[.int .u64 1, .agg (key.map (Value.int .u8)).toArray, v7] (fun v _ => v = .agg ((hZ key a b).map (Value.int .u8)).toArray) (fun _ _ => True) (fun v w' w'' _ h _ => h) (fun v w' w'' _ _ => trivial) rfl (fun w9 hb9 hF9 hG9 => ⟨by go_simp, ?_⟩) ?_
  · obtain ⟨aT, cT, rfl, hT, _⟩ := hG9.text
    refine (of_any 1 key (a ++ b) aT _ cT w9 (by omega) (by omega) hkey hT (by rw [List.length_append, ha.len, hb.len]; omega)).mono ?_
    rintro e w10 ⟨rfl, b10⟩
    exact ⟨_, rfl, (FlowB.rel_typed _ _).of b10, by rw [HM.out], trivial⟩
  rintro v9 w9 hb9 hF9 rfl
  apply Exists.intro
  refine ⟨fun w4 hb4 hF4 => wpQuiet_nil rfl, ?_⟩
  refine FlowB.AlChk.nil ?_
  refine FlowB.Walk.fin fun w4 h4 _ _ => ?_
  simp only [List.drop_succ_cons, List.drop_zero]
  have hbB := h4.below HB.out
  have Hr4 := hid (Kr.out.belowB (by omega) hbB)
  have Hb4 := hid (Hb.out.trans (hbB.mono (by omega)))
  clear h4 hbB
  go_wp2_with (refine wpList_store_blk rfl 25 _ _ rfl (w.heap.size + 1 + 1 + 1) _ rfl rfl _ 25 Hr4.out 32 size_digest HzA.out HD.out.size (ints_one _ _) ?_; intro w7 hbut7 hk7)
  exact bodyPost_ret (v := .agg ((hZ key a b).map (Value.int .u8)).toArray) (results_blk Tryz.results102 _ (w.heap.size + 1 + 1 + 1) rfl _ 25 hk7 _ Tryz.underlying25 rfl 32 size_digest HD.out.size) rfl ⟨rfl, hbut7.below Hb4.out Hb4.out.size (by omega)⟩
set_option maxHeartbeats 4000000 in
theorem refMessage_any (r root m : List Int) (index : Int) (ta : Option Addr) (tn tc : Nat) (w : World) (hr : Dg r) (hroot : Dg root) (hi0 : 0 ≤ index) (hi1 : index < 18446744073709551616) (hT : TextAt w ta tn tc m) (hn : tn ≤ 140737488320000) :
    Calls Tryz.prog 40 #[.agg (r.map (Value.int .u8)).toArray, .agg (root.map (Value.int .u8)).toArray, .int .u64 index, .slice ta tn tc] w fun e w' => e = .returned (.agg ((msgZ r root index m).map (Value.int .u8)).toArray) ∧ Below w.heap.size w w' := by
  have HM : Hid (msgZ r root index m = sumZ (be 32 2 ++ (r ++ (root ++ be 32 index ++ m)))) := hid (by unfold msgZ; rw [List.append_assoc root])
  have HD := hid (Dg.msg r root index m)
  obtain ⟨i0, hi, hz0, hz1, hz2⟩ := info_parts info_byte
  have b1 := (Below.refl w.heap.size w).alloc (Nat.le_refl _) (.cells (r.map (Value.int .u8)).toArray 25 (0, 0))
  have b2 := b1.alloc b1.size (.cells (root.map (Value.int .u8)).toArray 25 (0, 0))
  have bz := b2.alloc b2.size (.cells (byteCells 32 []) 25 (0, 0))
  have K0 := hid (((Blk.new (w := w) (n := w.heap.size) rfl (r.map (Value.int .u8)).toArray 25).old (.cells (root.map (Value.int .u8)).toArray 25 (0, 0))).old (.cells (byteCells 32 []) 25 (0, 0)))
  have K1 := hid ((Blk.new (w := (w.alloc (.cells (r.map (Value.int .u8)).toArray 25 (0, 0)))) (n := w.heap.size + 1) (by simp only [World.size_alloc]) (root.map (Value.int .u8)).toArray 25).old (.cells (byteCells 32 []) 25 (0, 0)))
  have Kr := hid (Blk.new (w := ((w.alloc (.cells (r.map (Value.int .u8)).toArray 25 (0, 0))).alloc (.cells (root.map (Value.int .u8)).toArray 25 (0, 0)))) (n := w.heap.size + 1 + 1) (by simp only [World.size_alloc]) (byteCells 32 []) 25)
  have Hb := hid bz
  have HzA := hid zsize
  have hbz := bz.size
  have hbs : w.heap.size + 1 + 1 + 1 = (((w.alloc (.cells (r.map (Value.int .u8)).toArray 25 (0, 0))).alloc (.cells (root.map (Value.int .u8)).toArray 25 (0, 0))).alloc (.cells (byteCells 32 []) 25 (0, 0))).heap.size := by simp only [World.size_alloc]
  have Hbs := hid hbs
  have HT := hid hT
  have hle := hT.le
  have hmx := hT.max
  have Hml := hid hT.length
  clear bz hbs hT b1 b2
  have own0 : OwnB ((((w.alloc (.cells (r.map (Value.int .u8)).toArray 25 (0, 0))).alloc (.cells (root.map (Value.int .u8)).toArray 25 (0, 0))).alloc (.cells (byteCells 32 []) 25 (0, 0))).alloc (.cells #[] 5)) (w.heap.size + 1 + 1 + 1) 5 (.slice (some ⟨w.heap.size + 1 + 1 + 1, 0, none⟩) 0 0) [] := OwnB.of_blk (bs := []) (Blk.new (by rw [← Hbs.out]) #[] 5) (Nat.le_refl _) rfl (by omega) (by simp)
  have H0 := hid own0
  have T1 := hid (hroot.text (K1.out.old (.cells #[] 5)))
  have hsz1 : w.heap.size + 1 + 1 + 1 ≤ ((((w.alloc (.cells (r.map (Value.int .u8)).toArray 25 (0, 0))).alloc (.cells (root.map (Value.int .u8)).toArray 25 (0, 0))).alloc (.cells (byteCells 32 []) 25 (0, 0))).alloc (.cells #[] 5)).heap.size := by rw [World.size_alloc, ← Hbs.out]; omega
  have Hba := hid ((Below.refl ((((w.alloc (.cells (r.map (Value.int .u8)).toArray 25 (0, 0))).alloc (.cells (root.map (Value.int .u8)).toArray 25 (0, 0))).alloc (.cells (byteCells 32 []) 25 (0, 0)))).heap.size (((w.alloc (.cells (r.map (Value.int .u8)).toArray 25 (0, 0))).alloc (.cells (root.map (Value.int .u8)).toArray 25 (0, 0))).alloc (.cells (byteCells 32 []) 25 (0, 0)))).alloc (Nat.le_refl _) (.cells #[] 5))
  have Hsz1 := hid hsz1
  clear own0 hsz1
  go_enter Tryz.func40, Tryz.ntmps40
  go_wp2_with (at_builtin; refine wpList_append_text rfl (.tmp 10) (.tmp 11) rfl Tryz.underlying44 hi hz0 hz1 hz2 rfl H0.out rfl T1.out (by simp) Hsz1.out ?_)
  intro v5 w5 own5 _ b5
  have Ho5 := hid own5
  have Hb5B := hid (Below.trans (Hba.out.mono (by rw [← Hbs.out]; exact Nat.le_refl _)) b5)
  have Hb5 := hid (Hb.out.trans (Hb5B.out.mono (show w.heap.size ≤ w.heap.size + 1 + 1 + 1 by omega)))
  have Hr5 := hid (Kr.out.belowB (show w.heap.size + 1 + 1 < w.heap.size + 1 + 1 + 1 by omega) Hb5B.out)
  have K05 := hid (K0.out.belowB (show w.heap.size < w.heap.size + 1 + 1 + 1 by omega) Hb5B.out)
  have hsz5 : w.heap.size + 1 + 1 + 1 ≤ w5.heap.size := by rw [Hbs.out]; exact Hb5B.out.size
  clear own5 b5 Hba K0 K1 Kr T1 H0 Hb
  go_wp2_with fail
  refine (refnumber_own index 32 32 w5 hi0 hi1 rfl (by omega)).mono ?_
  rintro e w6 ⟨v6, rfl, b6, o6⟩
  have Ho6 := hid (Ho5.out.below b6)
  have Hb6 := hid (Below.on Hb5.out b6)
  have Hr6 := hid (Hr5.out.below b6)
  have K06 := hid (K05.out.below b6)
  have hsz6 : w.heap.size + 1 + 1 + 1 ≤ w6.heap.size := Nat.le_trans hsz5 b6.size
  obtain ⟨a6, c6, rfl, hT6, _⟩ := o6.text
  rw [be_length] at hT6 ⊢
  have HT6 := hid hT6
  clear o6 b6 hT6 Hb5B
  go_wp2_with (at_builtin; refine wpList_append_text rfl (.tmp 12) (.tmp 14) rfl Tryz.underlying44 hi hz0 hz1 hz2 rfl Ho6.out rfl HT6.out (by simp [hroot.len]) hsz6 ?_)
  intro v7 w7 own7 _ b7
  have Ho7 := hid own7
  have Hb7 := hid (Hb6.out.trans (b7.mono (show w.heap.size ≤ w.heap.size + 1 + 1 + 1 by omega)))
  have Hr7 := hid (Hr6.out.belowB (show w.heap.size + 1 + 1 < w.heap.size + 1 + 1 + 1 by omega) b7)
  have K07 := hid (K06.out.belowB (show w.heap.size < w.heap.size + 1 + 1 + 1 by omega) b7)
  have HT7 := hid (HT.out.below Hb7.out)
  have HB7 := hid (show w.heap.size + 1 + 1 + 1 ≤ w7.heap.size from Nat.le_trans hsz6 b7.size)
  clear own7 b7 Ho6 HT6 Ho5
  go_wp2_with fail
  refine FlowB.wp_region_typed_g (w.heap.size + 1 + 1 + 1) 5 (fun w' => OwnB w' (w.heap.size + 1 + 1 + 1) 5 v7 (root ++ be 32 index)) 5 [0, 1, 2] [] [(.c 3, [], []), (.c 4, [], [])] (by kernel_rfl) (by kernel_rfl) Ho7.out (fun _ _ h k => h.below k) ?_
  apply Exists.intro
  refine ⟨fun w0 hb0 hF0 => ?_, ?_⟩
  · skip
    have x0 : ∀ w', (∃ x : Ext w0, w' = x.at_) → ∃ T, Blk w' (w.heap.size) (r.map (Value.int .u8)).toArray T := fun w' ⟨x, hx⟩ => ⟨_, hx ▸ (K07.out.belowB (by omega) (hb0.below HB7.out)).below x.same⟩
    simp only [pick, List.getElem?_toArray, List.getElem?_cons_succ, List.getElem?_cons_zero, Option.toList_some, List.cons_append, List.nil_append]
    repeat (first | (go_big_quiet_want; refine quiet_load_blk 25 _ rfl (w.heap.size) rfl _ x0 _ Tryz.underlying25 rfl 32 size_digest hr.size ?_; go_big_quiet_on; simp only [Act.put, List.setIfInBounds_toArray, List.set_cons_zero, List.set_cons_succ]) | go_big_quiet_step (fail))
    exact wpQuiet_nil rfl
  refine FlowB.AlChk.nil ?_
  refine FlowB.Walk.does rfl (fun _ _ => True) (fun v w' => OwnB w' (w.heap.size + 1 + 1 + 1) 5 v (root ++ be 32 index ++ m)) (fun v w' w'' _ h _ => h) (fun v w' w'' h k => h.below k) rfl (fun w8 hb8 hF8 hG8 => ?_) ?_
  · obtain ⟨v', w', hr', q2, q3, q4⟩ := run_append_text (P := Tryz.prog) 44 Tryz.underlying44 hi hz0 hz1 hz2 hG8 (HT.out.low0 HT7.out (by omega) (hb8.below HB7.out)) (by rw [List.length_append, hroot.len, be_length]; omega) (Nat.le_trans HB7.out hb8.size)
    exact ⟨v', w', FlowB.exec_append rfl rfl rfl hr', OwnB.typed hG8 (Nat.le_refl _) q3, trivial, q2⟩
  rintro v8 w8 hb8 hF8 _
  apply Exists.intro
  refine ⟨fun w4 hb4 hF4 => wpQuiet_nil rfl, ?_⟩
  refine FlowB.AlChk.nil ?_
  refine FlowB.Walk.call rfl 39 #[.int .u64 2, .agg (r.map (Value.int .u8)).toArray, v8] (fun v _ => v = .agg ((msgZ r root index m).map (Value.int .u8)).toArray) (fun _ _ => True) (fun v w' w'' _ h _ => h) (fun v w' w'' _ _ => trivial) rfl (fun w9 hb9 hF9 hG9 => ⟨by go_simp, ?_⟩) ?_
  · obtain ⟨aT, cT, rfl, hT, _⟩ := hG9.text
    refine (of_any 2 r (root ++ be 32 index ++ m) aT _ cT w9 (by omega) (by omega) hr hT (by rw [List.length_append, List.length_append, hroot.len, be_length, Hml.out]; omega)).mono ?_
    rintro e w10 ⟨rfl, b10⟩
    exact ⟨_, rfl, (FlowB.rel_typed _ _).of b10, by rw [HM.out], trivial⟩
  rintro v9 w9 hb9 hF9 rfl
  apply Exists.intro
  refine ⟨fun w4 hb4 hF4 => wpQuiet_nil rfl, ?_⟩
  refine FlowB.AlChk.nil ?_
  refine FlowB.Walk.fin fun w4 h4 _ _ => ?_
  simp only [List.drop_succ_cons, List.drop_zero]
  have hbB := h4.below HB7.out
  have Hr4 := hid (Hr7.out.belowB (show w.heap.size + 1 + 1 < w.heap.size + 1 + 1 + 1 by omega) hbB)
  have Hb4 := hid (Hb7.out.trans (hbB.mono (by omega)))
  clear h4 hbB
  go_wp2_with (refine wpList_store_blk rfl 25 _ _ rfl (w.heap.size + 1 + 1) _ rfl rfl _ 25 Hr4.out 32 size_digest HzA.out HD.out.size (ints_one _ _) ?_; intro w7 hbut7 hk7)
  exact bodyPost_ret (v := .agg ((msgZ r root index m).map (Value.int .u8)).toArray) (results_blk Tryz.results40 _ (w.heap.size + 1 + 1) rfl _ 25 hk7 _ Tryz.underlying25 rfl 32 size_digest HD.out.size) rfl ⟨rfl, hbut7.below Hb4.out Hb4.out.size (by omega)⟩
set_option maxHeartbeats 4000000 in
theorem refMask_any (a b : List Int) (w : World) (ha : Dg a) (hb : Dg b) :
    Calls Tryz.prog 91 #[.agg (a.map (Value.int .u8)).toArray, .agg (b.map (Value.int .u8)).toArray] w fun e w' => e = .returned (.agg ((xorD a b).map (Value.int .u8)).toArray) ∧ Below w.heap.size w w' := by
  have HD := hid (ha.xor hb)
  have b1 := (Below.refl w.heap.size w).alloc (Nat.le_refl _) (.cells (a.map (Value.int .u8)).toArray 25 (0, 0))
  have b2 := b1.alloc b1.size (.cells (b.map (Value.int .u8)).toArray 25 (0, 0))
  have bz := b2.alloc b2.size (.cells (byteCells 32 []) 25 (0, 0))
  have K0 := hid (((Blk.new (w := w) (n := w.heap.size) rfl (a.map (Value.int .u8)).toArray 25).old (.cells (b.map (Value.int .u8)).toArray 25 (0, 0))).old (.cells (byteCells 32 []) 25 (0, 0)))
  have K1 := hid ((Blk.new (w := (w.alloc (.cells (a.map (Value.int .u8)).toArray 25 (0, 0)))) (n := w.heap.size + 1) (by simp only [World.size_alloc]) (b.map (Value.int .u8)).toArray 25).old (.cells (byteCells 32 []) 25 (0, 0)))
  have Kr := hid (Blk.new (w := ((w.alloc (.cells (a.map (Value.int .u8)).toArray 25 (0, 0))).alloc (.cells (b.map (Value.int .u8)).toArray 25 (0, 0)))) (n := w.heap.size + 1 + 1) (by simp only [World.size_alloc]) (byteCells 32 []) 25)
  have Hb := hid bz
  have HzA := hid zsize
  have hbz := bz.size
  have hbs : w.heap.size + 1 + 1 + 1 = (((w.alloc (.cells (a.map (Value.int .u8)).toArray 25 (0, 0))).alloc (.cells (b.map (Value.int .u8)).toArray 25 (0, 0))).alloc (.cells (byteCells 32 []) 25 (0, 0))).heap.size := by simp only [World.size_alloc]
  have Hbs := hid hbs
  clear bz hbs b1 b2
  have Ko := hid (Blk.new (w := (((w.alloc (.cells (a.map (Value.int .u8)).toArray 25 (0, 0))).alloc (.cells (b.map (Value.int .u8)).toArray 25 (0, 0))).alloc (.cells (byteCells 32 []) 25 (0, 0)))) (n := w.heap.size + 1 + 1 + 1) (by rw [Hbs.out]) (byteCells 32 []) 25)
  have K0' := hid (K0.out.old (.cells (byteCells 32 []) 25 (0, 0)))
  have K1' := hid (K1.out.old (.cells (byteCells 32 []) 25 (0, 0)))
  have Kr' := hid (Kr.out.old (.cells (byteCells 32 []) 25 (0, 0)))
  have Hb' := hid (Hb.out.alloc Hb.out.size (.cells (byteCells 32 []) 25 (0, 0)))
  clear K0 K1 Kr Hb
  go_enter Tryz.func91, Tryz.ntmps91
  go_wp2_with fail
  go_loopw [6] (fun v wr => ∃ k : Nat, k ≤ 32 ∧ v = .int .i64 k ∧ Blk wr (w.heap.size + 1 + 1 + 1) (byteCells 32 ((xorD a b).take k)) 25 ∧ Blk wr (w.heap.size) (a.map (Value.int .u8)).toArray 25 ∧ Blk wr (w.heap.size + 1) (b.map (Value.int .u8)).toArray 25 ∧ Blk wr (w.heap.size + 1 + 1) (byteCells 32 []) 25 ∧ Below w.heap.size w wr) (fun v _ => 32 - (intOf v).toNat)
  case atStart => exact ⟨0, Nat.zero_le _, rfl, Ko.out, K0'.out, K1'.out, Kr'.out, Hb'.out⟩
  case round =>
    clear Ko K0' K1' Kr' Hb'
    obtain ⟨k, hk, rfl, kO, kA, kB, kR, bel⟩ := hrel
    by_cases hlt : k < 32
    · have hxa : 0 ≤ a.getD k 0 ∧ a.getD k 0 < 256 := ha.small _ (by rw [List.getD_eq_getElem?_getD, List.getElem?_eq_getElem (by rw [ha.len]; omega)]; exact List.getElem_mem _)
      have hxb : 0 ≤ b.getD k 0 ∧ b.getD k 0 < 256 := hb.small _ (by rw [List.getD_eq_getElem?_getD, List.getElem?_eq_getElem (by rw [hb.len]; omega)]; exact List.getElem_mem _)
      have hxor := bits_xorZ hxa hxb
      have ca := (kA.cell k).trans (digest_get ha.len k hlt _ rfl)
      have cb := (kB.cell k).trans (digest_get hb.len k hlt _ rfl)
      have hts : (xorD a b).take (k + 1) = (xorD a b).take k ++ [xorZ (a.getD k 0) (b.getD k 0)] := by
        have hl : k < (xorD a b).length := by simp [xorD, ha.len, hb.len, hlt]
        rw [List.take_succ_eq_append_getElem hl]
        congr 2
        simp [xorD, List.getD_eq_getElem?_getD, show k < a.length by rw [ha.len]; omega, show k < b.length by rw [hb.len]; omega]
      have hll : ((xorD a b).take k).length = k := by simp [xorD, ha.len, hb.len]; omega
      have Hts := hid hts
      have Hll := hid hll
      have hz : wr.cell? ⟨w.heap.size + 1 + 1 + 1, k, none⟩ = some (.int .u8 0) := by rw [kO.cell]; exact byteCells_zero _ _ _ (by omega) hlt
      have HO := hid kO
      have HA := hid kA
      have HB := hid kB
      have HR := hid kR
      have Hbel := hid bel
      have hlA := kA.lt
      have hlB := kB.lt
      have hlO := kO.lt
      obtain ⟨hxa0, hxa1⟩ := hxa
      obtain ⟨hxb0, hxb1⟩ := hxb
      clear hts hll
      generalize a.getD k 0 = x at *
      generalize b.getD k 0 = y at *
      clear kO kA kB kR bel
      go_wp2_with fail
      refine wp_region_flow 9 (List.range 9) [] [] (by kernel_rfl) (by kernel_rfl) ?_
      apply Exists.intro
      refine ⟨fun w0 hb0 hF0 => ?_, ?_⟩
      · have k1 : ∀ e : Ext w0, e.at_.cell? ⟨w.heap.size, k, none⟩ = some (.int .u8 x) := fun e => by rw [((HA.out.below hb0).below e.same).cell, ← HA.out.cell]; exact ca
        have k2 : ∀ e : Ext w0, e.at_.cell? ⟨w.heap.size + 1, k, none⟩ = some (.int .u8 y) := fun e => by rw [((HB.out.below hb0).below e.same).cell, ← HB.out.cell]; exact cb
        simp only [pick, List.range, List.range.loop, List.getElem?_toArray, List.getElem?_cons_succ, List.getElem?_cons_zero, Option.toList_some, List.cons_append, List.nil_append]
        repeat (go_big_quiet_step (fail))
        exact wpQuiet_nil rfl
      refine AlChk.nil ?_
      refine Walk.fin fun w4 h4 _ _ => ?_
      simp only [List.drop_succ_cons, List.drop_zero]
      have HO4 := hid (HO.out.below h4)
      have HA4 := hid (HA.out.below h4)
      have HB4 := hid (HB.out.below h4)
      have HR4 := hid (HR.out.below h4)
      have Hbel4 := hid (Below.on Hbel.out h4)
      have hz4 : w4.cell? ⟨w.heap.size + 1 + 1 + 1, k, none⟩ = some (.int .u8 0) := by rw [HO4.out.cell, ← HO.out.cell]; exact hz
      have fr := HO4.out.free
      clear h4 hz ca cb HO HA HB HR Hbel
      go_wp2_with fail
      refine ⟨⟨k + 1, by omega, by go_num, ?_, HA4.out.other ⟨w.heap.size + 1 + 1 + 1, k, none⟩ (show w.heap.size + 1 + 1 + 1 ≠ w.heap.size by omega) _, HB4.out.other ⟨w.heap.size + 1 + 1 + 1, k, none⟩ (show w.heap.size + 1 + 1 + 1 ≠ w.heap.size + 1 by omega) _, HR4.out.other ⟨w.heap.size + 1 + 1 + 1, k, none⟩ (show w.heap.size + 1 + 1 + 1 ≠ w.heap.size + 1 + 1 by omega) _, Hbel4.out.setCell (p := ⟨w.heap.size + 1 + 1 + 1, k, none⟩) (show w.heap.size ≤ w.heap.size + 1 + 1 + 1 by omega) _⟩, by simp [intOf]; omega⟩
      have h1 := HO4.out.set k (.int .u8 (xorZ x y))
      have h2 := byteCells_set 32 ((xorD a b).take k) (xorZ x y) (by have := Hll.out; omega)
      rw [Hll.out] at h2
      rw [h2, ← Hts.out] at h1
      exact h1
    · have h32 : k = 32 := by omega
      have kF : Blk wr (w.heap.size + 1 + 1 + 1) ((xorD a b).map (Value.int .u8)).toArray 25 := by
        rw [h32, List.take_of_length_le (by simp [xorD, ha.len, hb.len]), byteCells_full 32 _ (by simp [xorD, ha.len, hb.len])] at kO
        exact kO
      have HkF := hid kF
      have HkR := hid kR
      have Hbel := hid bel
      have H32 := hid h32
      clear kO kA kB kR bel kF h32
      go_wp2_with (first | (refine wpList_load_blk rfl 25 _ rfl (w.heap.size + 1 + 1 + 1) rfl _ 25 HkF.out _ Tryz.underlying25 rfl 32 size_digest HD.out.size ?_) | (refine wpList_store_blk rfl 25 _ _ rfl (w.heap.size + 1 + 1) _ rfl rfl _ 25 HkR.out 32 size_digest HzA.out HD.out.size (ints_one _ _) ?_; intro w7 hbut7 hk7))
      exact bodyPost_ret (v := .agg ((xorD a b).map (Value.int .u8)).toArray) (results_blk Tryz.results91 _ (w.heap.size + 1 + 1) rfl _ 25 hk7 _ Tryz.underlying25 rfl 32 size_digest HD.out.size) rfl ⟨rfl, hbut7.below Hbel.out Hbel.out.size (by omega)⟩
end Go.Proofs.YtjkfbeillmeomaaGreatDoor
namespace Go.Proofs.YtjkfbeillmeomaaGreatDoor
set_option maxRecDepth 100000
open Go.ChangeShapes Go.WideShapes Go.ChangeAt Go.RowKit
def zD : List Int := List.replicate 32 0
theorem Dg.zero : Dg zD := ⟨by simp [zD], fun x hx => by have := List.eq_of_mem_replicate hx; omega⟩
theorem exec_make {P : Program} {o : Oper} {A : Act} {w w' : World} {l c : Operand} {t : TypeId} {vl vc v' : Value} (ho : o.op = .makeSlice t l c) (hl : A.eval l = vl) (hc : A.eval c = vc)
    (hr : (Instr.makeSlice t vl vc).run P w = .ok v' w') : (execOp A.eval o).run P w = .ok (.value v') w' := by
  unfold execOp
  simp [ho, hl, hc, hr]
end Go.Proofs.YtjkfbeillmeomaaGreatDoor
