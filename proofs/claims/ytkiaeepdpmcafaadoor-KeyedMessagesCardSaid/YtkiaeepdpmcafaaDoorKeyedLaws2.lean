/-
  The statements of layer 5: the walks of their texts.
-/
import Derived.Test.YtkiaeepdpmcafaaDoorKeyedLaws
namespace Go.Proofs.YtkiaeepdpmcafaaDoor
open Go.ChangeShapes Go.WideShapes Go.ChangeAt Go.RowKit

theorem keyedSums_not (x0 x1 x2 x4 : Array Value) (ta : Option Addr) (tn tc : Nat) (m : List Int) (w : World) (tab : ShaTab w) (hT : TextAt w ta tn tc m) (hn : 1000 < tn) :
    Calls Tryd.prog 8 #[.agg x0, .agg x1, .agg x2, .slice ta tn tc, .agg x4] w fun e w' => e = .returned (.bool true) ∧ Below w.heap.size w w' := by
  have q1 := hT.le
  have q2 := hT.max
  have b1 := (Below.refl w.heap.size w).alloc (Nat.le_refl _) (.cells x0 26 (0, 0))
  have b2 := b1.alloc b1.size (.cells x1 26 (0, 0))
  have b3 := b2.alloc b2.size (.cells x2 26 (0, 0))
  have b4 := b3.alloc b3.size (.cells x4 45 (0, 0))
  have Hb := hid b4
  have Htab := hid (tab.below b4)
  clear tab hT b1 b2 b3 b4
  go_enter Tryd.func8, Tryd.ntmps8
  go_wp2_with (first | (go_at_call 24; refine (knows05 _ Htab.out).mono ?_; rintro e w2 ⟨rfl, bel⟩))
  go_returns
  exact ⟨rfl, Below.on Hb.out bel⟩

set_option maxHeartbeats 4000000 in
set_option maxRecDepth 100000 in
theorem keyedSums_walk (key a b m ad : List Int) (ta : Option Addr) (tn tc : Nat) (w : World) (tab : ShaTab w) (hkey : Dg key) (ha : Dg a) (hb : Dg b) (had : Aw ad) (hT : TextAt w ta tn tc m) (hn : tn ≤ 1000) :
    Calls Tryd.prog 8 #[.agg (key.map (Value.int .u8)).toArray, .agg (a.map (Value.int .u8)).toArray, .agg (b.map (Value.int .u8)).toArray, .slice ta tn tc, .agg (ad.map (Value.int .u32)).toArray] w fun e w' => e = .returned (.bool true) ∧ Below w.heap.size w w' := by
  have q1 := hT.le
  have q2 := hT.max
  have b1 := (Below.refl w.heap.size w).alloc (Nat.le_refl _) (.cells (key.map (Value.int .u8)).toArray 26 (0, 0))
  have b2 := b1.alloc b1.size (.cells (a.map (Value.int .u8)).toArray 26 (0, 0))
  have b3 := b2.alloc b2.size (.cells (b.map (Value.int .u8)).toArray 26 (0, 0))
  have b4 := b3.alloc b3.size (.cells (ad.map (Value.int .u32)).toArray 45 (0, 0))
  have K0 := hid ((((Blk.new (w := w) (n := w.heap.size) rfl (key.map (Value.int .u8)).toArray 26).old (.cells (a.map (Value.int .u8)).toArray 26 (0, 0))).old (.cells (b.map (Value.int .u8)).toArray 26 (0, 0))).old (.cells (ad.map (Value.int .u32)).toArray 45 (0, 0)))
  have K1 := hid (((Blk.new (w := (w.alloc (.cells (key.map (Value.int .u8)).toArray 26 (0, 0)))) (n := w.heap.size + 1) (by simp only [World.size_alloc]) (a.map (Value.int .u8)).toArray 26).old (.cells (b.map (Value.int .u8)).toArray 26 (0, 0))).old (.cells (ad.map (Value.int .u32)).toArray 45 (0, 0)))
  have K2 := hid ((Blk.new (w := ((w.alloc (.cells (key.map (Value.int .u8)).toArray 26 (0, 0))).alloc (.cells (a.map (Value.int .u8)).toArray 26 (0, 0)))) (n := w.heap.size + 1 + 1) (by simp only [World.size_alloc]) (b.map (Value.int .u8)).toArray 26).old (.cells (ad.map (Value.int .u32)).toArray 45 (0, 0)))
  have K3 := hid (Blk.new (w := (((w.alloc (.cells (key.map (Value.int .u8)).toArray 26 (0, 0))).alloc (.cells (a.map (Value.int .u8)).toArray 26 (0, 0))).alloc (.cells (b.map (Value.int .u8)).toArray 26 (0, 0)))) (n := w.heap.size + 1 + 1 + 1) (by simp only [World.size_alloc]) (ad.map (Value.int .u32)).toArray 45)
  have Hb := hid b4
  clear b1 b2 b3 b4
  have Htab := hid (tab.below Hb.out)
  have HT := hid (hT.below Hb.out)
  have Q := hid (And.intro (eqD_self (fZ key a) (Dg.f _ _).len) (And.intro (eqD_self (hZ key a b) (Dg.h _ _ _).len) (And.intro (eqD_self (prfZ key m) (Dg.prf _ _).len) (eqD_self (atZ key ad) (Dg.at_ _ _).len))))
  clear tab hT
  go_enter Tryd.func8, Tryd.ntmps8
  go_wp2_with fail
  refine wp_region_flow 40 (List.range 40) [] [] (by kernel_rfl) (by kernel_rfl) ?_
  apply Exists.intro
  refine ⟨fun w0 hb0 hF0 => ?_, ?_⟩
  · skip
    have x0 : ∀ w', (∃ x : Ext w0, w' = x.at_) → ∃ T, Blk w' (w.heap.size) (key.map (Value.int .u8)).toArray T := fun w' ⟨x, hx⟩ => ⟨_, hx ▸ (K0.out.below hb0).below x.same⟩
    have x1 : ∀ w', (∃ x : Ext w0, w' = x.at_) → ∃ T, Blk w' (w.heap.size + 1) (a.map (Value.int .u8)).toArray T := fun w' ⟨x, hx⟩ => ⟨_, hx ▸ (K1.out.below hb0).below x.same⟩
    have x2 : ∀ w', (∃ x : Ext w0, w' = x.at_) → ∃ T, Blk w' (w.heap.size + 1 + 1) (b.map (Value.int .u8)).toArray T := fun w' ⟨x, hx⟩ => ⟨_, hx ▸ (K2.out.below hb0).below x.same⟩
    have x3 : ∀ w', (∃ x : Ext w0, w' = x.at_) → ∃ T, Blk w' (w.heap.size + 1 + 1 + 1) (ad.map (Value.int .u32)).toArray T := fun w' ⟨x, hx⟩ => ⟨_, hx ▸ (K3.out.below hb0).below x.same⟩
    have tb := fun e : Ext w0 => (Htab.out.below hb0).below e.same
    have tx := fun e : Ext w0 => (HT.out.below hb0).below e.same
    have c1 := fun e : Ext w0 => F_any key a e.at_ hkey ha (tb e)
    have c2 := fun e : Ext w0 => refF_any key a e.at_ hkey ha
    have c3 := fun e : Ext w0 => H_any key a b e.at_ hkey ha hb (tb e)
    have c4 := fun e : Ext w0 => refH_any key a b e.at_ hkey ha hb
    have c5 := fun e : Ext w0 => Prf_any key m ta tn tc e.at_ hkey (tx e) (by omega) (tb e)
    have c6 := fun e : Ext w0 => refPrf_any key m ta tn tc e.at_ hkey (tx e) (by omega)
    have c7 := fun e : Ext w0 => At_any key ad e.at_ hkey had (tb e)
    have c8 := fun e : Ext w0 => refAt_any key ad e.at_ hkey had
    have c9 := fun e : Ext w0 => knows05 e.at_ (tb e)
    obtain ⟨q1, q2, q3, q4⟩ := Q.out
    simp only [pick, List.range, List.range.loop, List.getElem?_toArray, List.getElem?_cons_succ, List.getElem?_cons_zero, Option.toList_some, List.cons_append, List.nil_append]
    repeat (first | (go_big_quiet_want; refine quiet_load_blk 26 _ rfl (w.heap.size) rfl _ x0 _ Tryd.underlying26 rfl 32 size_digest hkey.size ?_; go_big_quiet_on; simp only [Act.put, List.setIfInBounds_toArray, List.set_cons_zero, List.set_cons_succ]) | (go_big_quiet_want; refine quiet_load_blk 26 _ rfl (w.heap.size + 1) rfl _ x1 _ Tryd.underlying26 rfl 32 size_digest ha.size ?_; go_big_quiet_on; simp only [Act.put, List.setIfInBounds_toArray, List.set_cons_zero, List.set_cons_succ]) | (go_big_quiet_want; refine quiet_load_blk 26 _ rfl (w.heap.size + 1 + 1) rfl _ x2 _ Tryd.underlying26 rfl 32 size_digest hb.size ?_; go_big_quiet_on; simp only [Act.put, List.setIfInBounds_toArray, List.set_cons_zero, List.set_cons_succ]) | (go_big_quiet_want; refine quiet_load_blk 45 _ rfl (w.heap.size + 1 + 1 + 1) rfl _ x3 _ Tryd.underlying45 rfl 8 sizeAdrs had.size ?_; go_big_quiet_on; simp only [Act.put, List.setIfInBounds_toArray, List.set_cons_zero, List.set_cons_succ]) | go_big_quiet_step (first | (go_at_call 25; exact Calls.ext (c1 _)) | (go_at_call 26; exact Calls.ext (c2 _)) | (go_at_call 27; exact Calls.ext (c3 _)) | (go_at_call 28; exact Calls.ext (c4 _)) | (go_at_call 29; exact Calls.ext (c5 _)) | (go_at_call 30; exact Calls.ext (c6 _)) | (go_at_call 31; exact Calls.ext (c7 _)) | (go_at_call 32; exact Calls.ext (c8 _)) | (go_at_call 24; exact Calls.ext (c9 _))))
    exact wpQuiet_nil rfl
  refine AlChk.nil ?_
  refine Walk.fin fun w11 h11 _ _ => ?_
  simp only [List.drop_succ_cons, List.drop_zero]
  go_wp2_with fail
  go_returns
  exact ⟨rfl, Below.on Hb.out h11⟩

theorem xorD_twice {a b : List Int} (ha : Dg a) (hb : Dg b) : xorD (xorD a b) b = a := by
  apply List.ext_getElem (by simp [xorD, ha.len, hb.len])
  intro i h1 h2
  have hx := ha.small _ (List.getElem_mem h2)
  have hy := hb.small _ (List.getElem_mem (show i < b.length by rw [hb.len, ← ha.len]; exact h2))
  simp only [xorD, List.getElem_zipWith]
  unfold xorZ
  rw [Int.toNat_natCast, Nat.xor_assoc, Nat.xor_self, Nat.xor_zero]
  omega

theorem keyedMessages_not (x0 x1 : Array Value) (index : Int) (a : Option Addr) (n c : Nat) (ts : List (List Int)) (w : World) (tab : ShaTab w) (hT : TextsAt w a n c ts) (hr : ∀ t ∈ ts, t.length ≤ 140737488351232) (hf : fewB ts 1000 = false) :
    Calls Tryd.prog 9 #[.agg x0, .agg x1, .int .u64 index, .slice a n c] w fun e w' => e = .returned (.bool true) ∧ Below w.heap.size w w' := by
  have b1 := (Below.refl w.heap.size w).alloc (Nat.le_refl _) (.cells x0 26 (0, 0))
  have b2 := b1.alloc b1.size (.cells x1 26 (0, 0))
  have h := few_any a n c ts 1000 _ (hT.below b2) hr
  rw [hf] at h
  have Hb := hid b2
  have Htab := hid (tab.below b2)
  clear tab hT b1 b2
  go_enter Tryd.func9, Tryd.ntmps9
  go_wp2_with (first | (go_at_call 12; refine h.mono ?_; rintro e w1 ⟨rfl, rfl⟩) | (go_at_call 24; refine (knows05 _ Htab.out).mono ?_; rintro e w2 ⟨rfl, bel⟩))
  go_returns
  exact ⟨rfl, Below.on Hb.out bel⟩

set_option maxHeartbeats 4000000 in
set_option maxRecDepth 100000 in
theorem keyedMessages_walk (r root : List Int) (index : Int) (a : Option Addr) (n c : Nat) (ts : List (List Int)) (w : World) (tab : ShaTab w) (hr : Dg r) (hroot : Dg root) (hi0 : 0 ≤ index) (hi1 : index < 18446744073709551616) (hT : TextsAt w a n c ts) (hrr : ∀ t ∈ ts, t.length ≤ 140737488351232) (hf : fewB ts 1000 = true) :
    Calls Tryd.prog 9 #[.agg (r.map (Value.int .u8)).toArray, .agg (root.map (Value.int .u8)).toArray, .int .u64 index, .slice a n c] w fun e w' => e = .returned (.bool true) ∧ Below w.heap.size w w' := by
  have b1 := (Below.refl w.heap.size w).alloc (Nat.le_refl _) (.cells (r.map (Value.int .u8)).toArray 26 (0, 0))
  have b2 := b1.alloc b1.size (.cells (root.map (Value.int .u8)).toArray 26 (0, 0))
  have K0 := hid ((Blk.new (w := w) (n := w.heap.size) rfl (r.map (Value.int .u8)).toArray 26).old (.cells (root.map (Value.int .u8)).toArray 26 (0, 0)))
  have K1 := hid (Blk.new (w := (w.alloc (.cells (r.map (Value.int .u8)).toArray 26 (0, 0)))) (n := w.heap.size + 1) (by simp only [World.size_alloc]) (root.map (Value.int .u8)).toArray 26)
  have Hb := hid b2
  clear b1 b2
  have h := few_any a n c ts 1000 _ (hT.below Hb.out) hrr
  rw [hf] at h
  have Hsl := hid (fewB_spec hf)
  have Hfl := hid (flatten_length ts)
  have hpl := hT.length
  have hm : n ≤ 100 := by have := (fewB_spec hf).2; omega
  have Htab := hid (tab.below Hb.out)
  have HT := hid (hT.below Hb.out)
  have Htw := hid (xorD_twice hr hroot)
  have Q := hid (And.intro (eqD_self (msgZ r root index ts.flatten) (Dg.msg _ _ _ _).len) (And.intro (eqD_self (xorD r root) (hr.xor hroot).len) (eqD_self r hr.len)))
  have hcn := hT.le
  have hcm := hT.max
  clear tab hT hf hrr hpl
  go_enter Tryd.func9, Tryd.ntmps9
  go_wp2_with (go_at_call 12; refine h.mono ?_; rintro e w1 ⟨rfl, rfl⟩)
  refine wp_region_flow 34 [0, 1, 2, 3, 4, 5, 6, 7, 8] [] [(.c 9, [10, 11, 12, 13, 14, 15, 16, 17, 18, 19, 20, 21, 22, 23, 24, 25, 26, 27, 28, 29, 30, 31, 32, 33], [])] (by kernel_rfl) (by kernel_rfl) ?_
  apply Exists.intro
  refine ⟨fun w0 hb0 hF0 => ?_, ?_⟩
  · skip
    have x0 : ∀ w', (∃ x : Ext w0, w' = x.at_) → ∃ T, Blk w' (w.heap.size) (r.map (Value.int .u8)).toArray T := fun w' ⟨x, hx⟩ => ⟨_, hx ▸ (K0.out.below hb0).below x.same⟩
    have x1 : ∀ w', (∃ x : Ext w0, w' = x.at_) → ∃ T, Blk w' (w.heap.size + 1) (root.map (Value.int .u8)).toArray T := fun w' ⟨x, hx⟩ => ⟨_, hx ▸ (K1.out.below hb0).below x.same⟩
    have c1 := fun e : Ext w0 => Message_any r root index a n c ts e.at_ hr hroot hi0 hi1 ((HT.out.below hb0).below e.same) (by omega) (by have := Hsl.out.1; omega) ((Htab.out.below hb0).below e.same)
    simp only [pick, List.getElem?_toArray, List.getElem?_cons_succ, List.getElem?_cons_zero, Option.toList_some, List.cons_append, List.nil_append]
    repeat (first | (go_big_quiet_want; refine quiet_load_blk 26 _ rfl (w.heap.size) rfl _ x0 _ Tryd.underlying26 rfl 32 size_digest hr.size ?_; go_big_quiet_on; simp only [Act.put, List.setIfInBounds_toArray, List.set_cons_zero, List.set_cons_succ]) | (go_big_quiet_want; refine quiet_load_blk 26 _ rfl (w.heap.size + 1) rfl _ x1 _ Tryd.underlying26 rfl 32 size_digest hroot.size ?_; go_big_quiet_on; simp only [Act.put, List.setIfInBounds_toArray, List.set_cons_zero, List.set_cons_succ]) | go_big_quiet_step (first | (go_at_call 33; exact Calls.ext (c1 _))))
    exact wpQuiet_nil rfl
  refine AlChk.nil ?_
  refine Walk.call rfl 16 #[.slice a n c] (fun v w' => OwnB w' w.heap.size 5 v ts.flatten) (fun v w' w'' h k => h.below k) rfl (fun w1 hb1 hF1 => ⟨by go_simp, ?_⟩) ?_
  · refine (join_any a n c ts w1 (HT.out.below hb1) (by have := Hsl.out.1; omega)).mono ?_
    rintro e w4 ⟨v, rfl, ho, b4⟩
    exact ⟨v, rfl, b4, ho.re (Nat.le_trans Hb.out.size hb1.size)⟩
  rintro v w2 hb2 hF2 ho
  obtain ⟨a4, c4, rfl, hT4, _⟩ := ho.text
  have hL1 : ts.flatten.length ≤ 1000 := by have := Hsl.out.1; have := Hfl.out; omega
  generalize hL4 : ts.flatten.length = L4 at *
  have HL4 := hid hL4
  clear hT4 ho hL4
  apply Exists.intro
  refine ⟨fun w0 hb0 hF0 => ?_, ?_⟩
  · skip
    have x0 : ∀ w', (∃ x : Ext w0, w' = x.at_) → ∃ T, Blk w' (w.heap.size) (r.map (Value.int .u8)).toArray T := fun w' ⟨x, hx⟩ => ⟨_, hx ▸ (K0.out.below hb0).below x.same⟩
    have x1 : ∀ w', (∃ x : Ext w0, w' = x.at_) → ∃ T, Blk w' (w.heap.size + 1) (root.map (Value.int .u8)).toArray T := fun w' ⟨x, hx⟩ => ⟨_, hx ▸ (K1.out.below hb0).below x.same⟩
    have hTx : TextAt w0 a4 L4 c4 ts.flatten := by
      obtain ⟨a5, c5, he, hT5, _⟩ := hF0.2.text
      rw [HL4.out] at he hT5
      injection he with e1 e2 e3
      subst e1 e3
      exact hT5
    have c2 := fun e : Ext w0 => refMessage_any r root ts.flatten index a4 L4 c4 e.at_ hr hroot hi0 hi1 (hTx.below e.same) (by omega)
    have c3 := fun e : Ext w0 => Mask_any r root e.at_ hr hroot
    have c4 := fun e : Ext w0 => refMask_any r root e.at_ hr hroot
    have c5 := fun e : Ext w0 => Mask_any (xorD r root) root e.at_ (hr.xor hroot) hroot
    rw [Htw.out] at c5
    have c9 := fun e : Ext w0 => knows05 e.at_ ((Htab.out.below hb0).below e.same)
    obtain ⟨q1, q2, q3⟩ := Q.out
    simp only [pick, List.getElem?_toArray, List.getElem?_cons_succ, List.getElem?_cons_zero, Option.toList_some, List.cons_append, List.nil_append, Act.put, List.setIfInBounds_toArray, List.set_cons_zero, List.set_cons_succ]
    repeat (first | (go_big_quiet_want; refine quiet_load_blk 26 _ rfl (w.heap.size) rfl _ x0 _ Tryd.underlying26 rfl 32 size_digest hr.size ?_; go_big_quiet_on; simp only [Act.put, List.setIfInBounds_toArray, List.set_cons_zero, List.set_cons_succ]) | (go_big_quiet_want; refine quiet_load_blk 26 _ rfl (w.heap.size + 1) rfl _ x1 _ Tryd.underlying26 rfl 32 size_digest hroot.size ?_; go_big_quiet_on; simp only [Act.put, List.setIfInBounds_toArray, List.set_cons_zero, List.set_cons_succ]) | go_big_quiet_step (first | (go_at_call 34; exact Calls.ext (c2 _)) | (go_at_call 35; with_reducible exact Calls.ext (c3 _)) | (go_at_call 35; with_reducible exact Calls.ext (c5 _)) | (go_at_call 36; exact Calls.ext (c4 _)) | (go_at_call 24; exact Calls.ext (c9 _))))
    exact wpQuiet_nil rfl
  refine AlChk.nil ?_
  refine Walk.fin fun w11 h11 _ _ => ?_
  simp only [List.drop_succ_cons, List.drop_zero]
  go_wp2_with fail
  go_returns
  exact ⟨rfl, Below.on Hb.out h11⟩
end Go.Proofs.YtkiaeepdpmcafaaDoor
