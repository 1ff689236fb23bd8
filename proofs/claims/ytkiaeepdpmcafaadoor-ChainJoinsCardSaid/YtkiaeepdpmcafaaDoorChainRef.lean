/-
  Contract of planchetref07.Run.
-/
import Derived.Test.YtkiaeepdpmcafaaDoorChain
namespace Go.Proofs.YtkiaeepdpmcafaaDoor
open Go.ChangeShapes Go.WideShapes Go.ChangeAt Go.RowKit

set_option maxHeartbeats 2000000 in
set_option maxRecDepth 100000 in
theorem refrun_zero (x pub ad : List Int) (from_ : Int) (w : World) (hx : Dg x) :
    Calls Tryd.prog 39 #[.agg (x.map (Value.int .u8)).toArray, .int .i64 from_, .int .i64 0, .agg (pub.map (Value.int .u8)).toArray, .agg (ad.map (Value.int .u32)).toArray] w fun e w' => e = .returned (.agg (x.map (Value.int .u8)).toArray) ∧ Below w.heap.size w w' := by
  have b1 := (Below.refl w.heap.size w).alloc (Nat.le_refl _) (.cells (x.map (Value.int .u8)).toArray 26 (0, 0))
  have b2 := b1.alloc b1.size (.cells (pub.map (Value.int .u8)).toArray 26 (0, 0))
  have b3 := b2.alloc b2.size (.cells (ad.map (Value.int .u32)).toArray 45 (0, 0))
  have bz := b3.alloc b3.size (.cells (byteCells 32 []) 26 (0, 0))
  have K0 := hid ((((Blk.new (w := w) (n := w.heap.size) rfl (x.map (Value.int .u8)).toArray 26).old (.cells (pub.map (Value.int .u8)).toArray 26 (0, 0))).old (.cells (ad.map (Value.int .u32)).toArray 45 (0, 0))).old (.cells (byteCells 32 []) 26 (0, 0)))
  have K1 := hid (((Blk.new (w := (w.alloc (.cells (x.map (Value.int .u8)).toArray 26 (0, 0)))) (n := w.heap.size + 1) (by simp only [World.size_alloc]) (pub.map (Value.int .u8)).toArray 26).old (.cells (ad.map (Value.int .u32)).toArray 45 (0, 0))).old (.cells (byteCells 32 []) 26 (0, 0)))
  have K2 := hid ((Blk.new (w := ((w.alloc (.cells (x.map (Value.int .u8)).toArray 26 (0, 0))).alloc (.cells (pub.map (Value.int .u8)).toArray 26 (0, 0)))) (n := w.heap.size + 1 + 1) (by simp only [World.size_alloc]) (ad.map (Value.int .u32)).toArray 45).old (.cells (byteCells 32 []) 26 (0, 0)))
  have Kr := hid (Blk.new (w := (((w.alloc (.cells (x.map (Value.int .u8)).toArray 26 (0, 0))).alloc (.cells (pub.map (Value.int .u8)).toArray 26 (0, 0))).alloc (.cells (ad.map (Value.int .u32)).toArray 45 (0, 0)))) (n := w.heap.size + 1 + 1 + 1) (by simp only [World.size_alloc]) (byteCells 32 []) 26)
  have Hb := hid bz
  have HzA := hid zsize
  have hbz := bz.size
  have hbs : w.heap.size + 1 + 1 + 1 + 1 = ((((w.alloc (.cells (x.map (Value.int .u8)).toArray 26 (0, 0))).alloc (.cells (pub.map (Value.int .u8)).toArray 26 (0, 0))).alloc (.cells (ad.map (Value.int .u32)).toArray 45 (0, 0))).alloc (.cells (byteCells 32 []) 26 (0, 0))).heap.size := by simp only [World.size_alloc]
  have Hbs := hid hbs
  clear bz hbs b1 b2 b3
  go_enter Tryd.func39, Tryd.ntmps39
  go_wp2_with (first | (refine wpList_load_blk rfl 26 _ rfl (w.heap.size) rfl _ 26 K0.out _ Tryd.underlying26 rfl 32 size_digest hx.size ?_) | (refine wpList_store_blk rfl 26 _ _ rfl (w.heap.size + 1 + 1 + 1) _ rfl rfl _ 26 Kr.out 32 size_digest HzA.out hx.size (ints_one _ _) ?_; intro w7 hbut7 hk7))
  exact bodyPost_ret (v := .agg (x.map (Value.int .u8)).toArray) (results_blk Tryd.results39 _ (w.heap.size + 1 + 1 + 1) rfl _ 26 hk7 _ Tryd.underlying26 rfl 32 size_digest hx.size) rfl ⟨rfl, hbut7.below Hb.out Hb.out.size (by omega)⟩

set_option maxHeartbeats 4000000 in
set_option maxRecDepth 100000 in
theorem refrun_any (pub ad : List Int) (from_ : Nat) (hpub : Dg pub) (had : Aw ad) : ∀ (n : Nat) (x : List Int) (w : World), Dg x → from_ + n ≤ 15 →
    Calls Tryd.prog 39 #[.agg (x.map (Value.int .u8)).toArray, .int .i64 from_, .int .i64 n, .agg (pub.map (Value.int .u8)).toArray, .agg (ad.map (Value.int .u32)).toArray] w fun e w' => e = .returned (.agg ((runZ pub ad x from_ n).map (Value.int .u8)).toArray) ∧ Below w.heap.size w w' := by
  intro n
  induction n with
  | zero => intro x w hx _; exact refrun_zero x pub ad from_ w hx
  | succ n ih =>
    intro x w hx hn
    have b1 := (Below.refl w.heap.size w).alloc (Nat.le_refl _) (.cells (x.map (Value.int .u8)).toArray 26 (0, 0))
    have b2 := b1.alloc b1.size (.cells (pub.map (Value.int .u8)).toArray 26 (0, 0))
    have b3 := b2.alloc b2.size (.cells (ad.map (Value.int .u32)).toArray 45 (0, 0))
    have bz := b3.alloc b3.size (.cells (byteCells 32 []) 26 (0, 0))
    have K0 := hid ((((Blk.new (w := w) (n := w.heap.size) rfl (x.map (Value.int .u8)).toArray 26).old (.cells (pub.map (Value.int .u8)).toArray 26 (0, 0))).old (.cells (ad.map (Value.int .u32)).toArray 45 (0, 0))).old (.cells (byteCells 32 []) 26 (0, 0)))
    have K1 := hid (((Blk.new (w := (w.alloc (.cells (x.map (Value.int .u8)).toArray 26 (0, 0)))) (n := w.heap.size + 1) (by simp only [World.size_alloc]) (pub.map (Value.int .u8)).toArray 26).old (.cells (ad.map (Value.int .u32)).toArray 45 (0, 0))).old (.cells (byteCells 32 []) 26 (0, 0)))
    have K2 := hid ((Blk.new (w := ((w.alloc (.cells (x.map (Value.int .u8)).toArray 26 (0, 0))).alloc (.cells (pub.map (Value.int .u8)).toArray 26 (0, 0)))) (n := w.heap.size + 1 + 1) (by simp only [World.size_alloc]) (ad.map (Value.int .u32)).toArray 45).old (.cells (byteCells 32 []) 26 (0, 0)))
    have Kr := hid (Blk.new (w := (((w.alloc (.cells (x.map (Value.int .u8)).toArray 26 (0, 0))).alloc (.cells (pub.map (Value.int .u8)).toArray 26 (0, 0))).alloc (.cells (ad.map (Value.int .u32)).toArray 45 (0, 0)))) (n := w.heap.size + 1 + 1 + 1) (by simp only [World.size_alloc]) (byteCells 32 []) 26)
    have Hb := hid bz
    have HzA := hid zsize
    have hbz := bz.size
    have hbs : w.heap.size + 1 + 1 + 1 + 1 = ((((w.alloc (.cells (x.map (Value.int .u8)).toArray 26 (0, 0))).alloc (.cells (pub.map (Value.int .u8)).toArray 26 (0, 0))).alloc (.cells (ad.map (Value.int .u32)).toArray 45 (0, 0))).alloc (.cells (byteCells 32 []) 26 (0, 0))).heap.size := by simp only [World.size_alloc]
    have Hbs := hid hbs
    clear bz hbs b1 b2 b3
    have HS : Hid (runZ pub ad x from_ (n + 1) = fZ (atZ pub (setAd ad (ad.getD 5 0) ((from_ + n : Nat) : Int) 0)) (xorD (runZ pub ad x from_ n) (atZ pub (setAd ad (ad.getD 5 0) ((from_ + n : Nat) : Int) 1)))) := hid (by rw [runZ]; unfold stepZ; rfl)
    have HDs := hid (Dg.run (pub := pub) (ad := ad) hx from_ (n + 1))
    have HDr := hid (Dg.run (pub := pub) (ad := ad) hx from_ n)
    have hf := had.get 5
    have hj : ((from_ + n : Nat) : Int) = (from_ : Int) + ((n : Int) + 1) - 1 := by omega
    rw [hj] at HS
    have HA0 := hid (had.set hf (show 0 ≤ (from_ : Int) + ((n : Int) + 1) - 1 ∧ (from_ : Int) + ((n : Int) + 1) - 1 < 4294967296 by omega) (show (0 : Int) ≤ 0 ∧ (0 : Int) < 4294967296 by omega))
    have HA1 := hid (had.set hf (show 0 ≤ (from_ : Int) + ((n : Int) + 1) - 1 ∧ (from_ : Int) + ((n : Int) + 1) - 1 < 4294967296 by omega) (show (0 : Int) ≤ 1 ∧ (1 : Int) < 4294967296 by omega))
    have Hat := hid (fun (q : Int) (W : World) => refat_list ad (ad.getD 5 0) ((from_ : Int) + ((n : Int) + 1) - 1) q W had)
    have hc5 : ∀ W : World, Blk W (w.heap.size + 1 + 1) (ad.map (Value.int .u32)).toArray 45 → W.cell? ⟨w.heap.size + 1 + 1, 5, none⟩ = some (.int .u32 (ad.getD 5 0)) := fun W k => by
      rw [k.cell]
      have := had.len
      simp [List.getD_eq_getElem?_getD, show 5 < ad.length by omega]
    have Hc5 := hid hc5
    have Hih := hid (fun W => ih x W hx (by omega))
    have hn0 : ¬ ((n : Int) + 1 = 0) := by omega
    clear hc5 hj ih
    generalize ad.getD 5 0 = f at *
    obtain ⟨hf0, hf1⟩ := hf
    have hnc : ((n + 1 : Nat) : Int) = (n : Int) + 1 := by omega
    rw [hnc]
    clear hnc
    go_enter Tryd.func39, Tryd.ntmps39
    go_wp2_with (first | (refine wpList_load_blk rfl 26 _ rfl (w.heap.size) rfl _ 26 K0.out _ Tryd.underlying26 rfl 32 size_digest hx.size ?_) | (refine wpList_load_blk rfl 26 _ rfl (w.heap.size + 1) rfl _ 26 K1.out _ Tryd.underlying26 rfl 32 size_digest hpub.size ?_) | (refine wpList_load_blk rfl 45 _ rfl (w.heap.size + 1 + 1) rfl _ 45 K2.out _ Tryd.underlying45 rfl 8 sizeAdrs had.size ?_))
    refine (Hih.out _).mono ?_
    rintro e w1 ⟨rfl, b1⟩
    have Hb1 := hid (Below.on Hb.out b1)
    have K11 := hid (K1.out.below b1)
    have K21 := hid (K2.out.below b1)
    have Kr1 := hid (Kr.out.below b1)
    have hz1 := Hb1.out.size
    have hlr := Kr1.out.lt
    clear b1 K0 K1 K2 Kr Hb
    generalize runZ pub ad x from_ n = R at *
    go_wp2_with (
      refine wpList_store_blk rfl 26 _ _ rfl w1.heap.size _ rfl rfl _ 26 (Blk.new rfl (byteCells 32 []) _) 32 size_digest HzA.out HDr.out.size (ints_one _ _) ?_
      intro w2 hb2 hk2
      have Hb2 := hid (hb2.below (Hb1.out.alloc hz1 _) (by rw [World.size_alloc]; omega) hz1)
      have KR2 := hid hk2
      have Kp2 := hid (hb2.blk (K11.out.old _) (by have := K11.out.lt; omega))
      have Ka2 := hid (hb2.blk (K21.out.old _) (by have := K21.out.lt; omega))
      have Kr2 := hid (hb2.blk (Kr1.out.old _) (by omega))
      clear hb2 hk2)
    refine wp_region_flow 8 [0, 1, 2, 3, 4, 5, 6] [7] [(.b 7, [], [])] (by kernel_rfl) (by kernel_rfl) ?_
    apply Exists.intro
    refine ⟨fun w0 hb0 hF0 => ?_, ?_⟩
    · skip
      have x0 : ∀ w', (∃ x : Ext w0, w' = x.at_) → ∃ T, Blk w' (w.heap.size + 1) (pub.map (Value.int .u8)).toArray T := fun w' ⟨x, hx⟩ => ⟨_, hx ▸ (Kp2.out.below hb0).below x.same⟩
      have x1 : ∀ w', (∃ x : Ext w0, w' = x.at_) → ∃ T, Blk w' (w.heap.size + 1 + 1) (ad.map (Value.int .u32)).toArray T := fun w' ⟨x, hx⟩ => ⟨_, hx ▸ (Ka2.out.below hb0).below x.same⟩
      have c5 : ∀ e : Ext w0, e.at_.cell? ⟨w.heap.size + 1 + 1, 5, none⟩ = some (.int .u32 f) := fun e => Hc5.out _ ((Ka2.out.below hb0).below e.same)
      have c1 := fun e : Ext w0 => Hat.out 0 e.at_
      have c2 := fun e : Ext w0 => refAt_any pub (setAd ad f ((from_ : Int) + ((n : Int) + 1) - 1) 0) e.at_ hpub HA0.out
      simp only [pick, List.getElem?_toArray, List.getElem?_cons_succ, List.getElem?_cons_zero, Option.toList_some, List.cons_append, List.nil_append]
      repeat (first | (go_big_quiet_want; refine quiet_load_blk 26 _ rfl (w.heap.size + 1) rfl _ x0 _ Tryd.underlying26 rfl 32 size_digest hpub.size ?_; go_big_quiet_on; simp only [Act.put, List.setIfInBounds_toArray, List.set_cons_zero, List.set_cons_succ]) | (go_big_quiet_want; refine quiet_load_blk 45 _ rfl (w.heap.size + 1 + 1) rfl _ x1 _ Tryd.underlying45 rfl 8 sizeAdrs had.size ?_; go_big_quiet_on; simp only [Act.put, List.setIfInBounds_toArray, List.set_cons_zero, List.set_cons_succ]) | go_big_quiet_step (first | (go_at_call 56; exact Calls.ext (c1 _)) | (go_at_call 32; exact Calls.ext (c2 _))))
      exact wpQuiet_nil rfl
    refine AlChk.one rfl (fun b => .pointer (some ⟨b, 0, none⟩)) (.cells (byteCells 32 []) 26 (0, 0)) rfl (fun w3 hb3 hF3 => by go_simp; rfl) ?_
    refine AlChk.nil ?_
    refine Walk.blk rfl (fun b => .pointer (some ⟨b, 0, none⟩)) (.cells (byteCells 32 []) 26 (0, 0)) (by simp) ?_
    intro b3 w3 hb3 hF3 hge3 _
    apply Exists.intro
    refine ⟨fun w4 hb4 hF4 => wpQuiet_nil rfl, ?_⟩
    refine AlChk.nil ?_
    refine Walk.fin fun w3 h3 hF3 _ => ?_
    simp only [List.drop_succ_cons, List.drop_zero]
    have kb3 : Blk w3 b3 (byteCells 32 []) 26 := hF3.2
    have Hk3 := hid kb3
    have Hb3 := hid (Below.on Hb2.out h3)
    have hge3w : w.heap.size ≤ b3 := Nat.le_trans Hb2.out.size hge3
    have HDq3 := hid (Dg.at_ pub (setAd ad f ((from_ : Int) + ((n : Int) + 1) - 1) 0))
    have Kp3 := hid (Kp2.out.below h3)
    have hneKp3 := Nat.ne_of_lt (Nat.lt_of_lt_of_le Kp2.out.lt hge3)
    have Ka3 := hid (Ka2.out.below h3)
    have hneKa3 := Nat.ne_of_lt (Nat.lt_of_lt_of_le Ka2.out.lt hge3)
    have Kr3 := hid (Kr2.out.below h3)
    have hneKr3 := Nat.ne_of_lt (Nat.lt_of_lt_of_le Kr2.out.lt hge3)
    have KR3 := hid (KR2.out.below h3)
    have hneKR3 := Nat.ne_of_lt (Nat.lt_of_lt_of_le KR2.out.lt hge3)
    clear kb3 h3 hF3 Kp2 Ka2 Kr2 KR2
    go_wp2_with (
      refine wpList_store_blk rfl 26 _ _ rfl b3 _ rfl rfl _ 26 Hk3.out 32 size_digest HzA.out HDq3.out.size (ints_one _ _) ?_
      intro w4 hb4 hk4
      have Hb4 := hid (hb4.below Hb3.out Hb3.out.size hge3w)
      have Kk4 := hid hk4
      have Kp4 := hid (hb4.blk Kp3.out hneKp3)
      have Ka4 := hid (hb4.blk Ka3.out hneKa3)
      have Kr4 := hid (hb4.blk Kr3.out hneKr3)
      have KR4 := hid (hb4.blk KR3.out hneKR3)
      clear hb4 hk4)
    simp only [Act.put, List.setIfInBounds_toArray, List.set_cons_zero, List.set_cons_succ]
    refine wp_region_flow 8 [0, 1, 2, 3, 4, 5, 6] [7] [(.b 7, [], [])] (by kernel_rfl) (by kernel_rfl) ?_
    apply Exists.intro
    refine ⟨fun w0 hb0 hF0 => ?_, ?_⟩
    · skip
      have x0 : ∀ w', (∃ x : Ext w0, w' = x.at_) → ∃ T, Blk w' (w.heap.size + 1) (pub.map (Value.int .u8)).toArray T := fun w' ⟨x, hx⟩ => ⟨_, hx ▸ (Kp4.out.below hb0).below x.same⟩
      have x1 : ∀ w', (∃ x : Ext w0, w' = x.at_) → ∃ T, Blk w' (w.heap.size + 1 + 1) (ad.map (Value.int .u32)).toArray T := fun w' ⟨x, hx⟩ => ⟨_, hx ▸ (Ka4.out.below hb0).below x.same⟩
      have c5 : ∀ e : Ext w0, e.at_.cell? ⟨w.heap.size + 1 + 1, 5, none⟩ = some (.int .u32 f) := fun e => Hc5.out _ ((Ka4.out.below hb0).below e.same)
      have c1 := fun e : Ext w0 => Hat.out 1 e.at_
      have c2 := fun e : Ext w0 => refAt_any pub (setAd ad f ((from_ : Int) + ((n : Int) + 1) - 1) 1) e.at_ hpub HA1.out
      simp only [pick, List.getElem?_toArray, List.getElem?_cons_succ, List.getElem?_cons_zero, Option.toList_some, List.cons_append, List.nil_append]
      repeat (first | (go_big_quiet_want; refine quiet_load_blk 26 _ rfl (w.heap.size + 1) rfl _ x0 _ Tryd.underlying26 rfl 32 size_digest hpub.size ?_; go_big_quiet_on; simp only [Act.put, List.setIfInBounds_toArray, List.set_cons_zero, List.set_cons_succ]) | (go_big_quiet_want; refine quiet_load_blk 45 _ rfl (w.heap.size + 1 + 1) rfl _ x1 _ Tryd.underlying45 rfl 8 sizeAdrs had.size ?_; go_big_quiet_on; simp only [Act.put, List.setIfInBounds_toArray, List.set_cons_zero, List.set_cons_succ]) | go_big_quiet_step (first | (go_at_call 56; exact Calls.ext (c1 _)) | (go_at_call 32; exact Calls.ext (c2 _))))
      exact wpQuiet_nil rfl
    refine AlChk.one rfl (fun b => .pointer (some ⟨b, 0, none⟩)) (.cells (byteCells 32 []) 26 (0, 0)) rfl (fun w3 hb3 hF3 => by go_simp; rfl) ?_
    refine AlChk.nil ?_
    refine Walk.blk rfl (fun b => .pointer (some ⟨b, 0, none⟩)) (.cells (byteCells 32 []) 26 (0, 0)) (by simp) ?_
    intro b5 w3 hb3 hF3 hge5 _
    apply Exists.intro
    refine ⟨fun w4 hb4 hF4 => wpQuiet_nil rfl, ?_⟩
    refine AlChk.nil ?_
    refine Walk.fin fun w5 h5 hF5 _ => ?_
    simp only [List.drop_succ_cons, List.drop_zero]
    have kb5 : Blk w5 b5 (byteCells 32 []) 26 := hF5.2
    have Hk5 := hid kb5
    have Hb5 := hid (Below.on Hb4.out h5)
    have hge5w : w.heap.size ≤ b5 := Nat.le_trans Hb4.out.size hge5
    have HDq5 := hid (Dg.at_ pub (setAd ad f ((from_ : Int) + ((n : Int) + 1) - 1) 1))
    have Kp5 := hid (Kp4.out.below h5)
    have hneKp5 := Nat.ne_of_lt (Nat.lt_of_lt_of_le Kp4.out.lt hge5)
    have Ka5 := hid (Ka4.out.below h5)
    have hneKa5 := Nat.ne_of_lt (Nat.lt_of_lt_of_le Ka4.out.lt hge5)
    have Kr5 := hid (Kr4.out.below h5)
    have hneKr5 := Nat.ne_of_lt (Nat.lt_of_lt_of_le Kr4.out.lt hge5)
    have KR5 := hid (KR4.out.below h5)
    have hneKR5 := Nat.ne_of_lt (Nat.lt_of_lt_of_le KR4.out.lt hge5)
    have Kk5 := hid (Kk4.out.below h5)
    have hneKk5 := Nat.ne_of_lt (Nat.lt_of_lt_of_le Kk4.out.lt hge5)
    clear kb5 h5 hF5 Kp4 Ka4 Kr4 KR4 Kk4
    go_wp2_with (
      refine wpList_store_blk rfl 26 _ _ rfl b5 _ rfl rfl _ 26 Hk5.out 32 size_digest HzA.out HDq5.out.size (ints_one _ _) ?_
      intro w6 hb6 hk6
      have Hb6 := hid (hb6.below Hb5.out Hb5.out.size hge5w)
      have Km6 := hid hk6
      have Kp6 := hid (hb6.blk Kp5.out hneKp5)
      have Ka6 := hid (hb6.blk Ka5.out hneKa5)
      have Kr6 := hid (hb6.blk Kr5.out hneKr5)
      have KR6 := hid (hb6.blk KR5.out hneKR5)
      have Kk6 := hid (hb6.blk Kk5.out hneKk5)
      clear hb6 hk6)
    simp only [Act.put, List.setIfInBounds_toArray, List.set_cons_zero, List.set_cons_succ]
    refine wp_region_flow 5 [0, 1, 2, 3, 4] [] [] (by kernel_rfl) (by kernel_rfl) ?_
    apply Exists.intro
    refine ⟨fun w0 hb0 hF0 => ?_, ?_⟩
    · skip
      have x0 : ∀ w', (∃ x : Ext w0, w' = x.at_) → ∃ T, Blk w' (b3) ((atZ pub (setAd ad f ((from_ : Int) + ((n : Int) + 1) - 1) 0)).map (Value.int .u8)).toArray T := fun w' ⟨x, hx⟩ => ⟨_, hx ▸ (Kk6.out.below hb0).below x.same⟩
      have x1 : ∀ w', (∃ x : Ext w0, w' = x.at_) → ∃ T, Blk w' (w1.heap.size) (R.map (Value.int .u8)).toArray T := fun w' ⟨x, hx⟩ => ⟨_, hx ▸ (KR6.out.below hb0).below x.same⟩
      have x2 : ∀ w', (∃ x : Ext w0, w' = x.at_) → ∃ T, Blk w' (b5) ((atZ pub (setAd ad f ((from_ : Int) + ((n : Int) + 1) - 1) 1)).map (Value.int .u8)).toArray T := fun w' ⟨x, hx⟩ => ⟨_, hx ▸ (Km6.out.below hb0).below x.same⟩
      have c1 := fun e : Ext w0 => refMask_any R (atZ pub (setAd ad f ((from_ : Int) + ((n : Int) + 1) - 1) 1)) e.at_ HDr.out HDq5.out
      have c2 := fun e : Ext w0 => refF_any (atZ pub (setAd ad f ((from_ : Int) + ((n : Int) + 1) - 1) 0)) (xorD R (atZ pub (setAd ad f ((from_ : Int) + ((n : Int) + 1) - 1) 1))) e.at_ HDq3.out (HDr.out.xor HDq5.out)
      rw [← HS.out] at c2
      simp only [pick, List.getElem?_toArray, List.getElem?_cons_succ, List.getElem?_cons_zero, Option.toList_some, List.cons_append, List.nil_append]
      repeat (first | (go_big_quiet_want; refine quiet_load_blk 26 _ rfl (b3) rfl _ x0 _ Tryd.underlying26 rfl 32 size_digest HDq3.out.size ?_; go_big_quiet_on; simp only [Act.put, List.setIfInBounds_toArray, List.set_cons_zero, List.set_cons_succ]) | (go_big_quiet_want; refine quiet_load_blk 26 _ rfl (w1.heap.size) rfl _ x1 _ Tryd.underlying26 rfl 32 size_digest HDr.out.size ?_; go_big_quiet_on; simp only [Act.put, List.setIfInBounds_toArray, List.set_cons_zero, List.set_cons_succ]) | (go_big_quiet_want; refine quiet_load_blk 26 _ rfl (b5) rfl _ x2 _ Tryd.underlying26 rfl 32 size_digest HDq5.out.size ?_; go_big_quiet_on; simp only [Act.put, List.setIfInBounds_toArray, List.set_cons_zero, List.set_cons_succ]) | go_big_quiet_step (first | (go_at_call 36; exact Calls.ext (c1 _)) | (go_at_call 26; exact Calls.ext (c2 _))))
      exact wpQuiet_nil rfl
    refine AlChk.nil ?_
    refine Walk.fin fun w9 h9 _ _ => ?_
    simp only [List.drop_succ_cons, List.drop_zero]
    have Kr9 := hid (Kr6.out.below h9)
    have Hb9 := hid (Below.on Hb6.out h9)
    clear h9
    go_wp2_with (refine wpList_store_blk rfl 26 _ _ rfl (w.heap.size + 1 + 1 + 1) _ rfl rfl _ 26 Kr9.out 32 size_digest HzA.out HDs.out.size (ints_one _ _) ?_; intro w7 hbut7 hk7)
    exact bodyPost_ret (v := .agg ((runZ pub ad x from_ (n + 1)).map (Value.int .u8)).toArray) (results_blk Tryd.results39 _ (w.heap.size + 1 + 1 + 1) rfl _ 26 hk7 _ Tryd.underlying26 rfl 32 size_digest HDs.out.size) rfl ⟨rfl, hbut7.below Hb9.out Hb9.out.size (by omega)⟩
end Go.Proofs.YtkiaeepdpmcafaaDoor
