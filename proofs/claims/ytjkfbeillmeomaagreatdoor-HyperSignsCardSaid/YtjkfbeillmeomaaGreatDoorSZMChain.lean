/-
  Chain, ChainRun, ChainRef: one text.
-/
import Derived.Test.YtjkfbeillmeomaaGreatDoorSZMKeyedRef
import Derived.Test.YtjkfbeillmeomaaGreatDoorSZMAdrs
namespace Go.Proofs.YtjkfbeillmeomaaGreatDoor
set_option maxRecDepth 100000
open Go.ChangeShapes Go.WideShapes Go.ChangeAt Go.RowKit
/-- an address with its last three words -/
def setAd (ad : List Int) (f s p : Int) : List Int := ad.take 5 ++ [f, s, p]
theorem Aw.set {ad : List Int} (h : Aw ad) {f s p : Int} (hf : 0 ≤ f ∧ f < 4294967296) (hs : 0 ≤ s ∧ s < 4294967296) (hp : 0 ≤ p ∧ p < 4294967296) : Aw (setAd ad f s p) := ⟨by simp [setAd, h.len], fun x hx => by
  unfold setAd at hx
  rcases List.mem_append.1 hx with h1 | h1
  · exact h.small x (List.mem_of_mem_take h1)
  · simp at h1
    rcases h1 with rfl | rfl | rfl <;> assumption⟩
theorem Aw.get {ad : List Int} (h : Aw ad) (j : Nat) : 0 ≤ ad.getD j 0 ∧ ad.getD j 0 < 4294967296 := by
  rcases Nat.lt_or_ge j ad.length with hj | hj
  · rw [List.getD_eq_getElem?_getD, List.getElem?_eq_getElem hj]
    exact h.small _ (List.getElem_mem _)
  · rw [List.getD_eq_getElem?_getD, List.getElem?_eq_none hj]
    simp
theorem Aw.cases {ad : List Int} (h : Aw ad) : ∃ a0 a1 a2 a3 a4 a5 a6 a7, ad = [a0, a1, a2, a3, a4, a5, a6, a7] := by
  obtain ⟨hl, _⟩ := h
  match ad, hl with
  | [a0, a1, a2, a3, a4, a5, a6, a7], _ => exact ⟨a0, a1, a2, a3, a4, a5, a6, a7, rfl⟩
theorem at_list (ad : List Int) (f s : Int) (w : World) (h : Aw ad) : Calls Tryz.prog 81 #[.agg (ad.map (Value.int .u32)).toArray, .int .u32 f, .int .u32 s] w fun e w' => e = .returned (.agg ((setAd ad f s 0).map (Value.int .u32)).toArray) ∧ Below w.heap.size w w' := by
  obtain ⟨a0, a1, a2, a3, a4, a5, a6, a7, rfl⟩ := h.cases
  exact at_any a0 a1 a2 a3 a4 a5 a6 a7 f s w
theorem for_list (ad : List Int) (f s p q : Int) (w : World) (h : Aw ad) : Calls Tryz.prog 98 #[.agg ((setAd ad f s p).map (Value.int .u32)).toArray, .int .u32 q] w fun e w' => e = .returned (.agg ((setAd ad f s q).map (Value.int .u32)).toArray) ∧ Below w.heap.size w w' := by
  obtain ⟨a0, a1, a2, a3, a4, a5, a6, a7, rfl⟩ := h.cases
  exact for_any a0 a1 a2 a3 a4 f s p q w
theorem refat_list (ad : List Int) (f s t : Int) (w : World) (h : Aw ad) : Calls Tryz.prog 69 #[.agg (ad.map (Value.int .u32)).toArray, .int .u32 f, .int .u32 s, .int .u32 t] w fun e w' => e = .returned (.agg ((setAd ad f s t).map (Value.int .u32)).toArray) ∧ Below w.heap.size w w' := by
  obtain ⟨a0, a1, a2, a3, a4, a5, a6, a7, rfl⟩ := h.cases
  exact ref_at a0 a1 a2 a3 a4 a5 a6 a7 f s t w
/-- a step of a chain -/
@[irreducible] def stepZ (pub ad x : List Int) (j : Nat) : List Int := fZ (atZ pub (setAd ad (ad.getD 5 0) j 0)) (xorD x (atZ pub (setAd ad (ad.getD 5 0) j 1)))
def runZ (pub ad x : List Int) (frm : Nat) : Nat → List Int
  | 0 => x
  | n + 1 => stepZ pub ad (runZ pub ad x frm n) (frm + n)
theorem Dg.step (pub ad x : List Int) (j : Nat) : Dg (stepZ pub ad x j) := by unfold stepZ; exact Dg.f _ _
theorem Dg.run {pub ad x : List Int} (hx : Dg x) (frm n : Nat) : Dg (runZ pub ad x frm n) := by
  cases n with
  | zero => exact hx
  | succ n => exact Dg.step _ _ _ _
theorem zeroA_size : (List.replicate 8 (Value.int IntKind.u32 0)).toArray.size = 8 := by simp
set_option maxHeartbeats 4000000 in
theorem step_any (pub ad x : List Int) (j ba bp bx : Nat) (w : World) (hpub : Dg pub) (had : Aw ad) (hx : Dg x) (hj : j < 100) (ka : Blk w ba (ad.map (Value.int .u32)).toArray 73) (kp : Blk w bp (pub.map (Value.int .u8)).toArray 25) (kx : Blk w bx (x.map (Value.int .u8)).toArray 25) (tab : ShaTab w) :
    Calls Tryz.prog 97 #[.int .i64 j, .pointer (some ⟨ba, 0, none⟩), .pointer (some ⟨bp, 0, none⟩), .pointer (some ⟨bx, 0, none⟩)] w fun e w' => e = .returned (.tuple #[]) ∧ But bx w w' ∧ Blk w' bx ((stepZ pub ad x j).map (Value.int .u8)).toArray 25 := by
  have HS : Hid (stepZ pub ad x j = fZ (atZ pub (setAd ad (ad.getD 5 0) j 0)) (xorD x (atZ pub (setAd ad (ad.getD 5 0) j 1)))) := hid (by unfold stepZ; rfl)
  have hf := had.get 5
  have c5 : w.cell? ⟨ba, 5, none⟩ = some (.int .u32 (ad.getD 5 0)) := by
    rw [ka.cell]
    have := had.len
    simp [List.getD_eq_getElem?_getD, show 5 < ad.length by omega]
  have HA0 := hid (had.set hf (show 0 ≤ (j : Int) ∧ (j : Int) < 4294967296 by omega) (show (0 : Int) ≤ 0 ∧ (0 : Int) < 4294967296 by omega))
  have HA1 := hid (had.set hf (show 0 ≤ (j : Int) ∧ (j : Int) < 4294967296 by omega) (show (0 : Int) ≤ 1 ∧ (1 : Int) < 4294967296 by omega))
  have HZ := hid zeroA_size
  have HzA := hid zsize
  have HaI := hid (fun W : World => at_list ad (ad.getD 5 0) j W had)
  have HfI := hid (fun (q : Int) (W : World) => for_list ad (ad.getD 5 0) j 0 q W had)
  have Htab := hid tab
  have Ka := hid ka
  have Kp := hid kp
  have Kx := hid kx
  have Hsa := hid had.size
  have hlx := kx.lt
  have hla := ka.lt
  clear tab ka kp kx
  generalize ad.getD 5 0 = f at *
  obtain ⟨hf0, hf1⟩ := hf
  go_enter Tryz.func97, Tryz.ntmps97
  go_wp2_with (refine wpList_load_blk rfl 73 _ rfl ba rfl _ 73 Ka.out _ Tryz.underlying73 rfl 8 sizeAdrs Hsa.out ?_)
  refine (HaI.out _).mono ?_
  rintro e w1 ⟨rfl, b1⟩
  have Hb1 := hid b1
  have Kp1 := hid (Kp.out.below b1)
  have Kx1 := hid (Kx.out.below b1)
  have hz1 := b1.size
  clear b1 c5
  generalize hAD : setAd ad f j 0 = AD at *
  have HAD := hid hAD
  clear hAD
  go_wp2_with (
    refine wpList_store_blk rfl 73 _ _ rfl w1.heap.size _ rfl rfl _ 73 (Blk.new rfl (List.replicate 8 (Value.int IntKind.u32 0)).toArray _) 8 sizeAdrs HZ.out HA0.out.size (ints_one _ _) ?_
    intro w2 hb2 hk2
    have Hb2 := hid (hb2.below (Hb1.out.alloc hz1 _) (by rw [World.size_alloc]; omega) hz1)
    have Kd2 := hid hk2
    have Kp2 := hid (hb2.blk (Kp1.out.old _) (by have := Kp1.out.lt; omega))
    have Kx2 := hid (hb2.blk (Kx1.out.old _) (by have := Kx1.out.lt; omega))
    clear hb2 hk2)
  simp only [Act.put]
  refine wp_region_flow 5 [0, 1, 2, 3] [4] [(.b 4, [], [])] (by kernel_rfl) (by kernel_rfl) ?_
  apply Exists.intro
  refine ⟨fun w0 hb0 hF0 => ?_, ?_⟩
  · skip
    have x0 : ∀ w', (∃ x : Ext w0, w' = x.at_) → ∃ T, Blk w' (bp) (pub.map (Value.int .u8)).toArray T := fun w' ⟨x, hx⟩ => ⟨_, hx ▸ (Kp2.out.below hb0).below x.same⟩
    have x1 : ∀ w', (∃ x : Ext w0, w' = x.at_) → ∃ T, Blk w' (w1.heap.size) (AD.map (Value.int .u32)).toArray T := fun w' ⟨x, hx⟩ => ⟨_, hx ▸ (Kd2.out.below hb0).below x.same⟩
    have c1 := fun e : Ext w0 => HfI.out 0 e.at_
    have c2 := fun e : Ext w0 => At_any pub AD e.at_ hpub HA0.out ((Htab.out.below (Below.on Hb2.out hb0)).below e.same)
    rw [HAD.out] at c1
    simp only [pick, List.getElem?_toArray, List.getElem?_cons_succ, List.getElem?_cons_zero, Option.toList_some, List.cons_append, List.nil_append]
    repeat (first | (go_big_quiet_want; refine quiet_load_blk 25 _ rfl (bp) rfl _ x0 _ Tryz.underlying25 rfl 32 size_digest hpub.size ?_; go_big_quiet_on; simp only [Act.put, List.setIfInBounds_toArray, List.set_cons_zero, List.set_cons_succ]) | (go_big_quiet_want; refine quiet_load_blk 73 _ rfl (w1.heap.size) rfl _ x1 _ Tryz.underlying73 rfl 8 sizeAdrs HA0.out.size ?_; go_big_quiet_on; simp only [Act.put, List.setIfInBounds_toArray, List.set_cons_zero, List.set_cons_succ]) | go_big_quiet_step (first | (go_at_call 98; exact Calls.ext (c1 _)) | (go_at_call 63; exact Calls.ext (c2 _))))
    exact wpQuiet_nil rfl
  refine AlChk.one rfl (fun b => .pointer (some ⟨b, 0, none⟩)) (.cells (byteCells 32 []) 25 (0, 0)) rfl (fun w3 hb3 hF3 => by go_simp; rfl) ?_
  refine AlChk.nil ?_
  refine Walk.blk rfl (fun b => .pointer (some ⟨b, 0, none⟩)) (.cells (byteCells 32 []) 25 (0, 0)) (by simp) ?_
  intro b3 w3 hb3 hF3 hge3 _
  apply Exists.intro
  refine ⟨fun w4 hb4 hF4 => wpQuiet_nil rfl, ?_⟩
  refine AlChk.nil ?_
  refine Walk.fin fun w3 h3 hF3 _ => ?_
  simp only [List.drop_succ_cons, List.drop_zero]
  have kb3 : Blk w3 b3 (byteCells 32 []) 25 := hF3.2
  have Hk3 := hid kb3
  have Hb3 := hid (Below.on Hb2.out h3)
  have Kd3 := hid (Kd2.out.below h3)
  have Kp3 := hid (Kp2.out.below h3)
  have Kx3 := hid (Kx2.out.below h3)
  have hge3w : w.heap.size ≤ b3 := Nat.le_trans Hb2.out.size hge3
  have hne31 : w1.heap.size ≠ b3 := by have := Kd2.out.lt; omega
  have hne3p : bp ≠ b3 := by have := Kp2.out.lt; omega
  have hne3x : bx ≠ b3 := by have := Kx2.out.lt; omega
  have HDk := hid (Dg.at_ pub AD)
  clear kb3 h3 hF3 Kd2 Kp2 Kx2
  go_wp2_with (
    refine wpList_store_blk rfl 25 _ _ rfl b3 _ rfl rfl _ 25 Hk3.out 32 size_digest HzA.out HDk.out.size (ints_one _ _) ?_
    intro w4 hb4 hk4
    have Hb4 := hid (hb4.below Hb3.out Hb3.out.size hge3w)
    have Kk4 := hid hk4
    have Kd4 := hid (hb4.blk Kd3.out hne31)
    have Kp4 := hid (hb4.blk Kp3.out hne3p)
    have Kx4 := hid (hb4.blk Kx3.out hne3x)
    clear hb4 hk4)
  simp only [Act.put, List.setIfInBounds_toArray, List.set_cons_zero, List.set_cons_succ]
  refine wp_region_flow 5 [0, 1, 2, 3] [4] [(.b 4, [], [])] (by kernel_rfl) (by kernel_rfl) ?_
  apply Exists.intro
  refine ⟨fun w0 hb0 hF0 => ?_, ?_⟩
  · skip
    have x0 : ∀ w', (∃ x : Ext w0, w' = x.at_) → ∃ T, Blk w' (bp) (pub.map (Value.int .u8)).toArray T := fun w' ⟨x, hx⟩ => ⟨_, hx ▸ (Kp4.out.below hb0).below x.same⟩
    have x1 : ∀ w', (∃ x : Ext w0, w' = x.at_) → ∃ T, Blk w' (w1.heap.size) (AD.map (Value.int .u32)).toArray T := fun w' ⟨x, hx⟩ => ⟨_, hx ▸ (Kd4.out.below hb0).below x.same⟩
    have c1 := fun e : Ext w0 => HfI.out 1 e.at_
    have c2 := fun e : Ext w0 => At_any pub (setAd ad f j 1) e.at_ hpub HA1.out ((Htab.out.below (Below.on Hb4.out hb0)).below e.same)
    skip
    simp only [pick, List.getElem?_toArray, List.getElem?_cons_succ, List.getElem?_cons_zero, Option.toList_some, List.cons_append, List.nil_append]
    repeat (first | (go_big_quiet_want; refine quiet_load_blk 25 _ rfl (bp) rfl _ x0 _ Tryz.underlying25 rfl 32 size_digest hpub.size ?_; go_big_quiet_on; simp only [Act.put, List.setIfInBounds_toArray, List.set_cons_zero, List.set_cons_succ]) | (go_big_quiet_want; refine quiet_load_blk 73 _ rfl (w1.heap.size) rfl _ x1 _ Tryz.underlying73 rfl 8 sizeAdrs HA0.out.size ?_; go_big_quiet_on; simp only [Act.put, List.setIfInBounds_toArray, List.set_cons_zero, List.set_cons_succ]) | go_big_quiet_step (first | (go_at_call 98; exact Calls.ext (c1 _)) | (go_at_call 63; exact Calls.ext (c2 _))))
    exact wpQuiet_nil rfl
  refine AlChk.one rfl (fun b => .pointer (some ⟨b, 0, none⟩)) (.cells (byteCells 32 []) 25 (0, 0)) rfl (fun w3 hb3 hF3 => by go_simp; rfl) ?_
  refine AlChk.nil ?_
  refine Walk.blk rfl (fun b => .pointer (some ⟨b, 0, none⟩)) (.cells (byteCells 32 []) 25 (0, 0)) (by simp) ?_
  intro b5 w3 hb3 hF3 hge5 _
  apply Exists.intro
  refine ⟨fun w4 hb4 hF4 => wpQuiet_nil rfl, ?_⟩
  refine AlChk.nil ?_
  refine Walk.fin fun w5 h5 hF5 _ => ?_
  simp only [List.drop_succ_cons, List.drop_zero]
  have kb5 : Blk w5 b5 (byteCells 32 []) 25 := hF5.2
  have Hk5 := hid kb5
  have Hb5 := hid (Below.on Hb4.out h5)
  have Kk5 := hid (Kk4.out.below h5)
  have Kp5 := hid (Kp4.out.below h5)
  have Kx5 := hid (Kx4.out.below h5)
  have hge5w : w.heap.size ≤ b5 := Nat.le_trans Hb4.out.size hge5
  have hne5k : b3 ≠ b5 := by have := Kk4.out.lt; omega
  have hne5x : bx ≠ b5 := by have := Kx4.out.lt; omega
  have HDm := hid (Dg.at_ pub (setAd ad f j 1))
  clear kb5 h5 hF5 Kd4 Kp4 Kx4 Kk4
  go_wp2_with (
    refine wpList_store_blk rfl 25 _ _ rfl b5 _ rfl rfl _ 25 Hk5.out 32 size_digest HzA.out HDm.out.size (ints_one _ _) ?_
    intro w6 hb6 hk6
    have Hb6 := hid (hb6.below Hb5.out Hb5.out.size hge5w)
    have Km6 := hid hk6
    have Kk6 := hid (hb6.blk Kk5.out hne5k)
    have Kx6 := hid (hb6.blk Kx5.out hne5x)
    clear hb6 hk6)
  simp only [Act.put, List.setIfInBounds_toArray, List.set_cons_zero, List.set_cons_succ]
  refine wp_region_flow 5 [0, 1, 2, 3, 4] [] [] (by kernel_rfl) (by kernel_rfl) ?_
  apply Exists.intro
  refine ⟨fun w0 hb0 hF0 => ?_, ?_⟩
  · skip
    have x0 : ∀ w', (∃ x : Ext w0, w' = x.at_) → ∃ T, Blk w' (b3) ((atZ pub AD).map (Value.int .u8)).toArray T := fun w' ⟨x, hx⟩ => ⟨_, hx ▸ (Kk6.out.below hb0).below x.same⟩
    have x1 : ∀ w', (∃ x : Ext w0, w' = x.at_) → ∃ T, Blk w' (bx) (x.map (Value.int .u8)).toArray T := fun w' ⟨x, hx⟩ => ⟨_, hx ▸ (Kx6.out.below hb0).below x.same⟩
    have x2 : ∀ w', (∃ x : Ext w0, w' = x.at_) → ∃ T, Blk w' (b5) ((atZ pub (setAd ad f j 1)).map (Value.int .u8)).toArray T := fun w' ⟨x, hx⟩ => ⟨_, hx ▸ (Km6.out.below hb0).below x.same⟩
    have c1 := fun e : Ext w0 => Mask_any x (atZ pub (setAd ad f j 1)) e.at_ hx HDm.out
    have c2 := fun e : Ext w0 => F_any (atZ pub AD) (xorD x (atZ pub (setAd ad f j 1))) e.at_ HDk.out (hx.xor HDm.out) ((Htab.out.below (Below.on Hb6.out hb0)).below e.same)
    rw [← HS.out] at c2
    simp only [pick, List.getElem?_toArray, List.getElem?_cons_succ, List.getElem?_cons_zero, Option.toList_some, List.cons_append, List.nil_append]
    repeat (first | (go_big_quiet_want; refine quiet_load_blk 25 _ rfl (b3) rfl _ x0 _ Tryz.underlying25 rfl 32 size_digest HDk.out.size ?_; go_big_quiet_on; simp only [Act.put, List.setIfInBounds_toArray, List.set_cons_zero, List.set_cons_succ]) | (go_big_quiet_want; refine quiet_load_blk 25 _ rfl (bx) rfl _ x1 _ Tryz.underlying25 rfl 32 size_digest hx.size ?_; go_big_quiet_on; simp only [Act.put, List.setIfInBounds_toArray, List.set_cons_zero, List.set_cons_succ]) | (go_big_quiet_want; refine quiet_load_blk 25 _ rfl (b5) rfl _ x2 _ Tryz.underlying25 rfl 32 size_digest HDm.out.size ?_; go_big_quiet_on; simp only [Act.put, List.setIfInBounds_toArray, List.set_cons_zero, List.set_cons_succ]) | go_big_quiet_step (first | (go_at_call 100; exact Calls.ext (c1 _)) | (go_at_call 99; exact Calls.ext (c2 _))))
    exact wpQuiet_nil rfl
  refine AlChk.nil ?_
  refine Walk.fin fun w7 h7 _ _ => ?_
  simp only [List.drop_succ_cons, List.drop_zero]
  have Kx7 := hid (Kx6.out.below h7)
  have Hb7 := hid (Below.on Hb6.out h7)
  have HDs := hid (Dg.step pub ad x j)
  clear h7
  go_wp2_with (refine wpList_store_blk rfl 25 _ _ rfl bx _ rfl rfl _ 25 Kx7.out 32 size_digest hx.size HDs.out.size (ints_one _ _) ?_; intro w8 hb8 hk8)
  go_returns
  exact ⟨rfl, (But.of Hb7.out).trans hb8, hk8⟩
end Go.Proofs.YtjkfbeillmeomaaGreatDoor
namespace Go.Proofs.YtjkfbeillmeomaaGreatDoor
set_option maxRecDepth 100000
open Go.ChangeShapes Go.WideShapes Go.ChangeAt Go.RowKit
set_option maxHeartbeats 4000000 in
theorem run_good (x pub ad : List Int) (from_ steps : Nat) (w : World) (hx : Dg x) (hpub : Dg pub) (had : Aw ad) (hf : from_ + steps ≤ 15) (tab : ShaTab w) :
    Calls Tryz.prog 82 #[.agg (x.map (Value.int .u8)).toArray, .int .i64 from_, .int .i64 steps, .agg (pub.map (Value.int .u8)).toArray, .agg (ad.map (Value.int .u32)).toArray] w fun e w' => e = .returned (.tuple #[.agg ((runZ pub ad x from_ steps).map (Value.int .u8)).toArray, .int .i64 0]) ∧ Below w.heap.size w w' := by
  have b1 := (Below.refl w.heap.size w).alloc (Nat.le_refl _) (.cells (x.map (Value.int .u8)).toArray 25 (0, 0))
  have b2 := b1.alloc b1.size (.cells (pub.map (Value.int .u8)).toArray 25 (0, 0))
  have b3 := b2.alloc b2.size (.cells (ad.map (Value.int .u32)).toArray 73 (0, 0))
  have bz := b3.alloc b3.size (.cells (byteCells 32 []) 25 (0, 0))
  have K0 := hid ((((Blk.new (w := w) (n := w.heap.size) rfl (x.map (Value.int .u8)).toArray 25).old (.cells (pub.map (Value.int .u8)).toArray 25 (0, 0))).old (.cells (ad.map (Value.int .u32)).toArray 73 (0, 0))).old (.cells (byteCells 32 []) 25 (0, 0)))
  have K1 := hid (((Blk.new (w := (w.alloc (.cells (x.map (Value.int .u8)).toArray 25 (0, 0)))) (n := w.heap.size + 1) (by simp only [World.size_alloc]) (pub.map (Value.int .u8)).toArray 25).old (.cells (ad.map (Value.int .u32)).toArray 73 (0, 0))).old (.cells (byteCells 32 []) 25 (0, 0)))
  have K2 := hid ((Blk.new (w := ((w.alloc (.cells (x.map (Value.int .u8)).toArray 25 (0, 0))).alloc (.cells (pub.map (Value.int .u8)).toArray 25 (0, 0)))) (n := w.heap.size + 1 + 1) (by simp only [World.size_alloc]) (ad.map (Value.int .u32)).toArray 73).old (.cells (byteCells 32 []) 25 (0, 0)))
  have Kr := hid (Blk.new (w := (((w.alloc (.cells (x.map (Value.int .u8)).toArray 25 (0, 0))).alloc (.cells (pub.map (Value.int .u8)).toArray 25 (0, 0))).alloc (.cells (ad.map (Value.int .u32)).toArray 73 (0, 0)))) (n := w.heap.size + 1 + 1 + 1) (by simp only [World.size_alloc]) (byteCells 32 []) 25)
  have Hb := hid bz
  have HzA := hid zsize
  have hbz := bz.size
  have hbs : w.heap.size + 1 + 1 + 1 + 1 = ((((w.alloc (.cells (x.map (Value.int .u8)).toArray 25 (0, 0))).alloc (.cells (pub.map (Value.int .u8)).toArray 25 (0, 0))).alloc (.cells (ad.map (Value.int .u32)).toArray 73 (0, 0))).alloc (.cells (byteCells 32 []) 25 (0, 0))).heap.size := by simp only [World.size_alloc]
  have Hbs := hid hbs
  clear bz hbs b1 b2 b3
  have Htab := hid tab
  clear tab
  have hc2 : ¬ ((15 : Int) - from_ < steps) := by omega
  go_enter Tryz.func82, Tryz.ntmps82
  go_wp2_with fail
  go_loopw [33] (fun v wr => ∃ k : Nat, k ≤ steps ∧ v = .int .i64 k ∧ Blk wr (w.heap.size) ((runZ pub ad x from_ k).map (Value.int .u8)).toArray 25 ∧ Blk wr (w.heap.size + 1) (pub.map (Value.int .u8)).toArray 25 ∧ Blk wr (w.heap.size + 1 + 1) (ad.map (Value.int .u32)).toArray 73 ∧ Blk wr (w.heap.size + 1 + 1 + 1) (byteCells 32 []) 25 ∧ Below w.heap.size w wr) (fun v _ => steps - (intOf v).toNat)
  case atStart => exact ⟨0, Nat.zero_le _, rfl, K0.out, K1.out, K2.out, Kr.out, Hb.out⟩
  case round =>
    clear K0 K1 K2 Kr Hb
    obtain ⟨k, hk, rfl, kx, kp, ka, kr, bel⟩ := hrel
    have HDk := hid (Dg.run (pub := pub) (ad := ad) hx from_ k)
    by_cases hlt : k < steps
    · have hst := step_any pub ad (runZ pub ad x from_ k) (from_ + k) _ _ _ wr hpub had HDk.out (by omega) ka kp kx (Htab.out.below bel)
      rw [show ((from_ + k : Nat) : Int) = (from_ : Int) + k by omega] at hst
      have Hst := hid hst
      have Kp := hid kp
      have Ka := hid ka
      have Kr := hid kr
      have Hbel := hid bel
      clear kx kp ka kr bel hst
      go_wp2_with fail
      refine Hst.out.mono ?_
      rintro e w4 ⟨rfl, b4, k4⟩
      have H4 := hid (And.intro k4 (And.intro (b4.blk Kp.out (by omega)) (And.intro (b4.blk Ka.out (by omega)) (And.intro (b4.blk Kr.out (by omega)) (b4.below Hbel.out Hbel.out.size (Nat.le_refl _))))))
      clear b4 k4 Hst
      go_wp2_with fail
      exact ⟨⟨k + 1, by omega, by go_num, H4.out.1, H4.out.2.1, H4.out.2.2.1, H4.out.2.2.2.1, H4.out.2.2.2.2⟩, by simp [intOf]; omega⟩
    · have hks : k = steps := by omega
      subst hks
      have Kx := hid kx
      have Kr := hid kr
      have Hbel := hid bel
      clear kx kp ka kr bel
      generalize hR : runZ pub ad x from_ k = R at *
      go_wp2_with (first | (refine wpList_load_blk rfl 25 _ rfl (w.heap.size) rfl _ 25 Kx.out _ Tryz.underlying25 rfl 32 size_digest HDk.out.size ?_) | (refine wpList_store_blk rfl 25 _ _ rfl (w.heap.size + 1 + 1 + 1) _ rfl rfl _ 25 Kr.out 32 size_digest HzA.out HDk.out.size (ints_one _ _) ?_; intro w7 hbut7 hk7))
      exact bodyPost_ret (v := .tuple #[.agg (R.map (Value.int .u8)).toArray, .int .i64 0]) (results_blk_tmp Tryz.results82 _ (w.heap.size + 1 + 1 + 1) rfl _ rfl _ 25 hk7 _ Tryz.underlying25 rfl 32 size_digest HDk.out.size) rfl ⟨by rw [hR], hbut7.below Hbel.out Hbel.out.size (by omega)⟩
end Go.Proofs.YtjkfbeillmeomaaGreatDoor
namespace Go.Proofs.YtjkfbeillmeomaaGreatDoor
set_option maxRecDepth 100000
open Go.ChangeShapes Go.WideShapes Go.ChangeAt Go.RowKit
set_option maxHeartbeats 2000000 in
theorem refrun_zero (x pub ad : List Int) (from_ : Int) (w : World) (hx : Dg x) :
    Calls Tryz.prog 68 #[.agg (x.map (Value.int .u8)).toArray, .int .i64 from_, .int .i64 0, .agg (pub.map (Value.int .u8)).toArray, .agg (ad.map (Value.int .u32)).toArray] w fun e w' => e = .returned (.agg (x.map (Value.int .u8)).toArray) ∧ Below w.heap.size w w' := by
  have b1 := (Below.refl w.heap.size w).alloc (Nat.le_refl _) (.cells (x.map (Value.int .u8)).toArray 25 (0, 0))
  have b2 := b1.alloc b1.size (.cells (pub.map (Value.int .u8)).toArray 25 (0, 0))
  have b3 := b2.alloc b2.size (.cells (ad.map (Value.int .u32)).toArray 73 (0, 0))
  have bz := b3.alloc b3.size (.cells (byteCells 32 []) 25 (0, 0))
  have K0 := hid ((((Blk.new (w := w) (n := w.heap.size) rfl (x.map (Value.int .u8)).toArray 25).old (.cells (pub.map (Value.int .u8)).toArray 25 (0, 0))).old (.cells (ad.map (Value.int .u32)).toArray 73 (0, 0))).old (.cells (byteCells 32 []) 25 (0, 0)))
  have K1 := hid (((Blk.new (w := (w.alloc (.cells (x.map (Value.int .u8)).toArray 25 (0, 0)))) (n := w.heap.size + 1) (by simp only [World.size_alloc]) (pub.map (Value.int .u8)).toArray 25).old (.cells (ad.map (Value.int .u32)).toArray 73 (0, 0))).old (.cells (byteCells 32 []) 25 (0, 0)))
  have K2 := hid ((Blk.new (w := ((w.alloc (.cells (x.map (Value.int .u8)).toArray 25 (0, 0))).alloc (.cells (pub.map (Value.int .u8)).toArray 25 (0, 0)))) (n := w.heap.size + 1 + 1) (by simp only [World.size_alloc]) (ad.map (Value.int .u32)).toArray 73).old (.cells (byteCells 32 []) 25 (0, 0)))
  have Kr := hid (Blk.new (w := (((w.alloc (.cells (x.map (Value.int .u8)).toArray 25 (0, 0))).alloc (.cells (pub.map (Value.int .u8)).toArray 25 (0, 0))).alloc (.cells (ad.map (Value.int .u32)).toArray 73 (0, 0)))) (n := w.heap.size + 1 + 1 + 1) (by simp only [World.size_alloc]) (byteCells 32 []) 25)
  have Hb := hid bz
  have HzA := hid zsize
  have hbz := bz.size
  have hbs : w.heap.size + 1 + 1 + 1 + 1 = ((((w.alloc (.cells (x.map (Value.int .u8)).toArray 25 (0, 0))).alloc (.cells (pub.map (Value.int .u8)).toArray 25 (0, 0))).alloc (.cells (ad.map (Value.int .u32)).toArray 73 (0, 0))).alloc (.cells (byteCells 32 []) 25 (0, 0))).heap.size := by simp only [World.size_alloc]
  have Hbs := hid hbs
  clear bz hbs b1 b2 b3
  go_enter Tryz.func68, Tryz.ntmps68
  go_wp2_with (first | (refine wpList_load_blk rfl 25 _ rfl (w.heap.size) rfl _ 25 K0.out _ Tryz.underlying25 rfl 32 size_digest hx.size ?_) | (refine wpList_store_blk rfl 25 _ _ rfl (w.heap.size + 1 + 1 + 1) _ rfl rfl _ 25 Kr.out 32 size_digest HzA.out hx.size (ints_one _ _) ?_; intro w7 hbut7 hk7))
  exact bodyPost_ret (v := .agg (x.map (Value.int .u8)).toArray) (results_blk Tryz.results68 _ (w.heap.size + 1 + 1 + 1) rfl _ 25 hk7 _ Tryz.underlying25 rfl 32 size_digest hx.size) rfl ⟨rfl, hbut7.below Hb.out Hb.out.size (by omega)⟩
set_option maxHeartbeats 4000000 in
theorem refrun_any (pub ad : List Int) (from_ : Nat) (hpub : Dg pub) (had : Aw ad) : ∀ (n : Nat) (x : List Int) (w : World), Dg x → from_ + n ≤ 15 →
    Calls Tryz.prog 68 #[.agg (x.map (Value.int .u8)).toArray, .int .i64 from_, .int .i64 n, .agg (pub.map (Value.int .u8)).toArray, .agg (ad.map (Value.int .u32)).toArray] w fun e w' => e = .returned (.agg ((runZ pub ad x from_ n).map (Value.int .u8)).toArray) ∧ Below w.heap.size w w' := by
  intro n
  induction n with
  | zero => intro x w hx _; exact refrun_zero x pub ad from_ w hx
  | succ n ih =>
    intro x w hx hn
    have b1 := (Below.refl w.heap.size w).alloc (Nat.le_refl _) (.cells (x.map (Value.int .u8)).toArray 25 (0, 0))
    have b2 := b1.alloc b1.size (.cells (pub.map (Value.int .u8)).toArray 25 (0, 0))
    have b3 := b2.alloc b2.size (.cells (ad.map (Value.int .u32)).toArray 73 (0, 0))
    have bz := b3.alloc b3.size (.cells (byteCells 32 []) 25 (0, 0))
    have K0 := hid ((((Blk.new (w := w) (n := w.heap.size) rfl (x.map (Value.int .u8)).toArray 25).old (.cells (pub.map (Value.int .u8)).toArray 25 (0, 0))).old (.cells (ad.map (Value.int .u32)).toArray 73 (0, 0))).old (.cells (byteCells 32 []) 25 (0, 0)))
    have K1 := hid (((Blk.new (w := (w.alloc (.cells (x.map (Value.int .u8)).toArray 25 (0, 0)))) (n := w.heap.size + 1) (by simp only [World.size_alloc]) (pub.map (Value.int .u8)).toArray 25).old (.cells (ad.map (Value.int .u32)).toArray 73 (0, 0))).old (.cells (byteCells 32 []) 25 (0, 0)))
    have K2 := hid ((Blk.new (w := ((w.alloc (.cells (x.map (Value.int .u8)).toArray 25 (0, 0))).alloc (.cells (pub.map (Value.int .u8)).toArray 25 (0, 0)))) (n := w.heap.size + 1 + 1) (by simp only [World.size_alloc]) (ad.map (Value.int .u32)).toArray 73).old (.cells (byteCells 32 []) 25 (0, 0)))
    have Kr := hid (Blk.new (w := (((w.alloc (.cells (x.map (Value.int .u8)).toArray 25 (0, 0))).alloc (.cells (pub.map (Value.int .u8)).toArray 25 (0, 0))).alloc (.cells (ad.map (Value.int .u32)).toArray 73 (0, 0)))) (n := w.heap.size + 1 + 1 + 1) (by simp only [World.size_alloc]) (byteCells 32 []) 25)
    have Hb := hid bz
    have HzA := hid zsize
    have hbz := bz.size
    have hbs : w.heap.size + 1 + 1 + 1 + 1 = ((((w.alloc (.cells (x.map (Value.int .u8)).toArray 25 (0, 0))).alloc (.cells (pub.map (Value.int .u8)).toArray 25 (0, 0))).alloc (.cells (ad.map (Value.int .u32)).toArray 73 (0, 0))).alloc (.cells (byteCells 32 []) 25 (0, 0))).heap.size := by simp only [World.size_alloc]
    have Hbs := hid hbs
    clear bz hbs b1 b2 b3
    have HS : Hid (runZ pub ad x from_ (n + 1) = fZ (atZ pub (setAd ad (ad.getD 5 0) ((from_ + n : Nat) : Int) 0)) (xorD (runZ pub ad x from_ n) (atZ pub (setAd ad (ad.getD 5 0) ((from_ + n : Nat) : Int) 1)))) := hid (by rw [runZ]; unfold stepZ; rfl)
    have HDs := hid (Dg.run (pub := pub) (ad := ad) hx from_ (n + 1))
    have HDr := hid (Dg.run (pub := pub) (ad := ad) hx from_ n)
    have hf := had.get 5
    have hj : ((from_ + n : Nat) : Int) = (from_ : Int) + ((n : Int) + 1) - 1 := by omega
    rw [hj] at HS
    have HA0 := hid (had.set hf (show 0 ≤ (from_ : Int) + ((n : Int) + 1) - 1 ∧ (from_ : Int) + ((n : Int) + 1) - 1 < 4294967296 by omega) (show (0 : Int) ≤ 0 ∧ (0 : Int) < 4294967296 by omega))
    have HA1 := hid (had.set hf (show 0 ≤ (from_ : Int) + ((n : Int) + 1) - 1 ∧ (from_ : Int) + ((n : Int) + 1) - 1 < 4294967296 by omega) (show (0 : Int) ≤ 1 ∧ (1 : Int) < 4294967296 by omega))
    have Hat := hid (fun (q : Int) (W : World) => refat_list ad (ad.getD 5 0) ((from_ : Int) + ((n : Int) + 1) - 1) q W had)
    have hc5 : ∀ W : World, Blk W (w.heap.size + 1 + 1) (ad.map (Value.int .u32)).toArray 73 → W.cell? ⟨w.heap.size + 1 + 1, 5, none⟩ = some (.int .u32 (ad.getD 5 0)) := fun W k => by
      rw [k.cell]
      have := had.len
      simp [List.getD_eq_getElem?_getD, show 5 < ad.length by omega]
    have Hc5 := hid hc5
    have Hih := hid (fun W => ih x W hx (by omega))
    have hn0 : ¬ ((n : Int) + 1 = 0) := by omega
    clear hc5 hj ih
    generalize ad.getD 5 0 = f at *
    obtain ⟨hf0, hf1⟩ := hf
    have hnc : ((n + 1 : Nat) : Int) = (n : Int) + 1 := by omega
    rw [hnc]
    clear hnc
    go_enter Tryz.func68, Tryz.ntmps68
    go_wp2_with (first | (refine wpList_load_blk rfl 25 _ rfl (w.heap.size) rfl _ 25 K0.out _ Tryz.underlying25 rfl 32 size_digest hx.size ?_) | (refine wpList_load_blk rfl 25 _ rfl (w.heap.size + 1) rfl _ 25 K1.out _ Tryz.underlying25 rfl 32 size_digest hpub.size ?_) | (refine wpList_load_blk rfl 73 _ rfl (w.heap.size + 1 + 1) rfl _ 73 K2.out _ Tryz.underlying73 rfl 8 sizeAdrs had.size ?_))
    refine (Hih.out _).mono ?_
    rintro e w1 ⟨rfl, b1⟩
    have Hb1 := hid (Below.on Hb.out b1)
    have K11 := hid (K1.out.below b1)
    have K21 := hid (K2.out.below b1)
    have Kr1 := hid (Kr.out.below b1)
    have hz1 := Hb1.out.size
    have hlr := Kr1.out.lt
    clear b1 K0 K1 K2 Kr Hb
    generalize runZ pub ad x from_ n = R at *
    go_wp2_with (
      refine wpList_store_blk rfl 25 _ _ rfl w1.heap.size _ rfl rfl _ 25 (Blk.new rfl (byteCells 32 []) _) 32 size_digest HzA.out HDr.out.size (ints_one _ _) ?_
      intro w2 hb2 hk2
      have Hb2 := hid (hb2.below (Hb1.out.alloc hz1 _) (by rw [World.size_alloc]; omega) hz1)
      have KR2 := hid hk2
      have Kp2 := hid (hb2.blk (K11.out.old _) (by have := K11.out.lt; omega))
      have Ka2 := hid (hb2.blk (K21.out.old _) (by have := K21.out.lt; omega))
      have Kr2 := hid (hb2.blk (Kr1.out.old _) (by omega))
      clear hb2 hk2)
    refine wp_region_flow 8 [0, 1, 2, 3, 4, 5, 6] [7] [(.b 7, [], [])] (by kernel_rfl) (by kernel_rfl) ?_
    apply Exists.intro
    refine ⟨fun w0 hb0 hF0 => ?_, ?_⟩
    · skip
      have x0 : ∀ w', (∃ x : Ext w0, w' = x.at_) → ∃ T, Blk w' (w.heap.size + 1) (pub.map (Value.int .u8)).toArray T := fun w' ⟨x, hx⟩ => ⟨_, hx ▸ (Kp2.out.below hb0).below x.same⟩
      have x1 : ∀ w', (∃ x : Ext w0, w' = x.at_) → ∃ T, Blk w' (w.heap.size + 1 + 1) (ad.map (Value.int .u32)).toArray T := fun w' ⟨x, hx⟩ => ⟨_, hx ▸ (Ka2.out.below hb0).below x.same⟩
      have c5 : ∀ e : Ext w0, e.at_.cell? ⟨w.heap.size + 1 + 1, 5, none⟩ = some (.int .u32 f) := fun e => Hc5.out _ ((Ka2.out.below hb0).below e.same)
      have c1 := fun e : Ext w0 => Hat.out 0 e.at_
      have c2 := fun e : Ext w0 => refAt_any pub (setAd ad f ((from_ : Int) + ((n : Int) + 1) - 1) 0) e.at_ hpub HA0.out
      simp only [pick, List.getElem?_toArray, List.getElem?_cons_succ, List.getElem?_cons_zero, Option.toList_some, List.cons_append, List.nil_append]
      repeat (first | (go_big_quiet_want; refine quiet_load_blk 25 _ rfl (w.heap.size + 1) rfl _ x0 _ Tryz.underlying25 rfl 32 size_digest hpub.size ?_; go_big_quiet_on; simp only [Act.put, List.setIfInBounds_toArray, List.set_cons_zero, List.set_cons_succ]) | (go_big_quiet_want; refine quiet_load_blk 73 _ rfl (w.heap.size + 1 + 1) rfl _ x1 _ Tryz.underlying73 rfl 8 sizeAdrs had.size ?_; go_big_quiet_on; simp only [Act.put, List.setIfInBounds_toArray, List.set_cons_zero, List.set_cons_succ]) | go_big_quiet_step (first | (go_at_call 69; exact Calls.ext (c1 _)) | (go_at_call 70; exact Calls.ext (c2 _))))
      exact wpQuiet_nil rfl
    refine AlChk.one rfl (fun b => .pointer (some ⟨b, 0, none⟩)) (.cells (byteCells 32 []) 25 (0, 0)) rfl (fun w3 hb3 hF3 => by go_simp; rfl) ?_
    refine AlChk.nil ?_
    refine Walk.blk rfl (fun b => .pointer (some ⟨b, 0, none⟩)) (.cells (byteCells 32 []) 25 (0, 0)) (by simp) ?_
    intro b3 w3 hb3 hF3 hge3 _
    apply Exists.intro
    refine ⟨fun w4 hb4 hF4 => wpQuiet_nil rfl, ?_⟩
    refine AlChk.nil ?_
    refine Walk.fin fun w3 h3 hF3 _ => ?_
    simp only [List.drop_succ_cons, List.drop_zero]
    have kb3 : Blk w3 b3 (byteCells 32 []) 25 := hF3.2
    have Hk3 := hid kb3
    have Hb3 := hid (Below.on Hb2.out h3)
    have hge3w : w.heap.size ≤ b3 := Nat.le_trans Hb2.out.size hge3
    have HDq3 := hid (Dg.at_ pub (setAd ad f ((from_ : Int) + ((n : Int) + 1) - 1) 0))
    have Kp3 := hid (Kp2.out.below h3)
    have hneKp3 := Nat.ne_of_lt (Nat.lt_of_lt_of_le Kp2.out.lt hge3)
    have Ka3 := hid (Ka2.out.below h3)
    have hneKa3 := Nat.ne_of_lt (Nat.lt_of_lt_of_le Ka2.out.lt hge3)
    have Kr3 := hid (Kr2.out.below h3)
    have hneKr3 := Nat.ne_of_lt (Nat.lt_of_lt_of_le Kr2.out.lt hge3)
    have KR3 := hid (KR2.out.below h3)
    have hneKR3 := Nat.ne_of_lt (Nat.lt_of_lt_of_le KR2.out.lt hge3)
    clear kb3 h3 hF3 Kp2 Ka2 Kr2 KR2
    go_wp2_with (
      refine wpList_store_blk rfl 25 _ _ rfl b3 _ rfl rfl _ 25 Hk3.out 32 size_digest HzA.out HDq3.out.size (ints_one _ _) ?_
      intro w4 hb4 hk4
      have Hb4 := hid (hb4.below Hb3.out Hb3.out.size hge3w)
      have Kk4 := hid hk4
      have Kp4 := hid (hb4.blk Kp3.out hneKp3)
      have Ka4 := hid (hb4.blk Ka3.out hneKa3)
      have Kr4 := hid (hb4.blk Kr3.out hneKr3)
      have KR4 := hid (hb4.blk KR3.out hneKR3)
      clear hb4 hk4)
    simp only [Act.put, List.setIfInBounds_toArray, List.set_cons_zero, List.set_cons_succ]
    refine wp_region_flow 8 [0, 1, 2, 3, 4, 5, 6] [7] [(.b 7, [], [])] (by kernel_rfl) (by kernel_rfl) ?_
    apply Exists.intro
    refine ⟨fun w0 hb0 hF0 => ?_, ?_⟩
    · skip
      have x0 : ∀ w', (∃ x : Ext w0, w' = x.at_) → ∃ T, Blk w' (w.heap.size + 1) (pub.map (Value.int .u8)).toArray T := fun w' ⟨x, hx⟩ => ⟨_, hx ▸ (Kp4.out.below hb0).below x.same⟩
      have x1 : ∀ w', (∃ x : Ext w0, w' = x.at_) → ∃ T, Blk w' (w.heap.size + 1 + 1) (ad.map (Value.int .u32)).toArray T := fun w' ⟨x, hx⟩ => ⟨_, hx ▸ (Ka4.out.below hb0).below x.same⟩
      have c5 : ∀ e : Ext w0, e.at_.cell? ⟨w.heap.size + 1 + 1, 5, none⟩ = some (.int .u32 f) := fun e => Hc5.out _ ((Ka4.out.below hb0).below e.same)
      have c1 := fun e : Ext w0 => Hat.out 1 e.at_
      have c2 := fun e : Ext w0 => refAt_any pub (setAd ad f ((from_ : Int) + ((n : Int) + 1) - 1) 1) e.at_ hpub HA1.out
      simp only [pick, List.getElem?_toArray, List.getElem?_cons_succ, List.getElem?_cons_zero, Option.toList_some, List.cons_append, List.nil_append]
      repeat (first | (go_big_quiet_want; refine quiet_load_blk 25 _ rfl (w.heap.size + 1) rfl _ x0 _ Tryz.underlying25 rfl 32 size_digest hpub.size ?_; go_big_quiet_on; simp only [Act.put, List.setIfInBounds_toArray, List.set_cons_zero, List.set_cons_succ]) | (go_big_quiet_want; refine quiet_load_blk 73 _ rfl (w.heap.size + 1 + 1) rfl _ x1 _ Tryz.underlying73 rfl 8 sizeAdrs had.size ?_; go_big_quiet_on; simp only [Act.put, List.setIfInBounds_toArray, List.set_cons_zero, List.set_cons_succ]) | go_big_quiet_step (first | (go_at_call 69; exact Calls.ext (c1 _)) | (go_at_call 70; exact Calls.ext (c2 _))))
      exact wpQuiet_nil rfl
    refine AlChk.one rfl (fun b => .pointer (some ⟨b, 0, none⟩)) (.cells (byteCells 32 []) 25 (0, 0)) rfl (fun w3 hb3 hF3 => by go_simp; rfl) ?_
    refine AlChk.nil ?_
    refine Walk.blk rfl (fun b => .pointer (some ⟨b, 0, none⟩)) (.cells (byteCells 32 []) 25 (0, 0)) (by simp) ?_
    intro b5 w3 hb3 hF3 hge5 _
    apply Exists.intro
    refine ⟨fun w4 hb4 hF4 => wpQuiet_nil rfl, ?_⟩
    refine AlChk.nil ?_
    refine Walk.fin fun w5 h5 hF5 _ => ?_
    simp only [List.drop_succ_cons, List.drop_zero]
    have kb5 : Blk w5 b5 (byteCells 32 []) 25 := hF5.2
    have Hk5 := hid kb5
    have Hb5 := hid (Below.on Hb4.out h5)
    have hge5w : w.heap.size ≤ b5 := Nat.le_trans Hb4.out.size hge5
    have HDq5 := hid (Dg.at_ pub (setAd ad f ((from_ : Int) + ((n : Int) + 1) - 1) 1))
    have Kp5 := hid (Kp4.out.below h5)
    have hneKp5 := Nat.ne_of_lt (Nat.lt_of_lt_of_le Kp4.out.lt hge5)
    have Ka5 := hid (Ka4.out.below h5)
    have hneKa5 := Nat.ne_of_lt (Nat.lt_of_lt_of_le Ka4.out.lt hge5)
    have Kr5 := hid (Kr4.out.below h5)
    have hneKr5 := Nat.ne_of_lt (Nat.lt_of_lt_of_le Kr4.out.lt hge5)
    have KR5 := hid (KR4.out.below h5)
    have hneKR5 := Nat.ne_of_lt (Nat.lt_of_lt_of_le KR4.out.lt hge5)
    have Kk5 := hid (Kk4.out.below h5)
    have hneKk5 := Nat.ne_of_lt (Nat.lt_of_lt_of_le Kk4.out.lt hge5)
    clear kb5 h5 hF5 Kp4 Ka4 Kr4 KR4 Kk4
    go_wp2_with (
      refine wpList_store_blk rfl 25 _ _ rfl b5 _ rfl rfl _ 25 Hk5.out 32 size_digest HzA.out HDq5.out.size (ints_one _ _) ?_
      intro w6 hb6 hk6
      have Hb6 := hid (hb6.below Hb5.out Hb5.out.size hge5w)
      have Km6 := hid hk6
      have Kp6 := hid (hb6.blk Kp5.out hneKp5)
      have Ka6 := hid (hb6.blk Ka5.out hneKa5)
      have Kr6 := hid (hb6.blk Kr5.out hneKr5)
      have KR6 := hid (hb6.blk KR5.out hneKR5)
      have Kk6 := hid (hb6.blk Kk5.out hneKk5)
      clear hb6 hk6)
    simp only [Act.put, List.setIfInBounds_toArray, List.set_cons_zero, List.set_cons_succ]
    refine wp_region_flow 5 [0, 1, 2, 3, 4] [] [] (by kernel_rfl) (by kernel_rfl) ?_
    apply Exists.intro
    refine ⟨fun w0 hb0 hF0 => ?_, ?_⟩
    · skip
      have x0 : ∀ w', (∃ x : Ext w0, w' = x.at_) → ∃ T, Blk w' (b3) ((atZ pub (setAd ad f ((from_ : Int) + ((n : Int) + 1) - 1) 0)).map (Value.int .u8)).toArray T := fun w' ⟨x, hx⟩ => ⟨_, hx ▸ (Kk6.out.below hb0).below x.same⟩
      have x1 : ∀ w', (∃ x : Ext w0, w' = x.at_) → ∃ T, Blk w' (w1.heap.size) (R.map (Value.int .u8)).toArray T := fun w' ⟨x, hx⟩ => ⟨_, hx ▸ (KR6.out.below hb0).below x.same⟩
      have x2 : ∀ w', (∃ x : Ext w0, w' = x.at_) → ∃ T, Blk w' (b5) ((atZ pub (setAd ad f ((from_ : Int) + ((n : Int) + 1) - 1) 1)).map (Value.int .u8)).toArray T := fun w' ⟨x, hx⟩ => ⟨_, hx ▸ (Km6.out.below hb0).below x.same⟩
      have c1 := fun e : Ext w0 => refMask_any R (atZ pub (setAd ad f ((from_ : Int) + ((n : Int) + 1) - 1) 1)) e.at_ HDr.out HDq5.out
      have c2 := fun e : Ext w0 => refF_any (atZ pub (setAd ad f ((from_ : Int) + ((n : Int) + 1) - 1) 0)) (xorD R (atZ pub (setAd ad f ((from_ : Int) + ((n : Int) + 1) - 1) 1))) e.at_ HDq3.out (HDr.out.xor HDq5.out)
      rw [← HS.out] at c2
      simp only [pick, List.getElem?_toArray, List.getElem?_cons_succ, List.getElem?_cons_zero, Option.toList_some, List.cons_append, List.nil_append]
      repeat (first | (go_big_quiet_want; refine quiet_load_blk 25 _ rfl (b3) rfl _ x0 _ Tryz.underlying25 rfl 32 size_digest HDq3.out.size ?_; go_big_quiet_on; simp only [Act.put, List.setIfInBounds_toArray, List.set_cons_zero, List.set_cons_succ]) | (go_big_quiet_want; refine quiet_load_blk 25 _ rfl (w1.heap.size) rfl _ x1 _ Tryz.underlying25 rfl 32 size_digest HDr.out.size ?_; go_big_quiet_on; simp only [Act.put, List.setIfInBounds_toArray, List.set_cons_zero, List.set_cons_succ]) | (go_big_quiet_want; refine quiet_load_blk 25 _ rfl (b5) rfl _ x2 _ Tryz.underlying25 rfl 32 size_digest HDq5.out.size ?_; go_big_quiet_on; simp only [Act.put, List.setIfInBounds_toArray, List.set_cons_zero, List.set_cons_succ]) | go_big_quiet_step (first | (go_at_call 91; exact Calls.ext (c1 _)) | (go_at_call 90; exact Calls.ext (c2 _))))
      exact wpQuiet_nil rfl
    refine AlChk.nil ?_
    refine Walk.fin fun w9 h9 _ _ => ?_
    simp only [List.drop_succ_cons, List.drop_zero]
    have Kr9 := hid (Kr6.out.below h9)
    have Hb9 := hid (Below.on Hb6.out h9)
    clear h9
    go_wp2_with (refine wpList_store_blk rfl 25 _ _ rfl (w.heap.size + 1 + 1 + 1) _ rfl rfl _ 25 Kr9.out 32 size_digest HzA.out HDs.out.size (ints_one _ _) ?_; intro w7 hbut7 hk7)
    exact bodyPost_ret (v := .agg ((runZ pub ad x from_ (n + 1)).map (Value.int .u8)).toArray) (results_blk Tryz.results68 _ (w.heap.size + 1 + 1 + 1) rfl _ 25 hk7 _ Tryz.underlying25 rfl 32 size_digest HDs.out.size) rfl ⟨rfl, hbut7.below Hb9.out Hb9.out.size (by omega)⟩
end Go.Proofs.YtjkfbeillmeomaaGreatDoor
