/-
  Put together, as far as wanted: VPrKM VCommit VCommitRef VWire1 VWire2 VWire3 VWire4 VhA VhB VhC VhE VhF VhG VhH VhI VhJ.
-/
import Derived.Test.YtkakoiaahgchmaaGreatDoorVA5
namespace Go.Proofs.YtkakoiaahgchmaaGreatDoor
set_option maxRecDepth 100000
open Go.ChangeShapes Go.WideShapes Go.ChangeAt Go.RowKit Go.Shelf
attribute [local go_sem] Oper.semAt_some
theorem Blk.grownC {W W' : World} {b : Nat} {cs : Array Value} {T : TypeId} {row : Option Nat} (h : Blk W b cs T) (hg : W.grownBy W' row) (hr : ∀ r, row = some r → ∃ o : Obj, W.heap[r]? = some o ∧ o.isCells = false) : Blk W' b cs T :=
  (hg.block b h.lt (fun e => by obtain ⟨o, ho, hc⟩ := hr b e.symm; rw [show W.heap[b]? = _ from h] at ho; cases ho; cases hc)).trans h
theorem bitL_two (d : List Int) (k : Nat) : bitL d k = 0 ∨ bitL d k = 1 := by
  unfold bitL
  omega
set_option maxHeartbeats 4000000 in
theorem climb_good_q (x i d : List Int) (ad : Option Addr) (len cap : Nat) (ns : List (List Int)) (w : World) (hx : Dg x) (hi : Dg i) (hd : Dg d) (hn : knN d 256 = len) (hns : DigsAt w ad len cap ns) (tab : ShaTab w) :
    Calls Tryz.prog 117 #[.agg (x.map (Value.int .u8)).toArray, .agg (i.map (Value.int .u8)).toArray, .agg (prC d (.slice ad len cap)).toArray] w fun e w' => e = .returned (.tuple #[.agg ((climbK d i ns x 256).map (Value.int .u8)).toArray, .int .i64 0]) ∧ Below w.heap.size w w' := by
  have b1 := (Below.refl w.heap.size w).alloc (Nat.le_refl _) (.cells (x.map (Value.int .u8)).toArray 25 (0, 0))
  have b2 := b1.alloc b1.size (.cells (i.map (Value.int .u8)).toArray 25 (0, 0))
  have b3 := b2.alloc b2.size (.cells (prC d (.slice ad len cap)).toArray 47 (0, 0))
  have b4 := b3.alloc b3.size (.cells (byteCells 32 []) 25 (0, 0))
  have Kx := hid ((((Blk.new (w := w) (n := w.heap.size) rfl (x.map (Value.int .u8)).toArray 25).old (.cells (i.map (Value.int .u8)).toArray 25 (0, 0))).old (.cells (prC d (.slice ad len cap)).toArray 47 (0, 0))).old (.cells (byteCells 32 []) 25 (0, 0)))
  have Ki := hid (((Blk.new (w := (w.alloc (.cells (x.map (Value.int .u8)).toArray 25 (0, 0)))) (n := w.heap.size + 1) (by simp only [World.size_alloc]) (i.map (Value.int .u8)).toArray 25).old (.cells (prC d (.slice ad len cap)).toArray 47 (0, 0))).old (.cells (byteCells 32 []) 25 (0, 0)))
  have Kp := hid ((Blk.new (w := ((w.alloc (.cells (x.map (Value.int .u8)).toArray 25 (0, 0))).alloc (.cells (i.map (Value.int .u8)).toArray 25 (0, 0)))) (n := w.heap.size + 1 + 1) (by simp only [World.size_alloc]) (prC d (.slice ad len cap)).toArray 47).old (.cells (byteCells 32 []) 25 (0, 0)))
  have Kr := hid (Blk.new (w := (((w.alloc (.cells (x.map (Value.int .u8)).toArray 25 (0, 0))).alloc (.cells (i.map (Value.int .u8)).toArray 25 (0, 0))).alloc (.cells (prC d (.slice ad len cap)).toArray 47 (0, 0)))) (n := w.heap.size + 1 + 1 + 1) (by simp only [World.size_alloc]) (byteCells 32 []) 25)
  have Hb := hid b4
  have hbz := b4.size
  have Hbs := hid (show w.heap.size + 1 + 1 + 1 + 1 = ((((w.alloc (.cells (x.map (Value.int .u8)).toArray 25 (0, 0))).alloc (.cells (i.map (Value.int .u8)).toArray 25 (0, 0))).alloc (.cells (prC d (.slice ad len cap)).toArray 47 (0, 0))).alloc (.cells (byteCells 32 []) 25 (0, 0))).heap.size by simp only [World.size_alloc])
  have Htab := hid tab
  clear b1 b2 b3 b4 tab 
  have CK := hid (fun W : World => complete_any d ad len cap W hd)
  rw [decide_eq_true hn] at CK
  have CS := hid (fun W : World => siblings_any d ad len cap W)
  have CN := hid (fun (a b : List Int) (ha : Dg a) (hb : Dg b) (W : World) (t : ShaTab W) => lonode_any a b W ha hb t)
  have CB := hid (fun (k : Nat) (hk : k < 256) (W : World) => bit_in i k W hi hk)
  refine (callsIn_wide (n := 7)).1 ?_
  refine callsIn_of_wp_marks Tryz.func117 rfl trivial ?_ rfl
  simp only [Tryz.ntmps117, List.size_toArray, List.length_cons, List.length_nil, Nat.reduceAdd, Nat.reduceSub, Array.replicate_succ, Array.replicate_zero, List.push_toArray, List.append_toArray, List.nil_append, List.cons_append]
  apply wpIn_seq_k
  intro _ _
  refine wpIn_region_as rfl rfl ?_
  go_wp2_with fail
  apply wpIn_seq_k
  intro _ _
  apply wpIn_seq_k
  intro _ _
  refine wpIn_region_as rfl rfl ?_
  go_wp2_with (refine wpList_load_blk rfl 47 _ rfl (w.heap.size + 1 + 1) rfl _ 47 Kp.out _ Tryz.underlying47 rfl 33 size_proof (prC_size hd _) ?_)
  refine (CK.out _).mono ?_
  rintro e w1 ⟨rfl, bw1⟩
  have HBw1 := hid (Below.on Hb.out bw1)
  have hsw1 := HBw1.out.size
  have Kxw1 := hid (Kx.out.below bw1)
  have Kiw1 := hid (Ki.out.below bw1)
  have Kpw1 := hid (Kp.out.below bw1)
  have Krw1 := hid (Kr.out.below bw1)
  clear bw1
  go_wp2_with fail
  refine wpIn_cond_false rfl ?_
  apply wpIn_skip
  gi_step
  gi_step
  apply wpIn_seq_k
  intro _ _
  apply wpIn_seq_k
  intro _ _
  refine wpIn_region_as rfl rfl ?_
  go_wp2_with (refine wpList_load_blk rfl 47 _ rfl (w.heap.size + 1 + 1) rfl _ 47 Kpw1.out _ Tryz.underlying47 rfl 33 size_proof (prC_size hd _) ?_)
  refine (CS.out _).mono ?_
  rintro e w2 ⟨rfl, b2, k2⟩
  have KQ := hid k2
  clear k2
  have HBw2 := hid (Below.on HBw1.out b2)
  have hsw2 := HBw2.out.size
  have Kxw2 := hid (Kxw1.out.below b2)
  have Kiw2 := hid (Kiw1.out.below b2)
  have Kpw2 := hid (Kpw1.out.below b2)
  have Krw2 := hid (Krw1.out.below b2)
  clear b2
  go_wp2_with fail
  apply wpIn_block
  have hns2 := hns
  have hsz : w.heap.size + 1 + 1 + 1 + 1 ≤ w1.heap.size := by have := Krw1.out.lt; omega
  have hsy : w1.heap.size < w2.heap.size := KQ.out.lt
  have htb := Htab.out.below HBw2.out
  refine wpIn_rangeFunc_ownH rfl (by omega) (gf := 147) (lb := #[.pointer (some ⟨w1.heap.size, 0, none⟩)]) rfl trivial (enters_of Tryz.func147 (by kernel_rfl) rfl)
    (siblings_stops _ d ad len cap ns w1.heap.size w w2 hd hn hns HBw2.out (by omega) KQ.out htb)
    (fun h k => h.trans k) (fun W l o o' hl h ho _ => KeepC.putObj (n := w2.heap.size) (by omega) W l o o' hl h ho) (Below.refl _ _) (fun _ => rfl)
    (fun pre W => (Blk W w.heap.size ((foldC d i ns x pre).map (Value.int .u8)).toArray 25 ∧ Blk W (w.heap.size + 1) (i.map (Value.int .u8)).toArray 25 ∧ Blk W (w.heap.size + 1 + 1 + 1) (byteCells 32 []) 25) ∧ Below w.heap.size w W)
    (fun _ _ _ => False)
    (OwnFrom.and (Own.from (fun s A B row hs hg hr => ⟨hs.1.grownC hg hr, hs.2.1.grownC hg hr, hs.2.2.grownC hg hr⟩) _) (ownFrom_below (Nat.le_refl _) (by omega)))
    (fun _ _ _ _ _ hs _ _ => hs)
    ⟨⟨Kxw2.out, Kiw2.out, Krw2.out⟩, HBw2.out⟩
    (fun k a' W => ∃ Bx, Blk W Bx ((sibL d ns k.1).map (Value.int .u8)).toArray 25 ∧ a' = { tmps := #[.agg (x.map (Value.int .u8)).toArray, .agg (i.map (Value.int .u8)).toArray, .agg (prC d (.slice ad len cap)).toArray, .pointer (some ⟨w.heap.size, 0, none⟩), .pointer (some ⟨w.heap.size + 1, 0, none⟩), .pointer (some ⟨w.heap.size + 1 + 1, 0, none⟩), .pointer (some ⟨w.heap.size + 1 + 1 + 1, 0, none⟩), .int .i64 0, .int .i64 (k.1 : Int), .pointer (some ⟨Bx, 0, none⟩), .agg (prC d (.slice ad len cap)).toArray, .bool true, .bool false, undef, .agg (prC d (.slice ad len cap)).toArray, .func (.func 147) #[] #[.pointer (some ⟨w1.heap.size, 0, none⟩)], .int .i64 (k.1 : Int), .agg ((sibL d ns k.1).map (Value.int .u8)).toArray, undef, undef, undef, undef, undef, undef, undef, undef, undef, undef, undef], defers := [] })
    (fun k a' => fun _ A B row hs hg hr => by
      obtain ⟨Bx, h2, h3⟩ := hs
      exact ⟨Bx, h2.grownC hg (fun r e => (hr r e).2), h3⟩) ?assign ?body ?done ?stop
  case stop =>
    rintro D c pre W _ _ h _
    exact h.elim
  case assign =>
    rintro l pre k W K hi hK
    apply wpIn_seq_k
    intro _ _
    refine wpIn_region_as rfl rfl ?_
    go_wp2_with fail
    have HSd := hid (Dg.sibL hn hns k.2)
    have HW := hid hi
    clear hi
    refine wpIn_region_as rfl rfl ?_
    go_wp2_with (
          refine wpList_store_blk rfl 25 _ _ rfl (W.heap.size) ((sibL d ns k.1).map (Value.int .u8)).toArray rfl rfl _ 25 (Blk.new rfl (byteCells 32 []) _) 32 size_digest zsize HSd.out.size (ints_one _ _) ?_
          intro w3 hb3 hk3
          have b3 := hb3.below ((Below.refl W.heap.size W).alloc (Nat.le_refl _) _) (by simp only [World.size_alloc]; omega) (Nat.le_refl _)
          have HB3 := hid b3
          have HK3 := hid hk3
          clear hb3 hk3 b3)
    have hWs := HW.out.2.size
    exact hK _ _ (keepsFrom_below HB3.out) (KeepC.of_below (by omega) HB3.out) ⟨⟨HW.out.1.1.below HB3.out, HW.out.1.2.1.below HB3.out, HW.out.1.2.2.below HB3.out⟩, Below.on HW.out.2 HB3.out⟩ ⟨W.heap.size, HK3.out, rfl⟩
  case body =>
    rintro l pre k a' W hl _ ⟨⟨kx, ki, kr⟩, bel⟩ ⟨Bx, kb, rfl⟩ _
    have HX := hid kx
    have HI := hid ki
    have HR := hid kr
    have HS := hid kb
    have HBW := hid bel
    have hbl := bel.size
    have hxl := kx.lt
    have hil := ki.lt
    have hrl := kr.lt
    have hsl := kb.lt
    have htW := hid (Htab.out.below bel)
    clear kx ki kr kb bel
    have HSd := hid (Dg.sibL hn hns k.2)
    have HFd := hid (Dg.foldC hx d i ns pre)
    have HF := hid (foldC_snoc d i ns x pre k)
    have HI0 := hid hi
    obtain ⟨k, hk⟩ := k
    dsimp only at *
    generalize sibL d ns k = Sb at *
    generalize foldC d i ns x pre = X at *
    apply wpIn_block
    apply wpIn_seq_k
    intro _ _
    refine wpIn_region_as rfl rfl ?_
    go_wp2_with (refine wpList_load_blk rfl 25 _ rfl (w.heap.size + 1) rfl _ 25 HI.out _ Tryz.underlying25 rfl 32 size_digest HI0.out.size ?_)
    refine (CB.out k hk _).mono ?_
    rintro e w5 ⟨rfl, b5⟩
    have HX5 := hid (HX.out.below b5)
    have HI5 := hid (HI.out.below b5)
    have HR5 := hid (HR.out.below b5)
    have HS5 := hid (HS.out.below b5)
    have HB5 := hid b5
    have hs5 := b5.size
    have ht5 := hid (htW.out.below b5)
    clear b5
    by_cases hq : bitL i k = 0
    · skip
      have HST : Hid (stepL i k X Sb = nodeL X Sb) := hid (by unfold stepL; rw [if_pos hq])
      rw [hq]
      clear hq
      go_wp2_with fail
      refine wpIn_cond_true rfl ?_
      refine wpIn_region_as rfl rfl ?_
      go_wp2_with (first | (refine wpList_load_blk rfl 25 _ rfl (w.heap.size) rfl _ 25 HX5.out _ Tryz.underlying25 rfl 32 size_digest HFd.out.size ?_) | (refine wpList_load_blk rfl 25 _ rfl (Bx) rfl _ 25 HS5.out _ Tryz.underlying25 rfl 32 size_digest HSd.out.size ?_))
      refine (CN.out X Sb HFd.out HSd.out _ ht5.out).mono ?_
      rintro e w6 ⟨rfl, b6⟩
      have HX6 := hid (HX5.out.below b6)
      have HI6 := hid (HI5.out.below b6)
      have HR6 := hid (HR5.out.below b6)
      have HB6 := hid (Below.on HB5.out b6)
      have HNd := hid (Dg.nodeL X Sb)
      have hs6 := b6.size
      generalize nodeL X Sb = T at *
      clear b6
      go_wp2_with (
         refine wpList_store_blk rfl 25 _ _ rfl (w.heap.size) (T.map (Value.int .u8)).toArray rfl rfl _ 25 HX6.out 32 size_digest HFd.out.size HNd.out.size (ints_one _ _) ?_
         intro w7 hb7 hk7
         have HK7 := hid hk7
         have HN7 := hid hb7
         have HI7 := hid (hb7.blk HI6.out (by omega))
         have HR7 := hid (hb7.blk HR6.out (by omega))
         clear hb7 hk7)
      have h6 := HB6.out
      have h7 := HN7.out
      refine ⟨(keepsFrom_below h6).trans (keepsFrom_but (by omega) h7), (KeepC.of_below (by omega) h6).trans (KeepC.of_but (by omega) h7), ⟨by rw [HF.out, HST.out]; exact HK7.out, HI7.out, HR7.out⟩, h7.below (Below.on HBW.out h6) (by have := h6.size; omega) (Nat.le_refl _)⟩
    · skip
      have HST : Hid (stepL i k X Sb = nodeL Sb X) := hid (by unfold stepL; rw [if_neg hq])
      have hq1 : bitL i k = 1 := by have := bitL_two i k; omega
      rw [hq1]
      clear hq hq1
      go_wp2_with fail
      refine wpIn_cond_false rfl ?_
      refine wpIn_region_as rfl rfl ?_
      go_wp2_with (first | (refine wpList_load_blk rfl 25 _ rfl (w.heap.size) rfl _ 25 HX5.out _ Tryz.underlying25 rfl 32 size_digest HFd.out.size ?_) | (refine wpList_load_blk rfl 25 _ rfl (Bx) rfl _ 25 HS5.out _ Tryz.underlying25 rfl 32 size_digest HSd.out.size ?_))
      refine (CN.out Sb X HSd.out HFd.out _ ht5.out).mono ?_
      rintro e w6 ⟨rfl, b6⟩
      have HX6 := hid (HX5.out.below b6)
      have HI6 := hid (HI5.out.below b6)
      have HR6 := hid (HR5.out.below b6)
      have HB6 := hid (Below.on HB5.out b6)
      have HNd := hid (Dg.nodeL Sb X)
      have hs6 := b6.size
      generalize nodeL Sb X = T at *
      clear b6
      go_wp2_with (
         refine wpList_store_blk rfl 25 _ _ rfl (w.heap.size) (T.map (Value.int .u8)).toArray rfl rfl _ 25 HX6.out 32 size_digest HFd.out.size HNd.out.size (ints_one _ _) ?_
         intro w7 hb7 hk7
         have HK7 := hid hk7
         have HN7 := hid hb7
         have HI7 := hid (hb7.blk HI6.out (by omega))
         have HR7 := hid (hb7.blk HR6.out (by omega))
         clear hb7 hk7)
      have h6 := HB6.out
      have h7 := HN7.out
      refine ⟨(keepsFrom_below h6).trans (keepsFrom_but (by omega) h7), (KeepC.of_below (by omega) h6).trans (KeepC.of_but (by omega) h7), ⟨by rw [HF.out, HST.out]; exact HK7.out, HI7.out, HR7.out⟩, h7.below (Below.on HBW.out h6) (by have := h6.size; omega) (Nat.le_refl _)⟩
  case done =>
    rintro D ys W hD rfl ⟨⟨kx, ki, kr⟩, bel⟩ hK
    rw [foldC_up d i ns x (Nat.le_refl _)] at kx
    have HX := hid kx
    have HR := hid kr
    have HBW := hid bel
    have HCd := hid (Dg.climbK hx d i ns 256)
    generalize climbK d i ns x 256 = T at *
    have HKD := hid hK
    have hbl := bel.size
    have hrl := kr.lt
    have hKl : D < W.heap.size := (Array.getElem?_eq_some_iff.1 hK).1
    clear kx ki kr bel hK
    gi_step
    gi_step
    apply wpIn_seq_k
    intro _ _
    refine wpIn_region_as rfl rfl ?_
    go_wp2_with (first
             | (refine wpList_load_blk rfl 25 _ rfl (w.heap.size) rfl _ 25 HX.out _ Tryz.underlying25 rfl 32 size_digest HCd.out.size ?_)
             | (
                refine wpList_store_blk rfl 25 _ _ rfl (w.heap.size + 1 + 1 + 1) (T.map (Value.int .u8)).toArray rfl rfl _ 25 HR.out 32 size_digest zsize HCd.out.size (ints_one _ _) ?_
                intro w9 hb9 hk9
                have HB9 := hid (hb9.below HBW.out HBW.out.size (by omega))
                have HK9 := hid hk9
                have HD9 := hid ((hb9.block D hKl (by omega)).trans HKD.out)
                clear hb9 hk9))
    apply wpIn_ret
    refine ⟨by simp, .inl ⟨_, _, rfl, run_takeDeferred HD9.out, ?_⟩⟩
    have g9 := grownBy_putObj' w9 D (.deferred none)
    have n9 : ∀ r, some D = some r → ∃ o : Obj, w9.heap[r]? = some o ∧ o.isCells = false := fun r e => by cases e; exact ⟨_, HD9.out, rfl⟩
    refine ⟨_, results_blk_tmp Tryz.results117 _ (w.heap.size + 1 + 1 + 1) rfl _ rfl _ 25 (HK9.out.grownC g9 n9) _ Tryz.underlying25 rfl 32 size_digest HCd.out.size, rfl, HB9.out.trans (belowK_b (w := w) (Nat.le_refl _) w9 D _ _ (by omega) HD9.out rfl rfl)⟩
end Go.Proofs.YtkakoiaahgchmaaGreatDoor
namespace Go.Proofs.YtkakoiaahgchmaaGreatDoor
set_option maxRecDepth 100000
open Go.ChangeShapes Go.WideShapes Go.ChangeAt Go.RowKit
/-- A digest that begins with 1, and with 9. -/
def oneD : List Int := 1 :: List.replicate 31 0
def nineD : List Int := 9 :: List.replicate 31 0
end Go.Proofs.YtkakoiaahgchmaaGreatDoor
namespace Go.Proofs.YtkakoiaahgchmaaGreatDoor
set_option maxRecDepth 100000
open Go.ChangeShapes Go.WideShapes Go.ChangeAt Go.RowKit
end Go.Proofs.YtkakoiaahgchmaaGreatDoor
namespace Go.Proofs.YtkakoiaahgchmaaGreatDoor
set_option maxRecDepth 100000
open Go.ChangeShapes Go.WideShapes Go.ChangeAt Go.RowKit
@[irreducible] def idxZ (nonce : List Int) (v : Int) (name : List Int) : List Int := sumZ ([1] ++ (nonce ++ (be 8 v ++ name)))
@[irreducible] def nonceZ (key : List Int) (v : Int) (name : List Int) : List Int := macZ key ([1] ++ (be 8 v ++ name))
@[irreducible] def madeZ (salt value : List Int) : List Int := sumZ ([2] ++ (salt ++ value))
@[irreducible] def saltZ (key index value : List Int) : List Int := macZ key ([2] ++ (index ++ value))
theorem Dg.idx (a : List Int) (v : Int) (b : List Int) : Dg (idxZ a v b) := by unfold idxZ; exact Dg.sum _
theorem Dg.made (a b : List Int) : Dg (madeZ a b) := by unfold madeZ; exact Dg.sum _
theorem isName_t (a : Option Addr) (n c : Nat) (h1 : 1 ≤ n) (h2 : n ≤ 64) (w : World) : Calls Tryz.prog 85 #[.slice a n c] w fun e w' => e = .returned (.bool true) ∧ w = w' := by
  have q1 : (1 : Int) ≤ n := by omega
  have q2 : (n : Int) ≤ 64 := by omega
  go_enter Tryz.func85, Tryz.ntmps85
  go_wp2
  go_ret
  exact ⟨rfl, rfl⟩
theorem isName_f (a : Option Addr) (n c : Nat) (h : n = 0 ∨ 64 < n) (w : World) : Calls Tryz.prog 85 #[.slice a n c] w fun e w' => e = .returned (.bool false) ∧ w = w' := by
  rcases h with rfl | h
  · go_enter Tryz.func85, Tryz.ntmps85
    go_wp2
    go_ret
    exact ⟨rfl, rfl⟩
  · have q1 : (1 : Int) ≤ n := by omega
    have q2 : ¬ (n : Int) ≤ 64 := by omega
    go_enter Tryz.func85, Tryz.ntmps85
    go_wp2
    go_ret
    exact ⟨rfl, rfl⟩
theorem isValue_t (a : Option Addr) (n c : Nat) (h2 : n ≤ 64) (w : World) : Calls Tryz.prog 88 #[.slice a n c] w fun e w' => e = .returned (.bool true) ∧ w = w' := by
  have q2 : (n : Int) ≤ 64 := by omega
  go_enter Tryz.func88, Tryz.ntmps88
  go_wp2
  go_ret
  exact ⟨rfl, rfl⟩
theorem isValue_f (a : Option Addr) (n c : Nat) (h2 : 64 < n) (w : World) : Calls Tryz.prog 88 #[.slice a n c] w fun e w' => e = .returned (.bool false) ∧ w = w' := by
  have q2 : ¬ (n : Int) ≤ 64 := by omega
  go_enter Tryz.func88, Tryz.ntmps88
  go_wp2
  go_ret
  exact ⟨rfl, rfl⟩
theorem may_t (a : Option Addr) (n c : Nat) (v : Int) (h1 : 1 ≤ n) (h2 : n ≤ 64) (h3 : 1 ≤ v) (w : World) : Calls Tryz.prog 35 #[.slice a n c, .int .i64 v] w fun e w' => e = .returned (.bool true) ∧ w = w' := by
  have q1 : (1 : Int) ≤ n := by omega
  have q2 : (n : Int) ≤ 64 := by omega
  go_enter Tryz.func35, Tryz.ntmps35
  go_wp2
  go_ret
  exact ⟨rfl, rfl⟩
theorem may_f (a : Option Addr) (n c : Nat) (v : Int) (h : (n = 0 ∨ 64 < n) ∨ v < 1) (w : World) : Calls Tryz.prog 35 #[.slice a n c, .int .i64 v] w fun e w' => e = .returned (.bool false) ∧ w = w' := by
  rcases (show n = 0 ∨ 64 < n ∨ (1 ≤ n ∧ n ≤ 64 ∧ v < 1) by omega) with rfl | h | ⟨h1, h2, h3⟩
  · clear h
    go_enter Tryz.func35, Tryz.ntmps35
    go_wp2
    go_ret
    exact ⟨rfl, rfl⟩
  · have q1 : (1 : Int) ≤ n := by omega
    have q2 : ¬ (n : Int) ≤ 64 := by omega
    go_enter Tryz.func35, Tryz.ntmps35
    go_wp2
    go_ret
    exact ⟨rfl, rfl⟩
  · have q1 : (1 : Int) ≤ n := by omega
    have q2 : (n : Int) ≤ 64 := by omega
    have q3 : ¬ 1 ≤ v := by omega
    go_enter Tryz.func35, Tryz.ntmps35
    go_wp2
    go_ret
    exact ⟨rfl, rfl⟩
/-- what 'bytesOf' hands back -/
def NumAt (n : Int) (v : Value) (w : World) : Prop := ∃ g, v = .slice (some ⟨g, 0, none⟩) 8 8 ∧ Blk w g ((be 8 n).map (Value.int .u8)).toArray 5
theorem NumAt.below {n : Int} {v : Value} {w w' : World} (h : NumAt n v w) (hb : Below w.heap.size w w') : NumAt n v w' := by
  obtain ⟨g, h1, h2⟩ := h
  exact ⟨g, h1, h2.below hb⟩
theorem NumAt.text {n : Int} {g : Nat} {w : World} (h : NumAt n (.slice (some ⟨g, 0, none⟩) 8 8) w) : TextAt w (some ⟨g, 0, none⟩) 8 8 (be 8 n) := by
  obtain ⟨g', h1, h2⟩ := h
  injection h1 with h1
  injection h1 with h1
  injection h1 with h1
  subst h1
  exact TextAt.of_ints h2 (be_length 8 n) (by omega) (be_small 8 n)
theorem bytesOf_any (n : Int) (w : World) (h0 : 0 ≤ n) (h1 : n < 9223372036854775808) :
    Calls Tryz.prog 87 #[.int .i64 n] w fun e w' => ∃ v, e = .returned v ∧ Below w.heap.size w w' ∧ NumAt n v w' := by
  go_enter Tryz.func87, Tryz.ntmps87
  go_wp2_with fail
  refine (number_any n 8 8 _ h0 (by omega) (by decide)).mono ?_
  rintro e w1 ⟨g, hg, rfl, b1, k1⟩
  have H := hid (And.intro b1 k1)
  clear b1 k1
  go_wp2_with fail
  go_ret
  exact ⟨_, rfl, H.out.1, g, rfl, H.out.2⟩
set_option maxHeartbeats 4000000 in
theorem cfrom_good (nonce name : List Int) (v : Int) (a : Option Addr) (n c : Nat) (w : World) (hN : Dg nonce) (hT : TextAt w a n c name) (hn : 1 ≤ n ∧ n ≤ 64) (hv0 : 1 ≤ v) (hv1 : v < 9223372036854775808) (tab : ShaTab w) :
    Calls Tryz.prog 44 #[(.agg (nonce.map (Value.int .u8)).toArray), .slice a n c, .int .i64 v] w fun e w' => e = .returned (.tuple #[(.agg ((idxZ nonce v name).map (Value.int .u8)).toArray), .int .i64 0]) ∧ Below w.heap.size w w' := by
  have HM : Hid (idxZ nonce v name = sumZ ([1] ++ (nonce ++ (be 8 v ++ name)))) := hid (by unfold idxZ; rfl)
  have HD := hid (Dg.idx nonce v name)
  have Hml := hid hT.length
  have hle := hT.le
  have hmx := hT.max
  have hvn : ¬ (v < 1) := by omega
  have b1 := (Below.refl w.heap.size w).alloc (Nat.le_refl _) (.cells (nonce.map (Value.int .u8)).toArray 25 (0, 0))
  have b2 := b1.alloc b1.size (.cells (byteCells 32 []) 25 (0, 0))
  have K0 := hid ((Blk.new (w := w) (n := w.heap.size) rfl (nonce.map (Value.int .u8)).toArray 25).old (.cells (byteCells 32 []) 25 (0, 0)))
  have Kr0 := hid (Blk.new (w := (w.alloc (.cells (nonce.map (Value.int .u8)).toArray 25 (0, 0)))) (n := w.heap.size + 1) (by simp only [World.size_alloc]) (byteCells 32 []) 25)
  have Hb := hid b2
  have HzA := hid zsize
  have hbz := b2.size
  have Hbs := hid (show w.heap.size + 1 + 1 = ((w.alloc (.cells (nonce.map (Value.int .u8)).toArray 25 (0, 0))).alloc (.cells (byteCells 32 []) 25 (0, 0))).heap.size by simp only [World.size_alloc])
  have Kt := hid (hT.below b2)
  have Htab := hid tab
  clear b1 b2 tab hT
  go_enter Tryz.func44, Tryz.ntmps44
  go_wp2_with fail
  refine (isName_t a n c hn.1 hn.2 _).mono ?_
  rintro e w1 ⟨rfl, rfl⟩
  go_wp2_with fail
  refine wp_region_flow 7 [1, 2, 4] [0] [(.c 3, [], []), (.b 0, [], [5]), (.b 5, [6], [])] (by kernel_rfl) (by kernel_rfl) ?_
  apply Exists.intro
  refine ⟨fun w0 hb0 hF0 => ?_, ?_⟩
  · simp only [pick, List.getElem?_toArray, List.getElem?_cons_succ, List.getElem?_cons_zero, Option.toList_some, List.cons_append, List.nil_append]
    repeat (go_big_quiet_step (fail))
    exact wpQuiet_nil rfl
  refine AlChk.one rfl (fun b => .slice (some ⟨b, 0, none⟩) 1 1) (.cells #[.int .u8 1] 5 (0, 0)) rfl (fun w2 hb2 hF2 => by go_simp) ?_
  refine AlChk.nil ?_
  refine Walk.call rfl 87 #[.int .i64 v] (NumAt v) (fun v w' w'' h k => h.below k) rfl (fun w1 hb1 hF1 => ⟨by go_simp, bytesOf_any v w1 (by omega) (by omega)⟩) ?_
  rintro vn w1 hb1 hF1 ⟨gn, rfl, _⟩
  apply Exists.intro
  refine ⟨fun w2 hb2 hF2 => wpQuiet_nil rfl, ?_⟩
  refine AlChk.nil ?_
  refine Walk.blk rfl (fun b => .slice (some ⟨b, 0, none⟩) 1 1) (.cells #[.int .u8 1] 5 (0, 0)) (by simp) ?_
  intro b1 w2 hb2 hF2 hge1 _
  apply Exists.intro
  refine ⟨fun w2 hb2 hF2 => wpQuiet_nil rfl, ?_⟩
  refine AlChk.one rfl (fun b => .slice (some ⟨b, 0, none⟩) 4 4) (.cells #[.slice (some ⟨b1, 0, none⟩) 1 1, .slice (some ⟨w.heap.size, 0, none⟩) 32 32, .slice (some ⟨gn, 0, none⟩) 8 8, .slice a n c] 37 (0, 0)) rfl (fun w2 hb2 hF2 => by go_simp) ?_
  refine AlChk.nil ?_
  refine Walk.blk rfl (fun b => .slice (some ⟨b, 0, none⟩) 4 4) (.cells #[.slice (some ⟨b1, 0, none⟩) 1 1, .slice (some ⟨w.heap.size, 0, none⟩) 32 32, .slice (some ⟨gn, 0, none⟩) 8 8, .slice a n c] 37 (0, 0)) (by simp) ?_
  intro b9 w2 hb2 hF2 hge9 _
  apply Exists.intro
  refine ⟨fun w3 hb3 hF3 => ?_, ?_⟩
  · have k9 : Blk w3 b9 #[.slice (some ⟨b1, 0, none⟩) 1 1, .slice (some ⟨w.heap.size, 0, none⟩) 32 32, .slice (some ⟨gn, 0, none⟩) 8 8, .slice a n c] 37 := hF3.2
    have k1 : Blk w3 b1 (([1] : List Int).map (Value.int .u8)).toArray 5 := hF3.1.2
    have hW := hF3.1.1.2
    have hs := fun e : Ext w3 => sum_any (some ⟨b9, 0, none⟩) 4 4 [[1], nonce, be 8 v, name] e.at_ (TextsAt.of_blk (k9.below e.same) rfl (Nat.le_refl _) (by omega) fun j hj => by
      match j, hj with
      | 0, _ => exact ⟨_, _, _, rfl, TextAt.of_ints (k1.below e.same) rfl (by omega) (by simp)⟩
      | 1, _ => exact ⟨_, _, _, rfl, hN.text ((K0.out.below hb3).below e.same)⟩
      | 2, _ => exact ⟨_, _, _, rfl, (hW.below e.same).text⟩
      | 3, _ => exact ⟨_, _, _, rfl, (Kt.out.below hb3).below e.same⟩) (by simp only [sumLen, List.map_cons, List.map_nil, List.sum_cons, List.sum_nil, be_length, hN.len, Hml.out, List.length_cons, List.length_nil]; omega) ((Htab.out.below (Below.on Hb.out hb3)).below e.same)
    rw [show ([[1], nonce, be 8 v, name] : List (List Int)).flatten = [1] ++ (nonce ++ (be 8 v ++ name)) by simp, ← HM.out] at hs
    simp only [pick, List.getElem?_toArray, List.getElem?_cons_succ, List.getElem?_cons_zero, Option.toList_some, List.cons_append, List.nil_append, Act.put, List.setIfInBounds_toArray, List.set_cons_zero, List.set_cons_succ]
    repeat (go_big_quiet_step (first | (go_at_call 86; exact Calls.ext (hs _))))
    exact wpQuiet_nil rfl
  refine AlChk.nil ?_
  refine Walk.fin fun w4 h4 _ _ => ?_
  simp only [List.drop_succ_cons, List.drop_zero]
  have HBw4 := hid (Below.on Hb.out h4)
  have hsw4 := HBw4.out.size
  have K0w4 := hid (K0.out.below h4)
  have Kr0w4 := hid (Kr0.out.below h4)
  have Ktw4 := hid (Kt.out.below h4)
  clear h4
  go_wp2_with (refine wpList_store_blk rfl 25 _ _ rfl (w.heap.size + 1) _ rfl rfl _ 25 Kr0w4.out 32 size_digest HzA.out HD.out.size (ints_one _ _) ?_; intro w7 hbut7 hk7)
  exact bodyPost_ret (v := .tuple #[(.agg ((idxZ nonce v name).map (Value.int .u8)).toArray), .int .i64 0]) (results_blk_tmp Tryz.results44 _ (w.heap.size + 1) rfl _ rfl _ 25 hk7 _ Tryz.underlying25 rfl 32 size_digest HD.out.size) rfl ⟨rfl, hbut7.below HBw4.out HBw4.out.size (by omega)⟩
set_option maxHeartbeats 4000000 in
theorem cfrom_bad (nonce : List Int) (v : Int) (a : Option Addr) (n c : Nat) (w : World) (_hN : Dg nonce) (hbad : (n = 0 ∨ 64 < n) ∨ v < 1) :
    Calls Tryz.prog 44 #[(.agg (nonce.map (Value.int .u8)).toArray), .slice a n c, .int .i64 v] w fun e w' => e = .returned (.tuple #[(.agg (zD.map (Value.int .u8)).toArray), .int .i64 1]) ∧ Below w.heap.size w w' := by
  have Hz32 := hid Dg.zero.size
  have H1 := hid (ints_one .u8 zD)
  have b1 := (Below.refl w.heap.size w).alloc (Nat.le_refl _) (.cells (nonce.map (Value.int .u8)).toArray 25 (0, 0))
  have b2 := b1.alloc b1.size (.cells (byteCells 32 []) 25 (0, 0))
  have K0 := hid ((Blk.new (w := w) (n := w.heap.size) rfl (nonce.map (Value.int .u8)).toArray 25).old (.cells (byteCells 32 []) 25 (0, 0)))
  have Kr0 := hid (Blk.new (w := (w.alloc (.cells (nonce.map (Value.int .u8)).toArray 25 (0, 0)))) (n := w.heap.size + 1) (by simp only [World.size_alloc]) (byteCells 32 []) 25)
  have Hb := hid b2
  have HzA := hid zsize
  have hbz := b2.size
  have Hbs := hid (show w.heap.size + 1 + 1 = ((w.alloc (.cells (nonce.map (Value.int .u8)).toArray 25 (0, 0))).alloc (.cells (byteCells 32 []) 25 (0, 0))).heap.size by simp only [World.size_alloc])
  clear b1 b2
  go_enter Tryz.func44, Tryz.ntmps44
  go_wp2_with fail
  rcases (show (n = 0 ∨ 64 < n) ∨ ((1 ≤ n ∧ n ≤ 64) ∧ v < 1) by omega) with h | ⟨⟨h1, h2⟩, h3⟩
  · clear hbad
    refine (isName_f a n c h _).mono ?_
    rintro e w1 ⟨rfl, rfl⟩
    go_wp2_with (refine wpList_store_blk rfl 25 _ _ rfl (w.heap.size + 1) (zD.map (Value.int .u8)).toArray rfl rfl _ 25 Kr0.out 32 size_digest HzA.out Hz32.out H1.out ?_; intro w7 hbut7 hk7)
    exact bodyPost_ret (v := .tuple #[(.agg (zD.map (Value.int .u8)).toArray), .int .i64 1]) (results_blk_tmp Tryz.results44 _ (w.heap.size + 1) rfl _ rfl _ 25 hk7 _ Tryz.underlying25 rfl 32 size_digest Hz32.out) rfl ⟨rfl, hbut7.below Hb.out Hb.out.size (by omega)⟩
  · refine (isName_t a n c h1 h2 _).mono ?_
    rintro e w1 ⟨rfl, rfl⟩
    go_wp2_with (refine wpList_store_blk rfl 25 _ _ rfl (w.heap.size + 1) (zD.map (Value.int .u8)).toArray rfl rfl _ 25 Kr0.out 32 size_digest HzA.out Hz32.out H1.out ?_; intro w7 hbut7 hk7)
    exact bodyPost_ret (v := .tuple #[(.agg (zD.map (Value.int .u8)).toArray), .int .i64 1]) (results_blk_tmp Tryz.results44 _ (w.heap.size + 1) rfl _ rfl _ 25 hk7 _ Tryz.underlying25 rfl 32 size_digest Hz32.out) rfl ⟨rfl, hbut7.below Hb.out Hb.out.size (by omega)⟩
set_option maxHeartbeats 4000000 in
theorem cmade_good (salt value : List Int) (a : Option Addr) (n c : Nat) (w : World) (hS : Dg salt) (hT : TextAt w a n c value) (hn : n ≤ 64) (tab : ShaTab w) :
    Calls Tryz.prog 46 #[(.agg (salt.map (Value.int .u8)).toArray), .slice a n c] w fun e w' => e = .returned (.tuple #[(.agg ((madeZ salt value).map (Value.int .u8)).toArray), .int .i64 0]) ∧ Below w.heap.size w w' := by
  have HM : Hid (madeZ salt value = sumZ ([2] ++ (salt ++ value))) := hid (by unfold madeZ; rfl)
  have HD := hid (Dg.made salt value)
  have Hml := hid hT.length
  have HT0 := hid hT
  have hle := hT.le
  have hmx := hT.max
  have b1 := (Below.refl w.heap.size w).alloc (Nat.le_refl _) (.cells (salt.map (Value.int .u8)).toArray 25 (0, 0))
  have b2 := b1.alloc b1.size (.cells (byteCells 32 []) 25 (0, 0))
  have K0 := hid ((Blk.new (w := w) (n := w.heap.size) rfl (salt.map (Value.int .u8)).toArray 25).old (.cells (byteCells 32 []) 25 (0, 0)))
  have Kr0 := hid (Blk.new (w := (w.alloc (.cells (salt.map (Value.int .u8)).toArray 25 (0, 0)))) (n := w.heap.size + 1) (by simp only [World.size_alloc]) (byteCells 32 []) 25)
  have Hb := hid b2
  have hbel := b2
  have HzA := hid zsize
  have hbz := b2.size
  have Hbs := hid (show w.heap.size + 1 + 1 = ((w.alloc (.cells (salt.map (Value.int .u8)).toArray 25 (0, 0))).alloc (.cells (byteCells 32 []) 25 (0, 0))).heap.size by simp only [World.size_alloc])
  have Kt := hid (hT.below b2)
  have Htab := hid tab
  clear b1 b2 tab hT
  go_enter Tryz.func46, Tryz.ntmps46
  go_wp2_with fail
  refine (isValue_t a n c hn _).mono ?_
  rintro e w1 ⟨rfl, rfl⟩
  go_wp2_with fail
  have bA := (hbel).alloc hbel.size (.cells #[.int .u8 2] 5 (0, 0))
  have bB := bA.alloc bA.size (.cells #[.slice (some ⟨w.heap.size + 1 + 1, 0, none⟩) 1 1, .slice (some ⟨w.heap.size, 0, none⟩) 32 32, .slice a n c] 37 (0, 0))
  have k9 := Blk.new (w := (((w.alloc (.cells (salt.map (Value.int .u8)).toArray 25 (0, 0))).alloc (.cells (byteCells 32 []) 25 (0, 0))).alloc (.cells #[.int .u8 2] 5 (0, 0)))) (n := w.heap.size + 1 + 1 + 1) (by simp only [World.size_alloc]) #[.slice (some ⟨w.heap.size + 1 + 1, 0, none⟩) 1 1, .slice (some ⟨w.heap.size, 0, none⟩) 32 32, .slice a n c] 37
  have k1 := (Blk.new (w := ((w.alloc (.cells (salt.map (Value.int .u8)).toArray 25 (0, 0))).alloc (.cells (byteCells 32 []) 25 (0, 0)))) (n := w.heap.size + 1 + 1) (by simp only [World.size_alloc]) (([2] : List Int).map (Value.int .u8)).toArray 5).old (.cells #[.slice (some ⟨w.heap.size + 1 + 1, 0, none⟩) 1 1, .slice (some ⟨w.heap.size, 0, none⟩) 32 32, .slice a n c] 37 (0, 0))
  have k0 := (K0.out.old (.cells #[.int .u8 2] 5 (0, 0))).old (.cells #[.slice (some ⟨w.heap.size + 1 + 1, 0, none⟩) 1 1, .slice (some ⟨w.heap.size, 0, none⟩) 32 32, .slice a n c] 37 (0, 0))
  have kr := (Kr0.out.old (.cells #[.int .u8 2] 5 (0, 0))).old (.cells #[.slice (some ⟨w.heap.size + 1 + 1, 0, none⟩) 1 1, .slice (some ⟨w.heap.size, 0, none⟩) 32 32, .slice a n c] 37 (0, 0))
  have ht := HT0.out.below bB
  have hs := sum_any (some ⟨w.heap.size + 1 + 1 + 1, 0, none⟩) 3 3 [[2], salt, value] _ (TextsAt.of_blk k9 rfl (Nat.le_refl _) (by omega) fun j hj => by
      match j, hj with
      | 0, _ => exact ⟨_, _, _, rfl, TextAt.of_ints k1 rfl (by omega) (by simp)⟩
      | 1, _ => exact ⟨_, _, _, rfl, hS.text k0⟩
      | 2, _ => exact ⟨_, _, _, rfl, ht⟩) (by simp only [sumLen, List.map_cons, List.map_nil, List.sum_cons, List.sum_nil, hS.len, Hml.out, List.length_cons, List.length_nil]; omega) (Htab.out.below bB)
  rw [show ([[2], salt, value] : List (List Int)).flatten = [2] ++ (salt ++ value) by simp, ← HM.out] at hs
  refine hs.mono ?_
  rintro e w6 ⟨rfl, b6⟩
  have HB6 := hid (Below.on bB b6)
  have Kr6 := hid (kr.below b6)
  clear b6 bA bB k9 k1 k0 kr ht hs hbel
  generalize hMZ : madeZ salt value = MZ at *
  go_wp2_with (refine wpList_store_blk rfl 25 _ _ rfl (w.heap.size + 1) _ rfl rfl _ 25 Kr6.out 32 size_digest HzA.out HD.out.size (ints_one _ _) ?_; intro w7 hbut7 hk7)
  exact bodyPost_ret (v := .tuple #[(.agg (MZ.map (Value.int .u8)).toArray), .int .i64 0]) (results_blk_tmp Tryz.results46 _ (w.heap.size + 1) rfl _ rfl _ 25 hk7 _ Tryz.underlying25 rfl 32 size_digest HD.out.size) rfl ⟨by rw [hMZ], hbut7.below HB6.out HB6.out.size (by omega)⟩
set_option maxHeartbeats 4000000 in
theorem cmade_bad (salt : List Int) (a : Option Addr) (n c : Nat) (w : World) (_hS : Dg salt) (hn : 64 < n) :
    Calls Tryz.prog 46 #[(.agg (salt.map (Value.int .u8)).toArray), .slice a n c] w fun e w' => e = .returned (.tuple #[(.agg (zD.map (Value.int .u8)).toArray), .int .i64 1]) ∧ Below w.heap.size w w' := by
  have Hz32 := hid Dg.zero.size
  have H1 := hid (ints_one .u8 zD)
  have b1 := (Below.refl w.heap.size w).alloc (Nat.le_refl _) (.cells (salt.map (Value.int .u8)).toArray 25 (0, 0))
  have b2 := b1.alloc b1.size (.cells (byteCells 32 []) 25 (0, 0))
  have K0 := hid ((Blk.new (w := w) (n := w.heap.size) rfl (salt.map (Value.int .u8)).toArray 25).old (.cells (byteCells 32 []) 25 (0, 0)))
  have Kr0 := hid (Blk.new (w := (w.alloc (.cells (salt.map (Value.int .u8)).toArray 25 (0, 0)))) (n := w.heap.size + 1) (by simp only [World.size_alloc]) (byteCells 32 []) 25)
  have Hb := hid b2
  have HzA := hid zsize
  have hbz := b2.size
  have Hbs := hid (show w.heap.size + 1 + 1 = ((w.alloc (.cells (salt.map (Value.int .u8)).toArray 25 (0, 0))).alloc (.cells (byteCells 32 []) 25 (0, 0))).heap.size by simp only [World.size_alloc])
  clear b1 b2
  go_enter Tryz.func46, Tryz.ntmps46
  go_wp2_with fail
  refine (isValue_f a n c hn _).mono ?_
  rintro e w1 ⟨rfl, rfl⟩
  go_wp2_with (refine wpList_store_blk rfl 25 _ _ rfl (w.heap.size + 1) (zD.map (Value.int .u8)).toArray rfl rfl _ 25 Kr0.out 32 size_digest HzA.out Hz32.out H1.out ?_; intro w7 hbut7 hk7)
  exact bodyPost_ret (v := .tuple #[(.agg (zD.map (Value.int .u8)).toArray), .int .i64 1]) (results_blk_tmp Tryz.results46 _ (w.heap.size + 1) rfl _ rfl _ 25 hk7 _ Tryz.underlying25 rfl 32 size_digest Hz32.out) rfl ⟨rfl, hbut7.below Hb.out Hb.out.size (by omega)⟩
end Go.Proofs.YtkakoiaahgchmaaGreatDoor
namespace Go.Proofs.YtkakoiaahgchmaaGreatDoor
set_option maxRecDepth 100000
open Go.ChangeShapes Go.WideShapes Go.ChangeAt Go.RowKit
set_option maxHeartbeats 4000000 in
theorem reftext_any (k : Int) (hk : 0 ≤ k ∧ k < 256) (pa : Option Addr) (pn pc : Nat) (d : List Int) (qa : Option Addr) (qn qc : Nat) (m : List Int) (w : World) (hP : TextAt w pa pn pc d) (hQ : TextAt w qa qn qc m) (hpn : pn ≤ 1000) (hqn : qn ≤ 140737488330000) :
    Calls Tryz.prog 82 #[.int .u8 k, .slice pa pn pc, .slice qa qn qc] w fun e w' => ∃ v, e = .returned v ∧ Below w.heap.size w w' ∧ TextV ([k] ++ (d ++ m)) v w' := by
  obtain ⟨i0, hi, hz0, hz1, hz2⟩ := info_parts info_byte
  have b1 := (Below.refl w.heap.size w).alloc (Nat.le_refl _) (.cells (([k] : List Int).map (Value.int .u8)).toArray 5 (0, 0))
  have HO := hid (OwnB.of_blk (w := w.alloc (.cells (([k] : List Int).map (Value.int .u8)).toArray 5 (0, 0))) (base := w.heap.size) (n := 1) (Blk.new rfl _ _) (Nat.le_refl _) rfl (by omega) (by simpa using hk))
  have HP := hid (hP.below b1)
  have hsz : w.heap.size ≤ (w.alloc (.cells (([k] : List Int).map (Value.int .u8)).toArray 5 (0, 0))).heap.size := b1.size
  have HQ := hid hQ
  have HP0 := hid hP
  have hle := hP.le
  have hmx := hP.max
  have hle2 := hQ.le
  have hmx2 := hQ.max
  have Hpl := hid hP.length
  have Hql := hid hQ.length
  have Hb := hid b1
  clear b1 hP hQ
  go_enter Tryz.func82, Tryz.ntmps82
  go_wp2_with (at_builtin; refine wpList_append_text rfl _ _ rfl Tryz.underlying37 hi hz0 hz1 hz2 rfl HO.out rfl HP.out (by simp only [List.length_cons, List.length_nil]; omega) hsz ?_)
  intro v5 w5 own5 _ b5
  have Ho5 := hid own5
  have Hb5 := hid (Hb.out.trans b5)
  have HQ5 := hid (HQ.out.below Hb5.out)
  have hs5 := Hb5.out.size
  clear own5 b5 HO HP Hb
  go_wp2_with (at_builtin; refine wpList_append_text rfl _ _ rfl Tryz.underlying37 hi hz0 hz1 hz2 rfl Ho5.out rfl HQ5.out (by simp only [List.length_cons, Hpl.out]; omega) hs5 ?_)
  intro v6 w6 own6 _ b6
  have Hf := hid (And.intro (Hb5.out.trans b6) (TextV.of_own own6))
  clear own6 b6
  go_wp2_with fail
  go_ret
  exact ⟨_, rfl, Hf.out⟩
set_option maxHeartbeats 4000000 in
theorem refwhole_any_c (v : Int) (hv0 : 0 ≤ v) (hv1 : v < 9223372036854775808) (a : Option Addr) (n c : Nat) (name : List Int) (w : World) (hT : TextAt w a n c name) (hn : n ≤ 1000) :
    Calls Tryz.prog 83 #[.slice a n c, .int .i64 v] w fun e w' => ∃ x, e = .returned x ∧ Below w.heap.size w w' ∧ TextV (be 8 v ++ name) x w' := by
  obtain ⟨i0, hi, hz0, hz1, hz2⟩ := info_parts info_byte
  have HT := hid hT
  have hle := hT.le
  have hmx := hT.max
  clear hT
  go_enter Tryz.func83, Tryz.ntmps83
  go_wp2_with fail
  refine (refnumber_own v 8 8 _ hv0 (by omega) rfl (by omega)).mono ?_
  rintro e w1 ⟨x, rfl, b1, o1⟩
  have Hb := hid b1
  have HO := hid o1
  have HT1 := hid (HT.out.below b1)
  have hs1 := b1.size
  clear b1 o1
  go_wp2_with (at_builtin; refine wpList_append_text rfl _ _ rfl Tryz.underlying37 hi hz0 hz1 hz2 rfl HO.out rfl HT1.out (by rw [be_length]; omega) hs1 ?_)
  intro v6 w6 own6 _ b6
  have Hf := hid (And.intro (Hb.out.trans b6) (TextV.of_own own6))
  clear own6 b6
  go_wp2_with fail
  go_ret
  exact ⟨_, rfl, Hf.out⟩
set_option maxHeartbeats 4000000 in
theorem refcfrom_any (nonce name : List Int) (v : Int) (a : Option Addr) (n c : Nat) (w : World) (hN : Dg nonce) (hT : TextAt w a n c name) (hn : n ≤ 200) (hv0 : 0 ≤ v) (hv1 : v < 9223372036854775808) :
    Calls Tryz.prog 37 #[(.agg (nonce.map (Value.int .u8)).toArray), .slice a n c, .int .i64 v] w fun e w' => e = .returned (.agg ((idxZ nonce v name).map (Value.int .u8)).toArray) ∧ Below w.heap.size w w' := by
  have HM : Hid (idxZ nonce v name = sumZ ([1] ++ (nonce ++ (be 8 v ++ name)))) := hid (by unfold idxZ; rfl)
  have HD := hid (Dg.idx nonce v name)
  have Hml := hid hT.length
  have hle := hT.le
  have hmx := hT.max
  have b1 := (Below.refl w.heap.size w).alloc (Nat.le_refl _) (.cells (nonce.map (Value.int .u8)).toArray 25 (0, 0))
  have b2 := b1.alloc b1.size (.cells (byteCells 32 []) 25 (0, 0))
  have K0 := hid ((Blk.new (w := w) (n := w.heap.size) rfl (nonce.map (Value.int .u8)).toArray 25).old (.cells (byteCells 32 []) 25 (0, 0)))
  have Kr0 := hid (Blk.new (w := (w.alloc (.cells (nonce.map (Value.int .u8)).toArray 25 (0, 0)))) (n := w.heap.size + 1) (by simp only [World.size_alloc]) (byteCells 32 []) 25)
  have Hb := hid b2
  have HzA := hid zsize
  have hbz := b2.size
  have Hbs := hid (show w.heap.size + 1 + 1 = ((w.alloc (.cells (nonce.map (Value.int .u8)).toArray 25 (0, 0))).alloc (.cells (byteCells 32 []) 25 (0, 0))).heap.size by simp only [World.size_alloc])
  have Kt := hid (hT.below b2)
  clear b1 b2 hT
  go_enter Tryz.func37, Tryz.ntmps37
  go_wp2_with fail
  refine wp_region_flow 6 [0, 1, 2] [] [(.c 3, [], []), (.c 4, [5], [])] (by kernel_rfl) (by kernel_rfl) ?_
  apply Exists.intro
  refine ⟨fun w0 hb0 hF0 => ?_, ?_⟩
  · simp only [pick, List.getElem?_toArray, List.getElem?_cons_succ, List.getElem?_cons_zero, Option.toList_some, List.cons_append, List.nil_append]
    repeat (go_big_quiet_step (fail))
    exact wpQuiet_nil rfl
  refine AlChk.nil ?_
  refine Walk.call rfl 83 #[.slice a n c, .int .i64 v] (TextV (be 8 v ++ name)) (fun v w' w'' h k => h.below k) rfl (fun w1 hb1 hF1 => ⟨by go_simp, refwhole_any_c v (by omega) hv1 a n c name w1 (Kt.out.below hb1) (by omega)⟩) ?_
  rintro vn w1 hb1 hF1 ⟨ga, gl, gc, rfl, _⟩
  apply Exists.intro
  refine ⟨fun w2 hb2 hF2 => wpQuiet_nil rfl, ?_⟩
  refine AlChk.nil ?_
  refine Walk.call rfl 82 #[.int .u8 1, .slice (some ⟨w.heap.size, 0, none⟩) 32 32, .slice ga gl gc] (TextV ([1] ++ (nonce ++ (be 8 v ++ name)))) (fun v w' w'' h k => h.below k) rfl (fun w1 hb1 hF1 => ⟨by go_simp, ?_⟩) ?_
  · have hxt := hF1.2.text
    have hxl := hxt.length
    rw [List.length_append, be_length, Hml.out] at hxl
    exact reftext_any 1 (by omega) _ 32 32 nonce ga gl gc _ w1 (hN.text (K0.out.below hb1)) hxt (by omega) (by omega)
  rintro vt w2 hb2 hF2 ⟨ta, tl, tc, rfl, _⟩
  apply Exists.intro
  refine ⟨fun w3 hb3 hF3 => ?_, ?_⟩
  · have hxt := hF3.2.text
    have hxl := hxt.length
    simp only [List.length_append, be_length, Hml.out, hN.len, List.length_cons, List.length_nil] at hxl
    have hs := fun e : Ext w3 => refsum_any ta tl tc _ e.at_ (hxt.below e.same) (by omega)
    rw [← HM.out] at hs
    simp only [pick, List.getElem?_toArray, List.getElem?_cons_succ, List.getElem?_cons_zero, Option.toList_some, List.cons_append, List.nil_append, Act.put, List.setIfInBounds_toArray, List.set_cons_zero, List.set_cons_succ]
    repeat (go_big_quiet_step (first | (go_at_call 81; exact Calls.ext (hs _))))
    exact wpQuiet_nil rfl
  refine AlChk.nil ?_
  refine Walk.fin fun w4 h4 _ _ => ?_
  simp only [List.drop_succ_cons, List.drop_zero]
  have HBw4 := hid (Below.on Hb.out h4)
  have hsw4 := HBw4.out.size
  have K0w4 := hid (K0.out.below h4)
  have Kr0w4 := hid (Kr0.out.below h4)
  have Ktw4 := hid (Kt.out.below h4)
  clear h4
  go_wp2_with (refine wpList_store_blk rfl 25 _ _ rfl (w.heap.size + 1) _ rfl rfl _ 25 Kr0w4.out 32 size_digest HzA.out HD.out.size (ints_one _ _) ?_; intro w7 hbut7 hk7)
  exact bodyPost_ret (v := (.agg ((idxZ nonce v name).map (Value.int .u8)).toArray)) (results_blk Tryz.results37 _ (w.heap.size + 1) rfl _ 25 hk7 _ Tryz.underlying25 rfl 32 size_digest HD.out.size) rfl ⟨rfl, hbut7.below HBw4.out HBw4.out.size (by omega)⟩
set_option maxHeartbeats 4000000 in
theorem refcmade_any (salt value : List Int) (a : Option Addr) (n c : Nat) (w : World) (hN : Dg salt) (hT : TextAt w a n c value) (hn : n ≤ 200) :
    Calls Tryz.prog 39 #[(.agg (salt.map (Value.int .u8)).toArray), .slice a n c] w fun e w' => e = .returned (.agg ((madeZ salt value).map (Value.int .u8)).toArray) ∧ Below w.heap.size w w' := by
  have HM : Hid (madeZ salt value = sumZ ([2] ++ (salt ++ value))) := hid (by unfold madeZ; rfl)
  have HD := hid (Dg.made salt value)
  have Hml := hid hT.length
  have hle := hT.le
  have hmx := hT.max
  have b1 := (Below.refl w.heap.size w).alloc (Nat.le_refl _) (.cells (salt.map (Value.int .u8)).toArray 25 (0, 0))
  have b2 := b1.alloc b1.size (.cells (byteCells 32 []) 25 (0, 0))
  have K0 := hid ((Blk.new (w := w) (n := w.heap.size) rfl (salt.map (Value.int .u8)).toArray 25).old (.cells (byteCells 32 []) 25 (0, 0)))
  have Kr0 := hid (Blk.new (w := (w.alloc (.cells (salt.map (Value.int .u8)).toArray 25 (0, 0)))) (n := w.heap.size + 1) (by simp only [World.size_alloc]) (byteCells 32 []) 25)
  have Hb := hid b2
  have HzA := hid zsize
  have hbz := b2.size
  have Hbs := hid (show w.heap.size + 1 + 1 = ((w.alloc (.cells (salt.map (Value.int .u8)).toArray 25 (0, 0))).alloc (.cells (byteCells 32 []) 25 (0, 0))).heap.size by simp only [World.size_alloc])
  have Kt := hid (hT.below b2)
  clear b1 b2 hT
  go_enter Tryz.func39, Tryz.ntmps39
  go_wp2_with fail
  refine (reftext_any 2 (by omega) _ 32 32 salt a n c value _ (hN.text K0.out) Kt.out (by omega) (by omega)).mono ?_
  rintro e w1 ⟨x, rfl, b1, ⟨ta, tl, tc, rfl, hxt⟩⟩
  have hxl := hxt.length
  simp only [List.length_append, Hml.out, hN.len, List.length_cons, List.length_nil] at hxl
  have HB1 := hid (Below.on Hb.out b1)
  have Kr1 := hid (Kr0.out.below b1)
  have HX := hid hxt
  clear b1 hxt
  go_wp2_with fail
  refine (refsum_any ta tl tc _ _ HX.out (by omega)).mono ?_
  rintro e w2 ⟨rfl, b2⟩
  have HB2 := hid (Below.on HB1.out b2)
  have Kr2 := hid (Kr1.out.below b2)
  clear b2
  rw [← HM.out]
  go_wp2_with (refine wpList_store_blk rfl 25 _ _ rfl (w.heap.size + 1) _ rfl rfl _ 25 Kr2.out 32 size_digest HzA.out HD.out.size (ints_one _ _) ?_; intro w7 hbut7 hk7)
  exact bodyPost_ret (v := (.agg ((madeZ salt value).map (Value.int .u8)).toArray)) (results_blk Tryz.results39 _ (w.heap.size + 1) rfl _ 25 hk7 _ Tryz.underlying25 rfl 32 size_digest HD.out.size) rfl ⟨rfl, hbut7.below HB2.out HB2.out.size (by omega)⟩
end Go.Proofs.YtkakoiaahgchmaaGreatDoor
namespace Go.Proofs.YtkakoiaahgchmaaGreatDoor
set_option maxRecDepth 100000
open Go.ChangeShapes Go.WideShapes Go.ChangeAt Go.RowKit
theorem OwnB.none_ {w : World} {base : Nat} {e : TypeId} {a : Option Addr} {n c : Nat} {bs : List Int} (h : OwnB w base e (.slice a n c) bs) : OwnB w base e (.slice a 0 c) [] := by
  obtain ⟨⟨h1, ⟨h2, h3⟩ | ⟨g, cap, cur, h2, hg, hh, hle, hmx, hsz, htk⟩⟩, hs⟩ := h
  · injection h2 with e1 e2 e3
    subst e1 e2 e3
    exact OwnB.nil w base e
  · injection h2 with e1 e2 e3
    subst e1 e2 e3
    exact ⟨⟨rfl, .inr ⟨g, _, cur, rfl, hg, hh, Nat.zero_le _, hmx, hsz, by simp⟩⟩, by simp⟩
theorem wpList_append_zeros {P : Program} {w : World} {base : Nat} {t e tn : TypeId} {i : TypeInfo} {v : Value} {bs : List Int} {ops : Array Oper} {rest : List Oper} {o : Oper} {A : Act} {Q : Exit → Act → World → Prop} (hgd : o.guard = none) (s x : Operand) (ho : o.op = .call { callee := .builtin .append, args := #[s, x], argTypes := #[t, tn] })
    (ht : P.underlying t = some (.slice e)) (htn : P.underlying tn = some (.int .i64)) (hi : P.info? e = some i) (hz : i.zero = some (.int .u8 0)) (hsize : i.size = 1) (hby : i.bytes = 1) (hs : A.eval s = v) (hown : OwnB w base e v bs)
    (k : Nat) (hx : A.eval x = .int .i64 k) (hb : bs.length + k ≤ 140737488355328) (hbase : base ≤ w.heap.size)
    (h : ∀ v' w', OwnB w' base e v' (bs ++ List.replicate k 0) → w.grownBy w' v.ownBlock → Below base w w' → wpList P ops Q rest (A.put o.dst v') w') : wpList P ops Q (o :: rest) A w :=
  wpList_plain hgd fun K hK => by
    obtain ⟨v', w', hr, h2, h3, h4⟩ := run_append_zeros o.type ht htn hi hz hsize hby hown k hb hbase
    unfold Oper.wp execOp
    simp only [ho, resolve, invoke, builtin, Sem.run_bind, Sem.run_pure, Result.andThen_ok, List.map_toArray, List.map_cons, List.map_nil, hs, hx, hr, Oper.upon_value]
    exact hK _ _ (h v' w' h2 h3 h4)
set_option maxHeartbeats 4000000 in
theorem grow_none_r (w : World) : Calls Tryz.prog 105 #[.slice none 0 0, .int .i64 0] w fun e w' => ∃ v, e = .returned v ∧ OwnB w' w.heap.size 5 v [] ∧ Below w.heap.size w w' := by
  go_enter Tryz.func105, Tryz.ntmps105
  go_wp2
  go_returns
  exact ⟨_, rfl, OwnB.nil w w.heap.size 5, by go_grown⟩
set_option maxHeartbeats 4000000 in
theorem grow_some (k : Nat) (w : World) (h0 : 0 < k) (hb : k ≤ 140737488355328) : Calls Tryz.prog 105 #[.slice none 0 0, .int .i64 k] w fun e w' => ∃ v, e = .returned v ∧ OwnB w' w.heap.size 5 v [] ∧ Below w.heap.size w w' := by
  obtain ⟨i0, hi, hz0, hz1, hz2⟩ := info_parts info_byte
  have q1 : ¬ (k : Int) < 0 := by omega
  have q2 : (0 : Int) < k := by omega
  have HN := hid (OwnB.nil w w.heap.size 5)
  have hw : wrap64 (k : Int) = k := by unfold wrap64; omega
  go_enter Tryz.func105, Tryz.ntmps105
  go_wp2_with (at_builtin; refine wpList_append_zeros rfl _ _ rfl Tryz.underlying37 Tryz.underlying3 hi hz0 hz1 hz2 rfl HN.out k rfl ?c1 ?c2 ?_)
  intro v4 w4 own4 g4 b4
  obtain ⟨va, vn, vc, rfl⟩ : ∃ a n c, v4 = .slice a n c := by
    obtain ⟨a, c, e, _⟩ := own4.text
    exact ⟨a, _, c, e⟩
  have HO := hid own4.none_
  have H4 := hid b4
  have hcut := fun W : World => run_cut_h (P := Tryz.prog) Tryz.underlying37 (by rw [hi]; simp [hz1]) va vn vc 0 W (by omega) (by omega)
  clear own4 g4 b4
  go_wp2_with fail
  go_returns
  exact ⟨_, rfl, HO.out, H4.out⟩
theorem grow_any (k : Nat) (w : World) (hb : k ≤ 140737488355328) : Calls Tryz.prog 105 #[.slice none 0 0, .int .i64 k] w fun e w' => ∃ v, e = .returned v ∧ OwnB w' w.heap.size 5 v [] ∧ Below w.heap.size w w' := by
  rcases Nat.eq_zero_or_pos k with rfl | h
  · exact grow_none_r w
  · exact grow_some k w h hb
set_option maxHeartbeats 4000000 in
theorem concat_any (a : Option Addr) (len cap : Nat) (ts : List (List Int)) (w : World) (hT : TextsAt w a len cap ts) (hbnd : sumLen ts ≤ 140737488355328) :
    Calls Tryz.prog 74 #[.slice a len cap] w fun e w' => ∃ v, e = .returned v ∧ Below w.heap.size w w' ∧ TextV ts.flatten v w' := by
  have hlen : ts.length = len := hT.length
  have hcp := hT.le
  have hmx := hT.max
  have HT := hid hT
  clear hT
  obtain ⟨i0, hi, hz0, hz1, hz2⟩ := info_parts info_byte
  go_enter Tryz.func74, Tryz.ntmps74
  go_wp2_with fail
  go_loopw [3, 11] (fun sv iv wr => ∃ k : Nat, k ≤ len ∧ iv = .int .i64 k ∧ sv = .int .i64 (sumLen (ts.take k) : Nat) ∧ w = wr) (fun _ i _ => len - (intOf i).toNat)
  case atStart => exact ⟨0, by omega, rfl, by simp [sumLen], rfl⟩
  case round =>
    obtain ⟨k, hk, rfl, rfl, rfl⟩ := hrel
    by_cases hlt : k < len
    · obtain ⟨r, off, a', l', c', rfl, hrl, hc, hTk⟩ := HT.out.at_ k hlt
      have e1 := sumLen_take ts k (by omega)
      have e2 := sumLen_le ts (k + 1)
      have e4 := hTk.length
      rw [e4] at e1
      have hc0 : (k : Int) < len := by omega
      have Hnext := hid (show ((sumLen (ts.take (k + 1)) : Nat) : Int) = (sumLen (ts.take k) : Nat) + (l' : Nat) by omega)
      have hnn : ¬ ((sumLen (ts.take k) : Nat) : Int) + (l' : Nat) < 0 := by omega
      have hwr : wrap64 (((sumLen (ts.take k) : Nat) : Int) + (l' : Nat)) = ((sumLen (ts.take k) : Nat) : Int) + (l' : Nat) := by unfold wrap64; omega
      clear e1 e2 e4 hTk
      generalize sumLen (ts.take k) = sk at *
      go_wp2_with fail
      exact ⟨⟨k + 1, by omega, by go_num, by rw [Hnext.out, hwr], by first | rfl | trivial⟩, by simp [intOf]; omega⟩
    · have hkl : k = len := by omega
      have hft : ts.take k = ts := List.take_of_length_le (by omega)
      rw [hft]
      have hc0 : ¬ (k : Int) < len := by omega
      go_wp2_with fail
      refine (grow_any (sumLen ts) _ hbnd).mono ?_
      rintro e w1 ⟨v1, rfl, own1, bel1⟩
      have HO1 := hid own1
      have HB1 := hid bel1
      clear own1 bel1
      go_wp2_with fail
      go_loopw [6, 27] (fun v i wr => ∃ k : Nat, k ≤ len ∧ i = .int .i64 k ∧ OwnB wr w.heap.size 5 v (ts.take k).flatten ∧ Below w.heap.size w wr) (fun _ i _ => len - (intOf i).toNat)
      case atStart => exact ⟨0, by omega, rfl, by simpa using HO1.out, HB1.out⟩
      case round =>
        obtain ⟨k, hk, rfl, hown, bel⟩ := hrel
        have Hown := hid hown
        have Hbel := hid bel
        have hsz := bel.size
        clear hown bel
        by_cases hlt : k < len
        · obtain ⟨r, off, a', l', c', rfl, hrl, hc, hTk⟩ := HT.out.at_ k hlt
          have hcw : wr.cell? ⟨r, off + k, none⟩ = some (.slice a' l' c') := (Hbel.out.cell (p := ⟨r, off + k, none⟩) hrl).trans hc
          have hTw := hid (hTk.below Hbel.out)
          have HF := hid (flatten_take ts k (by omega))
          have hsl : (ts.take k).flatten.length + l' ≤ 140737488355328 := by
            have e1 := sumLen_take ts k (by omega)
            have e2 := sumLen_le ts (k + 1)
            have e3 := flatten_length (ts.take k)
            have e4 := hTk.length
            omega
          have Hsl := hid hsl
          have hc0 : (k : Int) < len := by omega
          clear hTk hc hsl
          generalize ts.getD k [] = tk at *
          go_wp2_with (at_builtin; refine wpList_append_text rfl _ _ rfl Tryz.underlying37 hi hz0 hz1 hz2 rfl Hown.out rfl hTw.out ?c1 ?c2 ?_)
          case c1 => exact Hsl.out
          case c2 => exact hsz
          intro v4 w4 own4 g4 b4
          rw [← HF.out] at own4
          have H4 := hid (And.intro own4 (Hbel.out.trans b4))
          clear own4 g4 b4 hTw Hown
          go_wp2_with fail
          exact ⟨⟨k + 1, by omega, by go_num, H4.out.1, H4.out.2⟩, by simp [intOf]; omega⟩
        · have hkl : k = len := by omega
          have hft : (ts.take k).flatten = ts.flatten := by rw [List.take_of_length_le (by omega)]
          rw [hft] at Hown
          have hc0 : ¬ (k : Int) < len := by omega
          go_wp2_with fail
          go_returns
          exact ⟨_, rfl, Hbel.out, TextV.of_own Hown.out⟩
end Go.Proofs.YtkakoiaahgchmaaGreatDoor
namespace Go.Proofs.YtkakoiaahgchmaaGreatDoor
set_option maxRecDepth 100000
open Go.ChangeShapes Go.WideShapes Go.ChangeAt Go.RowKit
theorem size_head : (Tryz.prog.info? 29).map (·.size) = some 66 := by kernel_rfl
theorem pubC_troot {L V : Int} {root pub : List Int} {w : World} {b : Nat} {T : TypeId} (h1 : Dg root) (k : Blk w b (pubC L V root pub).toArray T) : TextAt w (some ⟨b, 2, none⟩) 32 32 root :=
  TextAt.of_blk k h1.len (Nat.le_refl _) (by omega) h1.small (fun j hj => by
    have := pubC_root k j (.int .u8 (root.getD j 0)) (by rw [List.getElem?_map, List.getElem?_eq_getElem (by rw [h1.len]; exact hj)]; simp [List.getD_eq_getElem?_getD, List.getElem?_eq_getElem (show j < root.length by rw [h1.len]; exact hj)])
    rw [← k.cell]
    exact this)
theorem pubC_tpub {L V : Int} {root pub : List Int} {w : World} {b : Nat} {T : TypeId} (h1 : Dg root) (h2 : Dg pub) (k : Blk w b (pubC L V root pub).toArray T) : TextAt w (some ⟨b, 34, none⟩) 32 32 pub :=
  TextAt.of_blk k h2.len (Nat.le_refl _) (by omega) h2.small (fun j hj => by
    have := pubC_pub h1 k j (.int .u8 (pub.getD j 0)) (by rw [List.getElem?_map, List.getElem?_eq_getElem (by rw [h2.len]; exact hj)]; simp [List.getD_eq_getElem?_getD, List.getElem?_eq_getElem (show j < pub.length by rw [h2.len]; exact hj)])
    rw [← k.cell]
    exact this)
/-- a number as one of 64 bits -/
def uZ (n : Int) : Int := n % 18446744073709551616
theorem uZ_in (n : Int) : 0 ≤ uZ n ∧ uZ n < 18446744073709551616 := by unfold uZ; omega
def headZ (k e : Int) (t l : List Int) : List Int := [1] ++ (be 8 (uZ k) ++ (be 8 (uZ e) ++ (t ++ l)))
def epochZ (e : Int) (t : List Int) : List Int := be 8 (uZ e) ++ t
def keyZ (k L V : Int) (r p : List Int) : List Int := [2] ++ (be 8 (uZ k) ++ (be 8 (uZ L) ++ (be 8 (uZ V) ++ (r ++ p))))
set_option maxHeartbeats 4000000 in
theorem wnumber_any (n : Int) (w : World) (_hn : -9223372036854775808 ≤ n ∧ n < 9223372036854775808) :
    Calls Tryz.prog 75 #[.int .i64 n] w fun e w' => ∃ v, e = .returned v ∧ Below w.heap.size w w' ∧ NumAt (uZ n) v w' := by
  have hu := uZ_in n
  have hw : IntKind.u64.wrap n = uZ n := by unfold uZ; rfl
  have CN := hid (fun W : World => number_any (uZ n) 8 8 W hu.1 hu.2 (by decide))
  have hu2 : n % 18446744073709551616 = uZ n := rfl
  go_enter Tryz.func75, Tryz.ntmps75
  go_wp2_with fail
  refine (CN.out _).mono ?_
  rintro e w1 ⟨g, hg, rfl, b1, k1⟩
  have H := hid (And.intro b1 k1)
  clear b1 k1
  go_wp2_with fail
  go_ret
  exact ⟨_, rfl, H.out.1, g, rfl, H.out.2⟩
set_option maxHeartbeats 4000000 in
theorem headtext_any (k q : Int) (t l : List Int) (w : World) (hk : -9223372036854775808 ≤ k ∧ k < 9223372036854775808) (hq : -9223372036854775808 ≤ q ∧ q < 9223372036854775808) (htd : Dg t) (hld : Dg l) :
    Calls Tryz.prog 32 #[.agg (pubC k q t l).toArray] w fun e w' => ∃ v, e = .returned v ∧ Below w.heap.size w w' ∧ TextV (headZ k q t l) v w' := by
  have Hk := hid hk
  have Hq := hid hq
  have Htd := hid htd
  have Hld := hid hld
  have b1 := (Below.refl w.heap.size w).alloc (Nat.le_refl _) (.cells (pubC k q t l).toArray 29 (0, 0))
  have Kp := hid (Blk.new (w := w) (n := w.heap.size) rfl (pubC k q t l).toArray 29)
  have Hb := hid b1
  have hbz := b1.size
  have Hbs := hid (show w.heap.size + 1 = (w.alloc (.cells (pubC k q t l).toArray 29 (0, 0))).heap.size by simp only [World.size_alloc])
  clear b1 
  go_enter Tryz.func32, Tryz.ntmps32
  go_wp2_with fail
  refine wp_region_flow 13 [1, 2, 4, 5, 7, 8, 9, 10] [0] [(.c 3, [], []), (.c 6, [], []), (.b 0, [], [11]), (.b 11, [], []), (.c 12, [], [])] (by kernel_rfl) (by kernel_rfl) ?_
  apply Exists.intro
  refine ⟨fun w0 hb0 hF0 => ?_, ?_⟩
  · skip
    have y0 : ∀ w', (∃ x : Ext w0, w' = x.at_) → w'.cell? ⟨w.heap.size, 0, none⟩ = some (.int .i64 k) := fun w' ⟨x, hx⟩ => by rw [hx, ((Kp.out.below hb0).below x.same).cell]; rfl
    have y1 : ∀ w', (∃ x : Ext w0, w' = x.at_) → w'.cell? ⟨w.heap.size, 1, none⟩ = some (.int .i64 q) := fun w' ⟨x, hx⟩ => by rw [hx, ((Kp.out.below hb0).below x.same).cell]; rfl
    simp only [pick, List.getElem?_toArray, List.getElem?_cons_succ, List.getElem?_cons_zero, Option.toList_some, List.cons_append, List.nil_append]
    repeat (first | (go_big_quiet_want; refine quiet_load_one 3 _ rfl ⟨w.heap.size, 0, none⟩ rfl _ y0 _ Tryz.underlying3 rfl ?_; go_big_quiet_on; simp only [Act.put, List.setIfInBounds_toArray, List.set_cons_zero, List.set_cons_succ]) | (go_big_quiet_want; refine quiet_load_one 3 _ rfl ⟨w.heap.size, 1, none⟩ rfl _ y1 _ Tryz.underlying3 rfl ?_; go_big_quiet_on; simp only [Act.put, List.setIfInBounds_toArray, List.set_cons_zero, List.set_cons_succ]) | go_big_quiet_step (fail))
    exact wpQuiet_nil rfl
  refine AlChk.one rfl (fun b => .slice (some ⟨b, 0, none⟩) 1 1) (.cells #[.int .u8 1] 5 (0, 0)) rfl (fun w2 hb2 hF2 => by go_simp) ?_
  refine AlChk.nil ?_
  refine Walk.call rfl 75 #[.int .i64 k] (NumAt (uZ k)) (fun v w' w'' h k => h.below k) rfl (fun w1 hb1 hF1 => ⟨by go_simp, wnumber_any k w1 Hk.out⟩) ?_
  rintro vn0 w1 hb1 hF1 ⟨g0, rfl, _⟩
  apply Exists.intro
  refine ⟨fun w2 hb2 hF2 => wpQuiet_nil rfl, ?_⟩
  refine AlChk.nil ?_
  refine Walk.call rfl 75 #[.int .i64 q] (NumAt (uZ q)) (fun v w' w'' h k => h.below k) rfl (fun w1 hb1 hF1 => ⟨by go_simp, wnumber_any q w1 Hq.out⟩) ?_
  rintro vn1 w1 hb1 hF1 ⟨g1, rfl, _⟩
  apply Exists.intro
  refine ⟨fun w2 hb2 hF2 => wpQuiet_nil rfl, ?_⟩
  refine AlChk.nil ?_
  refine Walk.blk rfl (fun b => .slice (some ⟨b, 0, none⟩) 1 1) (.cells #[.int .u8 1] 5 (0, 0)) (by simp) ?_
  intro b1 w2 hb2 hF2 hge1 _
  apply Exists.intro
  refine ⟨fun w2 hb2 hF2 => wpQuiet_nil rfl, ?_⟩
  refine AlChk.one rfl (fun b => .slice (some ⟨b, 0, none⟩) 5 5) (.cells #[.slice (some ⟨b1, 0, none⟩) 1 1, .slice (some ⟨g0, 0, none⟩) 8 8, .slice (some ⟨g1, 0, none⟩) 8 8, .slice (some ⟨w.heap.size, 2, none⟩) 32 32, .slice (some ⟨w.heap.size, 34, none⟩) 32 32] 37 (0, 0)) rfl (fun w2 hb2 hF2 => by go_simp) ?_
  refine AlChk.nil ?_
  refine Walk.blk rfl (fun b => .slice (some ⟨b, 0, none⟩) 5 5) (.cells #[.slice (some ⟨b1, 0, none⟩) 1 1, .slice (some ⟨g0, 0, none⟩) 8 8, .slice (some ⟨g1, 0, none⟩) 8 8, .slice (some ⟨w.heap.size, 2, none⟩) 32 32, .slice (some ⟨w.heap.size, 34, none⟩) 32 32] 37 (0, 0)) (by simp) ?_
  intro b9 w2 hb2 hF2 hge9 _
  apply Exists.intro
  refine ⟨fun w3 hb3 hF3 => wpQuiet_nil rfl, ?_⟩
  refine AlChk.nil ?_
  refine Walk.call rfl 74 #[.slice (some ⟨b9, 0, none⟩) 5 5] (TextV (headZ k q t l)) (fun v w' w'' h k => h.below k) rfl (fun w1 hb1 hF1 => ⟨by go_simp, ?_⟩) ?_
  · have k9 : Blk w1 b9 #[.slice (some ⟨b1, 0, none⟩) 1 1, .slice (some ⟨g0, 0, none⟩) 8 8, .slice (some ⟨g1, 0, none⟩) 8 8, .slice (some ⟨w.heap.size, 2, none⟩) 32 32, .slice (some ⟨w.heap.size, 34, none⟩) 32 32] 37 := hF1.2
    have k1 : Blk w1 b1 (([1] : List Int).map (Value.int .u8)).toArray 5 := hF1.1.2
    have n1 := hF1.1.1.2
    have n0 := hF1.1.1.1.2
    have hs := concat_any (some ⟨b9, 0, none⟩) 5 5 [[1], be 8 (uZ k), be 8 (uZ q), t, l] w1 (TextsAt.of_blk k9 rfl (Nat.le_refl _) (by omega) fun j hj => by
      match j, hj with
      | 0, _ => exact ⟨_, _, _, rfl, TextAt.of_ints k1 rfl (by omega) (by simp)⟩
      | 1, _ => exact ⟨_, _, _, rfl, n0.text⟩
      | 2, _ => exact ⟨_, _, _, rfl, n1.text⟩
      | 3, _ => exact ⟨_, _, _, rfl, pubC_troot Htd.out ((Kp.out).below hb1)⟩
      | 4, _ => exact ⟨_, _, _, rfl, pubC_tpub Htd.out Hld.out ((Kp.out).below hb1)⟩) (by simp only [sumLen, List.map_cons, List.map_nil, List.sum_cons, List.sum_nil, be_length, Htd.out.len, Hld.out.len, List.length_cons, List.length_nil]; omega)
    rw [show ([[1], be 8 (uZ k), be 8 (uZ q), t, l] : List (List Int)).flatten = (headZ k q t l) by unfold headZ; simp] at hs
    exact hs
  rintro vr w1 hb1 hF1 ⟨fa, fn, fc, rfl, _⟩
  apply Exists.intro
  refine ⟨fun w3 hb3 hF3 => wpQuiet_nil rfl, ?_⟩
  refine AlChk.nil ?_
  refine Walk.fin fun w4 h4 hF4 _ => ?_
  simp only [List.drop_succ_cons, List.drop_zero]
  have HF := hid (show TextV (headZ k q t l) (.slice fa fn fc) w4 from hF4.2)
  have HBw4 := hid (Below.on Hb.out h4)
  have hsw4 := HBw4.out.size
  have Kpw4 := hid (Kp.out.below h4)
  clear h4 hF4
  go_wp2_with fail
  go_ret
  exact ⟨_, rfl, HBw4.out, HF.out⟩
end Go.Proofs.YtkakoiaahgchmaaGreatDoor
namespace Go.Proofs.YtkakoiaahgchmaaGreatDoor
set_option maxRecDepth 100000
open Go.ChangeShapes Go.WideShapes Go.ChangeAt Go.RowKit
section
variable {P : Program} {ops : Array Oper} {rest : List Oper} {op : Oper} {a : Act} {w : World} {Q : Exit → Act → World → Prop} {t e : TypeId}
end
def eightZ (ns : List Int) : List Int := (ns.map fun x => be 8 (uZ x)).flatten
end Go.Proofs.YtkakoiaahgchmaaGreatDoor
namespace Go.Proofs.YtkakoiaahgchmaaGreatDoor
set_option maxRecDepth 100000
open Go.ChangeShapes Go.WideShapes Go.ChangeAt Go.RowKit
theorem wpList_buildv_if {P : Program} {ops : Array Oper} {rest : List Oper} {op : Oper} {a : Act} {w : World} {Q : Exit → Act → World → Prop} (hw : Region.wanted op (yielded ops a.tmps) = true) (t : TypeId) (parts : List (Nat × Operand)) (ho : op.op = .build t parts.toArray) (vs : List (Nat × Value)) (hv : (parts.map fun x => (x.1, a.eval x.2)) = vs) (v : Value) (h : ∀ w', (Instr.build t vs.toArray).run P w' = .ok v w') (hk : wpList P ops Q rest (a.put op.dst v) w) : wpList P ops Q (op :: rest) a w := by
  unfold wpList
  rw [if_pos hw]
  refine .inl ?_
  have hm : (parts.map fun (x : Nat × Operand) => match x with | (i, x) => (i, a.eval x)) = vs := hv
  unfold Oper.wp execOp
  simp only [ho, List.map_toArray, hm, Sem.run_bind, h, Result.andThen_ok, Sem.run_pure, Oper.upon_value]
  exact hk
theorem build_head0 (w : World) : (Instr.build 29 #[]).run Tryz.prog w = .ok (.agg (pubC 0 0 zD zD).toArray) w := by
  refine run_build w _ _ _ ?_
  obtain ⟨i0, hi, hz0⟩ := Option.map_eq_some_iff.1 (show (Tryz.prog.info? 29).map (·.zero) = some (some (.agg (pubC 0 0 zD zD).toArray)) by kernel_rfl)
  obtain ⟨fields, hu, hq⟩ : ∃ fields, Tryz.prog.underlying 29 = some (.struct fields) ∧ fields.toList.mapM (fun f => (Tryz.prog.info? f.type).map fun i => (f.offset, i.size)) = some [(0, 1), (1, 1), (2, 32), (34, 32)] := ⟨_, Tryz.underlying29, by kernel_rfl⟩
  have hz : (Value.agg (pubC 0 0 zD zD).toArray).cells = (pubC 0 0 zD zD).toArray := rfl
  unfold Program.built
  simp only [hi, hu, hz0, hq, hz]
  rw [Instr.fill]
theorem build_pub0 (w : World) : (Instr.build 27 #[]).run Tryz.prog w = .ok (.agg (pubC 0 0 zD zD).toArray) w := by
  refine run_build w _ _ _ ?_
  obtain ⟨i0, hi, hz0⟩ := Option.map_eq_some_iff.1 (show (Tryz.prog.info? 27).map (·.zero) = some (some (.agg (pubC 0 0 zD zD).toArray)) by kernel_rfl)
  obtain ⟨fields, hu, hq⟩ : ∃ fields, Tryz.prog.underlying 27 = some (.struct fields) ∧ fields.toList.mapM (fun f => (Tryz.prog.info? f.type).map fun i => (f.offset, i.size)) = some [(0, 2), (2, 32), (34, 32)] := ⟨_, Tryz.underlying27, by kernel_rfl⟩
  have hz : (Value.agg (pubC 0 0 zD zD).toArray).cells = (pubC 0 0 zD zD).toArray := rfl
  unfold Program.built
  simp only [hi, hu, hz0, hq, hz]
  rw [Instr.fill]
end Go.Proofs.YtkakoiaahgchmaaGreatDoor
namespace Go.Proofs.YtkakoiaahgchmaaGreatDoor
set_option maxRecDepth 100000
open Go.ChangeShapes Go.WideShapes Go.ChangeAt Go.RowKit
theorem headZ_length {k q : Int} {t l : List Int} (ht : Dg t) (hl : Dg l) : (headZ k q t l).length = 81 := by simp [headZ, be_length, ht.len, hl.len]
set_option maxHeartbeats 4000000 in
theorem vhead_any (L V i : Int) (root pub r : List Int) (k q : Int) (t l : List Int) (pa : Option Addr) (pn pc : Nat) (ps : List Prt) (w : World) (hk : -9223372036854775808 ≤ k ∧ k < 9223372036854775808) (hq : -9223372036854775808 ≤ q ∧ q < 9223372036854775808) (htd : Dg t) (hld : Dg l) (hr : Dg r) (hroot : Dg root) (hpub : Dg pub) (hP : PartsAt w pa pn pc ps) (tab : ShaTab w) :
    Calls Tryz.prog 11 #[.agg (pubC L V root pub).toArray, .agg (pubC k q t l).toArray, .agg (sigC i r (.slice pa pn pc)).toArray] w fun e w' => e = .returned (.bool (verB L V i root pub r ps (headZ k q t l))) ∧ Below w.heap.size w w' := by
  have b1 := (Below.refl w.heap.size w).alloc (Nat.le_refl _) (.cells (pubC L V root pub).toArray 27 (0, 0))
  have b2 := b1.alloc b1.size (.cells (pubC k q t l).toArray 29 (0, 0))
  have b3 := b2.alloc b2.size (.cells (sigC i r (.slice pa pn pc)).toArray 32 (0, 0))
  have Kp := hid (((Blk.new (w := w) (n := w.heap.size) rfl (pubC L V root pub).toArray 27).old (.cells (pubC k q t l).toArray 29 (0, 0))).old (.cells (sigC i r (.slice pa pn pc)).toArray 32 (0, 0)))
  have Kh := hid ((Blk.new (w := (w.alloc (.cells (pubC L V root pub).toArray 27 (0, 0)))) (n := w.heap.size + 1) (by simp only [World.size_alloc]) (pubC k q t l).toArray 29).old (.cells (sigC i r (.slice pa pn pc)).toArray 32 (0, 0)))
  have Kg := hid (Blk.new (w := ((w.alloc (.cells (pubC L V root pub).toArray 27 (0, 0))).alloc (.cells (pubC k q t l).toArray 29 (0, 0)))) (n := w.heap.size + 1 + 1) (by simp only [World.size_alloc]) (sigC i r (.slice pa pn pc)).toArray 32)
  have Hb := hid b3
  have hbz := b3.size
  have Hbs := hid (show w.heap.size + 1 + 1 + 1 = (((w.alloc (.cells (pubC L V root pub).toArray 27 (0, 0))).alloc (.cells (pubC k q t l).toArray 29 (0, 0))).alloc (.cells (sigC i r (.slice pa pn pc)).toArray 32 (0, 0))).heap.size by simp only [World.size_alloc])
  have Htab := hid tab
  clear b1 b2 b3 tab 
  have HZL := hid (headZ_length (k := k) (q := q) htd hld)
  go_enter Tryz.func11, Tryz.ntmps11
  go_wp2_with fail
  refine wp_region_flow 6 [0, 1, 2] [] [(.c 3, [], [4]), (.b 4, [], []), (.c 5, [], [])] (by kernel_rfl) (by kernel_rfl) ?_
  apply Exists.intro
  refine ⟨fun w0 hb0 hF0 => ?_, ?_⟩
  · skip
    have x0 : ∀ w', (∃ x : Ext w0, w' = x.at_) → ∃ T, Blk w' (w.heap.size) (pubC L V root pub).toArray T := fun w' ⟨x, hx⟩ => ⟨_, hx ▸ (Kp.out.below hb0).below x.same⟩
    have x1 : ∀ w', (∃ x : Ext w0, w' = x.at_) → ∃ T, Blk w' (w.heap.size + 1 + 1) (sigC i r (.slice pa pn pc)).toArray T := fun w' ⟨x, hx⟩ => ⟨_, hx ▸ (Kg.out.below hb0).below x.same⟩
    have x2 : ∀ w', (∃ x : Ext w0, w' = x.at_) → ∃ T, Blk w' (w.heap.size + 1) (pubC k q t l).toArray T := fun w' ⟨x, hx⟩ => ⟨_, hx ▸ (Kh.out.below hb0).below x.same⟩
    simp only [pick, List.getElem?_toArray, List.getElem?_cons_succ, List.getElem?_cons_zero, Option.toList_some, List.cons_append, List.nil_append]
    repeat (first | (go_big_quiet_want; refine quiet_load_blk 27 _ rfl (w.heap.size) rfl _ x0 _ Tryz.underlying27 rfl 66 size_public (pubC_size hroot hpub) ?_; go_big_quiet_on; simp only [Act.put, List.setIfInBounds_toArray, List.set_cons_zero, List.set_cons_succ]) | (go_big_quiet_want; refine quiet_load_blk 32 _ rfl (w.heap.size + 1 + 1) rfl _ x1 _ Tryz.underlying32 rfl 34 size_sig (sigC_size hr) ?_; go_big_quiet_on; simp only [Act.put, List.setIfInBounds_toArray, List.set_cons_zero, List.set_cons_succ]) | (go_big_quiet_want; refine quiet_load_blk 29 _ rfl (w.heap.size + 1) rfl _ x2 _ Tryz.underlying29 rfl 66 size_head (pubC_size htd hld) ?_; go_big_quiet_on; simp only [Act.put, List.setIfInBounds_toArray, List.set_cons_zero, List.set_cons_succ]) | go_big_quiet_step (fail))
    exact wpQuiet_nil rfl
  refine AlChk.nil ?_
  refine Walk.call rfl 32 #[.agg (pubC k q t l).toArray] (TextV (headZ k q t l)) (fun v w' w'' h k => h.below k) rfl (fun w1 hb1 hF1 => ⟨by go_simp, headtext_any k q t l w1 hk hq htd hld⟩) ?_
  rintro vt w1 hb1 hF1 ⟨fa, fn, fc, rfl, _⟩
  apply Exists.intro
  refine ⟨fun w2 hb2 hF2 => wpQuiet_nil rfl, ?_⟩
  refine AlChk.one rfl (fun b => .slice (some ⟨b, 0, none⟩) 1 1) (.cells #[.slice fa fn fc] 37 (0, 0)) rfl (fun w2 hb2 hF2 => by go_simp) ?_
  refine AlChk.nil ?_
  refine Walk.blk rfl (fun b => .slice (some ⟨b, 0, none⟩) 1 1) (.cells #[.slice fa fn fc] 37 (0, 0)) (by simp) ?_
  intro b9 w2 hb2 hF2 hge9 _
  apply Exists.intro
  refine ⟨fun w3 hb3 hF3 => wpQuiet_nil rfl, ?_⟩
  refine AlChk.nil ?_
  refine Walk.call rfl 31 #[.agg (pubC L V root pub).toArray, .agg (sigC i r (.slice pa pn pc)).toArray, .slice (some ⟨b9, 0, none⟩) 1 1] (fun v _ => v = .bool (verB L V i root pub r ps (headZ k q t l))) (fun _ _ _ h _ => h) rfl (fun w1 hb1 hF1 => ⟨by go_simp, ?_⟩) ?_
  · have k9 : Blk w1 b9 #[.slice fa fn fc] 37 := hF1.2
    have ht : TextAt w1 fa fn fc (headZ k q t l) := (show TextV (headZ k q t l) (.slice fa fn fc) w1 from hF1.1.2).text
    have hs := verify_b L V i root pub r pa pn pc ps (some ⟨b9, 0, none⟩) 1 1 [(headZ k q t l)] w1 hr hroot hpub (hP.below (Hb.out.trans (hb1.mono Hb.out.size))) (TextsAt.of_blk k9 rfl (Nat.le_refl _) (by omega) fun j hj => by
      match j, hj with
      | 0, _ => exact ⟨_, _, _, rfl, ht⟩) (by omega) (by simp only [sumLen, List.map_cons, List.map_nil, List.sum_cons, List.sum_nil]; rw [HZL.out]; omega) (Htab.out.below (Hb.out.trans (hb1.mono Hb.out.size)))
    rw [show ([(headZ k q t l)] : List (List Int)).flatten = (headZ k q t l) by simp] at hs
    refine hs.mono ?_
    rintro e w' ⟨rfl, b⟩
    exact ⟨_, rfl, b, rfl⟩
  rintro vb w1 hb1 hF1 rfl
  apply Exists.intro
  refine ⟨fun w3 hb3 hF3 => wpQuiet_nil rfl, ?_⟩
  refine AlChk.nil ?_
  refine Walk.fin fun w4 h4 hF4 _ => ?_
  simp only [List.drop_succ_cons, List.drop_zero]
  have HBw4 := hid (Below.on Hb.out h4)
  have hsw4 := HBw4.out.size
  have Kpw4 := hid (Kp.out.below h4)
  have Khw4 := hid (Kh.out.below h4)
  have Kgw4 := hid (Kg.out.below h4)
  clear h4 hF4
  go_wp2_with fail
  go_returns
  exact ⟨rfl, HBw4.out⟩
set_option maxHeartbeats 4000000 in
theorem vgrows_any (k q k2 q2 : Int) (t l t2 l2 : List Int) (ya : Option Addr) (yn yc : Nat) (ds : List (List Int)) (B : Bool) (w : World) (htd : Dg t) (hld : Dg l) (ht2 : Dg t2) (hl2 : Dg l2) (hD : DigsAt w ya yn yc ds) (tab : ShaTab w)
    (hG : ∀ W : World, DigsAt W ya yn yc ds → ShaTab W → Calls Tryz.prog 34 #[.agg (l.map (Value.int .u8)).toArray, .int .i64 q, .agg (l2.map (Value.int .u8)).toArray, .int .i64 q2, .slice ya yn yc] W fun e w' => e = .returned (.bool B) ∧ Below W.heap.size W w') :
    Calls Tryz.prog 13 #[.agg (pubC k q t l).toArray, .agg (pubC k2 q2 t2 l2).toArray, .slice ya yn yc] w fun e w' => e = .returned (.bool B) ∧ Below w.heap.size w w' := by
  have b1 := (Below.refl w.heap.size w).alloc (Nat.le_refl _) (.cells (pubC k q t l).toArray 29 (0, 0))
  have b2 := b1.alloc b1.size (.cells (pubC k2 q2 t2 l2).toArray 29 (0, 0))
  have Ka := hid ((Blk.new (w := w) (n := w.heap.size) rfl (pubC k q t l).toArray 29).old (.cells (pubC k2 q2 t2 l2).toArray 29 (0, 0)))
  have Kb := hid (Blk.new (w := (w.alloc (.cells (pubC k q t l).toArray 29 (0, 0)))) (n := w.heap.size + 1) (by simp only [World.size_alloc]) (pubC k2 q2 t2 l2).toArray 29)
  have Hb := hid b2
  have hbz := b2.size
  have Hbs := hid (show w.heap.size + 1 + 1 = ((w.alloc (.cells (pubC k q t l).toArray 29 (0, 0))).alloc (.cells (pubC k2 q2 t2 l2).toArray 29 (0, 0))).heap.size by simp only [World.size_alloc])
  have Htab := hid tab
  clear b1 b2 tab 
  go_enter Tryz.func13, Tryz.ntmps13
  have ca1 : ((w.alloc (.cells (pubC k q t l).toArray 29 (0, 0))).alloc (.cells (pubC k2 q2 t2 l2).toArray 29 (0, 0))).cell? ⟨w.heap.size, 1, none⟩ = some (.int .i64 q) := by rw [Ka.out.cell]; rfl
  have cb1 : ((w.alloc (.cells (pubC k q t l).toArray 29 (0, 0))).alloc (.cells (pubC k2 q2 t2 l2).toArray 29 (0, 0))).cell? ⟨w.heap.size + 1, 1, none⟩ = some (.int .i64 q2) := by rw [Kb.out.cell]; rfl
  go_wp2_with (first
     | (refine wpList_load_mid rfl 25 _ rfl (w.heap.size) 34 rfl _ _ (pubC_pub htd Ka.out) Tryz.underlying25 rfl (by rw [List.length_map, hld.len]; exact size_digest) ?_)
     | (refine wpList_load_mid rfl 25 _ rfl (w.heap.size + 1) 34 rfl _ _ (pubC_pub ht2 Kb.out) Tryz.underlying25 rfl (by rw [List.length_map, hl2.len]; exact size_digest) ?_))
  refine (hG _ (hD.below Hb.out) (Htab.out.below Hb.out)).mono ?_
  rintro e w1 ⟨rfl, bw1⟩
  have HBw1 := hid (Below.on Hb.out bw1)
  have hsw1 := HBw1.out.size
  have Kaw1 := hid (Ka.out.below bw1)
  have Kbw1 := hid (Kb.out.below bw1)
  clear bw1
  go_wp2_with fail
  go_returns
  exact ⟨rfl, HBw1.out⟩
end Go.Proofs.YtkakoiaahgchmaaGreatDoor
namespace Go.Proofs.YtkakoiaahgchmaaGreatDoor
set_option maxRecDepth 100000
open Go.ChangeShapes Go.WideShapes Go.ChangeAt Go.RowKit
/-- An answer's cells. -/
def ansC (s : Value) (n d : List Int) (v : Value) : List Value := s :: (n.map (Value.int .u8) ++ prC d v)
theorem ansC_size {s : Value} {n d : List Int} {v : Value} (hn : Dg n) (hd : Dg d) : (ansC s n d v).toArray.size = 66 := by simp [ansC, prC, hn.len, hd.len]
theorem size_answer : (Tryz.prog.info? 49).map (·.size) = some 66 := by kernel_rfl
theorem ansC_next {s : Value} {n d : List Int} {v : Value} {w : World} {b : Nat} {T : TypeId} (k : Blk w b (ansC s n d v).toArray T) : w.rangeAt b 1 (n.map (Value.int .u8)) := fun j u hu => by
  have hj : j < n.length := by have := (List.getElem?_eq_some_iff.1 hu).1; simpa using this
  rw [Nat.add_comm, k.cell, List.getElem?_toArray, ← hu]
  unfold ansC
  rw [List.getElem?_cons_succ, List.getElem?_append_left (by simpa using hj)]
set_option maxHeartbeats 4000000 in
theorem all_lookup (g : Nat) (p00 p10 p11 p12 p20 p21 p22 p23 : Value) (b0 b1 b2 : Bool) (w : World) (kg : Blk w g #[.func (.func 50) #[] #[p00], .func (.func 51) #[] #[p10, p11, p12], .func (.func 53) #[] #[p20, p21, p22, p23]] 35) (h0 : ∀ W : World, Below w.heap.size w W → Calls Tryz.prog 50 #[p00] W fun e w' => e = .returned (.bool b0) ∧ Below W.heap.size W w') (h1 : ∀ W : World, Below w.heap.size w W → Calls Tryz.prog 51 #[p10, p11, p12] W fun e w' => e = .returned (.bool b1) ∧ Below W.heap.size W w') (h2 : ∀ W : World, Below w.heap.size w W → Calls Tryz.prog 53 #[p20, p21, p22, p23] W fun e w' => e = .returned (.bool b2) ∧ Below W.heap.size W w') :
    Calls Tryz.prog 41 #[.slice (some ⟨g, 0, none⟩) 3 3] w fun e w' => e = .returned (.bool (b0 && (b1 && b2))) ∧ Below w.heap.size w w' := by
  have Hb := hid (Below.refl w.heap.size w)
  have Kg := hid kg
  have hgl := kg.lt
  have H0 := hid h0
  have H1 := hid h1
  have H2 := hid h2
  clear kg h0 h1 h2
  go_enter Tryz.func41, Tryz.ntmps41
  go_wp2_with fail
  go_loopw [7] (fun iv wr => ∃ k : Nat, k ≤ 3 ∧ iv = .int .i64 k ∧ (k ≥ 1 → b0 = true) ∧ (k ≥ 2 → b1 = true) ∧ (k ≥ 3 → b2 = true) ∧ Below w.heap.size w wr) (fun iv _ => 3 - (intOf iv).toNat)
  case atStart => exact ⟨0, Nat.zero_le _, rfl, fun h => absurd h (by omega), fun h => absurd h (by omega), fun h => absurd h (by omega), Hb.out⟩
  case round =>
    obtain ⟨k, hk, rfl, q0, q1, q2, bel⟩ := hrel
    have HBwr := hid bel
    have kgr := Kg.out.below bel
    clear bel
    rcases (show k = 0 ∨ k = 1 ∨ k = 2 ∨ k = 3 by omega) with rfl | rfl | rfl | rfl
    · skip
      have cg : wr.cell? ⟨g, 0, none⟩ = some (.func (.func 50) #[] #[p00]) := by rw [kgr.cell]; rfl
      clear kgr
      go_wp2_with fail
      refine (H0.out _ HBwr.out).mono ?_
      rintro e w1 ⟨rfl, b1w⟩
      have HB1 := hid (Below.on HBwr.out b1w)
      clear b1w
      cases hb : b0 with
      | true =>
        go_wp2_with fail
        exact ⟨⟨1, by omega, by first | rfl | simp, fun _ => hb, fun h => absurd h (by omega), fun h => absurd h (by omega), HB1.out⟩, by simp [intOf]⟩
      | false =>
        go_wp2_with fail
        go_returns
        exact ⟨by simp [hb], HB1.out⟩
    · skip
      have cg : wr.cell? ⟨g, 1, none⟩ = some (.func (.func 51) #[] #[p10, p11, p12]) := by rw [kgr.cell]; rfl
      clear kgr
      go_wp2_with fail
      refine (H1.out _ HBwr.out).mono ?_
      rintro e w1 ⟨rfl, b1w⟩
      have HB1 := hid (Below.on HBwr.out b1w)
      clear b1w
      cases hb : b1 with
      | true =>
        go_wp2_with fail
        exact ⟨⟨2, by omega, by first | rfl | simp, fun _ => q0 (by omega), fun h => hb, fun h => absurd h (by omega), HB1.out⟩, by simp [intOf]⟩
      | false =>
        go_wp2_with fail
        go_returns
        exact ⟨by simp [hb], HB1.out⟩
    · skip
      have cg : wr.cell? ⟨g, 2, none⟩ = some (.func (.func 53) #[] #[p20, p21, p22, p23]) := by rw [kgr.cell]; rfl
      clear kgr
      go_wp2_with fail
      refine (H2.out _ HBwr.out).mono ?_
      rintro e w1 ⟨rfl, b1w⟩
      have HB1 := hid (Below.on HBwr.out b1w)
      clear b1w
      cases hb : b2 with
      | true =>
        go_wp2_with fail
        exact ⟨⟨3, by omega, by first | rfl | simp, fun _ => q0 (by omega), fun h => q1 (by omega), fun h => hb, HB1.out⟩, by simp [intOf]⟩
      | false =>
        go_wp2_with fail
        go_returns
        exact ⟨by simp [hb], HB1.out⟩
    · skip
      clear kgr
      go_wp2_with fail
      go_returns
      exact ⟨by rw [q0 (by omega), q1 (by omega), q2 (by omega)]; rfl, HBwr.out⟩
set_option maxHeartbeats 4000000 in
theorem ends_none (t n d : List Int) (s v : Value) (last : Int) (w : World) (_ht : Dg t) (hn : Dg n) (_hd : Dg d) :
    Calls Tryz.prog 54 #[.agg (t.map (Value.int .u8)).toArray, .slice none 0 0, .int .i64 last, .agg (ansC s n d v).toArray] w fun e w' => e = .returned (.bool false) ∧ Below w.heap.size w w' := by
  have b1 := (Below.refl w.heap.size w).alloc (Nat.le_refl _) (.cells (t.map (Value.int .u8)).toArray 25 (0, 0))
  have b2 := b1.alloc b1.size (.cells (ansC s n d v).toArray 49 (0, 0))
  have Kt := hid ((Blk.new (w := w) (n := w.heap.size) rfl (t.map (Value.int .u8)).toArray 25).old (.cells (ansC s n d v).toArray 49 (0, 0)))
  have Ka := hid (Blk.new (w := (w.alloc (.cells (t.map (Value.int .u8)).toArray 25 (0, 0)))) (n := w.heap.size + 1) (by simp only [World.size_alloc]) (ansC s n d v).toArray 49)
  have Hb := hid b2
  have hbz := b2.size
  have Hbs := hid (show w.heap.size + 1 + 1 = ((w.alloc (.cells (t.map (Value.int .u8)).toArray 25 (0, 0))).alloc (.cells (ansC s n d v).toArray 49 (0, 0))).heap.size by simp only [World.size_alloc])
  clear b1 b2 
  go_enter Tryz.func54, Tryz.ntmps54
  have hwb : (0 = 0 ∨ 64 < 0) ∨ wrap64 (last + 1) < 1 := .inl (.inl rfl)
  go_wp2_with (refine wpList_load_mid rfl 25 _ rfl (w.heap.size + 1) 1 rfl _ _ (ansC_next Ka.out) Tryz.underlying25 rfl (by rw [List.length_map, hn.len]; exact size_digest) ?_)
  refine (cfrom_bad n _ none 0 0 _ hn (.inl (.inl rfl))).mono ?_
  rintro e w1 ⟨rfl, bw1⟩
  have HBw1 := hid (Below.on Hb.out bw1)
  have hsw1 := HBw1.out.size
  have Ktw1 := hid (Kt.out.below bw1)
  have Kaw1 := hid (Ka.out.below bw1)
  clear bw1
  go_wp2_with (
        refine wpList_store_blk rfl 25 _ _ rfl (w1.heap.size) (zD.map (Value.int .u8)).toArray rfl rfl _ 25 (Blk.new rfl (byteCells 32 []) _) 32 size_digest zsize Dg.zero.size (ints_one _ _) ?_
        intro w2 hbw2 hkw2
        have hw2 := hbw2.below ((Below.refl w1.heap.size w1).alloc (Nat.le_refl _) _) (by simp only [World.size_alloc]; omega) (Nat.le_refl _)
        have HBw2 := hid (Below.on HBw1.out hw2)
        have hsw2 := HBw2.out.size
        have Ktw2 := hid (Ktw1.out.below hw2)
        have hltw2 := Ktw1.out.lt
        have Kaw2 := hid (Kaw1.out.below hw2)
        have hlaw2 := Kaw1.out.lt
        have Kzw2 := hid hkw2
        have hfw2 : w.heap.size ≤ w1.heap.size := HBw1.out.size
        clear hbw2 hkw2 hw2)
  go_returns
  exact ⟨rfl, HBw2.out⟩
set_option maxHeartbeats 4000000 in
theorem shown_nil (t : List Int) (a : Value) (w : World) (_ht : Dg t) :
    Calls Tryz.prog 52 #[.agg (t.map (Value.int .u8)).toArray, a, .slice none 0 0] w fun e w' => e = .returned (.bool true) ∧ Below w.heap.size w w' := by
  have b1 := (Below.refl w.heap.size w).alloc (Nat.le_refl _) (.cells (t.map (Value.int .u8)).toArray 25 (0, 0))
  have Kt := hid (Blk.new (w := w) (n := w.heap.size) rfl (t.map (Value.int .u8)).toArray 25)
  have Hb := hid b1
  have hbz := b1.size
  have Hbs := hid (show w.heap.size + 1 = (w.alloc (.cells (t.map (Value.int .u8)).toArray 25 (0, 0))).heap.size by simp only [World.size_alloc])
  clear b1 
  go_enter Tryz.func52, Tryz.ntmps52
  go_wp2_with fail
  go_loopw [11] (fun iv wr => iv = .int .i64 0 ∧ Below w.heap.size w wr) (fun _ _ => 0)
  case atStart => exact ⟨rfl, Hb.out⟩
  case round =>
    obtain ⟨rfl, bel⟩ := hrel
    have HBwr := hid bel
    clear bel
    go_wp2_with fail
    go_returns
    exact ⟨rfl, HBwr.out⟩
end Go.Proofs.YtkakoiaahgchmaaGreatDoor
namespace Go.Proofs.YtkakoiaahgchmaaGreatDoor
set_option maxRecDepth 100000
open Go.ChangeShapes Go.WideShapes Go.ChangeAt Go.RowKit
/-- An answer of nothing. -/
def zAns : List Value := ansC (.slice none 0 0) zD zD (.slice none 0 0)
theorem zAns_size : zAns.toArray.size = 66 := ansC_size Dg.zero Dg.zero
set_option maxHeartbeats 4000000 in
theorem look1 (bt bn bl ba : Nat) (w : World) (kt : Blk w bt (zD.map (Value.int .u8)).toArray 25) (kn : Blk w bn #[.slice none 0 0] 37) (kl : Blk w bl #[.int .i64 0] 3) (ka : Blk w ba zAns.toArray 49) :
    Calls Tryz.prog 50 #[.pointer (some ⟨ba, 0, none⟩)] w fun e w' => e = .returned (.bool true) ∧ Below w.heap.size w w' := by
  have Hb := hid (Below.refl w.heap.size w)
  have Kt := hid kt
  have Ka := hid ka
  have ca : w.cell? ⟨ba, 0, none⟩ = some (.slice none 0 0) := by rw [ka.cell]; rfl
  have cn : w.cell? ⟨bn, 0, none⟩ = some (.slice none 0 0) := by rw [kn.cell]; rfl
  have cl : w.cell? ⟨bl, 0, none⟩ = some (.int .i64 0) := by rw [kl.cell]; rfl
  clear kt ka kn kl
  go_enter Tryz.func50, Tryz.ntmps50
  go_wp2_with fail
  go_returns
  exact ⟨by first | rfl | simp, Hb.out⟩
set_option maxHeartbeats 4000000 in
theorem look2 (bt bn bl ba : Nat) (w : World) (kt : Blk w bt (zD.map (Value.int .u8)).toArray 25) (kn : Blk w bn #[.slice none 0 0] 37) (kl : Blk w bl #[.int .i64 0] 3) (ka : Blk w ba zAns.toArray 49) :
    Calls Tryz.prog 51 #[.pointer (some ⟨bt, 0, none⟩), .pointer (some ⟨bn, 0, none⟩), .pointer (some ⟨ba, 0, none⟩)] w fun e w' => e = .returned (.bool true) ∧ Below w.heap.size w w' := by
  have Hb := hid (Below.refl w.heap.size w)
  have Kt := hid kt
  have Ka := hid ka
  have ca : w.cell? ⟨ba, 0, none⟩ = some (.slice none 0 0) := by rw [ka.cell]; rfl
  have cn : w.cell? ⟨bn, 0, none⟩ = some (.slice none 0 0) := by rw [kn.cell]; rfl
  have cl : w.cell? ⟨bl, 0, none⟩ = some (.int .i64 0) := by rw [kl.cell]; rfl
  clear kt ka kn kl
  go_enter Tryz.func51, Tryz.ntmps51
  go_wp2_with (first
     | (refine wpList_load_blk rfl 25 _ rfl (bt) rfl _ 25 Kt.out _ Tryz.underlying25 rfl 32 size_digest Dg.zero.size ?_)
     | (refine wpList_load_blk rfl 49 _ rfl (ba) rfl _ 49 Ka.out _ Tryz.underlying49 rfl 66 size_answer zAns_size ?_))
  refine (shown_nil zD (.slice none 0 0) _ Dg.zero).mono ?_
  rintro e w1 ⟨rfl, bw1⟩
  have HBw1 := hid (Below.on Hb.out bw1)
  have hsw1 := HBw1.out.size
  have Ktw1 := hid (Kt.out.below bw1)
  have Kaw1 := hid (Ka.out.below bw1)
  clear bw1
  go_wp2_with fail
  go_returns
  exact ⟨by first | rfl | simp, HBw1.out⟩
set_option maxHeartbeats 4000000 in
theorem look3 (bt bn bl ba : Nat) (w : World) (kt : Blk w bt (zD.map (Value.int .u8)).toArray 25) (kn : Blk w bn #[.slice none 0 0] 37) (kl : Blk w bl #[.int .i64 0] 3) (ka : Blk w ba zAns.toArray 49) :
    Calls Tryz.prog 53 #[.pointer (some ⟨bt, 0, none⟩), .pointer (some ⟨bn, 0, none⟩), .pointer (some ⟨bl, 0, none⟩), .pointer (some ⟨ba, 0, none⟩)] w fun e w' => e = .returned (.bool false) ∧ Below w.heap.size w w' := by
  have Hb := hid (Below.refl w.heap.size w)
  have Kt := hid kt
  have Ka := hid ka
  have ca : w.cell? ⟨ba, 0, none⟩ = some (.slice none 0 0) := by rw [ka.cell]; rfl
  have cn : w.cell? ⟨bn, 0, none⟩ = some (.slice none 0 0) := by rw [kn.cell]; rfl
  have cl : w.cell? ⟨bl, 0, none⟩ = some (.int .i64 0) := by rw [kl.cell]; rfl
  clear kt ka kn kl
  go_enter Tryz.func53, Tryz.ntmps53
  go_wp2_with (first
     | (refine wpList_load_blk rfl 25 _ rfl (bt) rfl _ 25 Kt.out _ Tryz.underlying25 rfl 32 size_digest Dg.zero.size ?_)
     | (refine wpList_load_blk rfl 49 _ rfl (ba) rfl _ 49 Ka.out _ Tryz.underlying49 rfl 66 size_answer zAns_size ?_))
  refine (ends_none zD zD zD (.slice none 0 0) (.slice none 0 0) 0 _ Dg.zero Dg.zero Dg.zero).mono ?_
  rintro e w1 ⟨rfl, bw1⟩
  have HBw1 := hid (Below.on Hb.out bw1)
  have hsw1 := HBw1.out.size
  have Ktw1 := hid (Kt.out.below bw1)
  have Kaw1 := hid (Ka.out.below bw1)
  clear bw1
  go_wp2_with fail
  go_returns
  exact ⟨by first | rfl | simp, HBw1.out⟩
set_option maxHeartbeats 4000000 in
theorem vlookup_none (w : World) :
    Calls Tryz.prog 18 #[.agg (zD.map (Value.int .u8)).toArray, .slice none 0 0, .agg zAns.toArray] w fun e w' => e = .returned (.bool false) ∧ Below w.heap.size w w' := by
  have b1 := (Below.refl w.heap.size w).alloc (Nat.le_refl _) (.cells (zD.map (Value.int .u8)).toArray 25 (0, 0))
  have b2 := b1.alloc b1.size (.cells #[.slice none 0 0] 37 (0, 0))
  have b3 := b2.alloc b2.size (.cells zAns.toArray 49 (0, 0))
  have Kt := hid (((Blk.new (w := w) (n := w.heap.size) rfl (zD.map (Value.int .u8)).toArray 25).old (.cells #[.slice none 0 0] 37 (0, 0))).old (.cells zAns.toArray 49 (0, 0)))
  have Kn := hid ((Blk.new (w := (w.alloc (.cells (zD.map (Value.int .u8)).toArray 25 (0, 0)))) (n := w.heap.size + 1) (by simp only [World.size_alloc]) #[.slice none 0 0] 37).old (.cells zAns.toArray 49 (0, 0)))
  have Ka := hid (Blk.new (w := ((w.alloc (.cells (zD.map (Value.int .u8)).toArray 25 (0, 0))).alloc (.cells #[.slice none 0 0] 37 (0, 0)))) (n := w.heap.size + 1 + 1) (by simp only [World.size_alloc]) zAns.toArray 49)
  have Hb := hid b3
  have hbz := b3.size
  have Hbs := hid (show w.heap.size + 1 + 1 + 1 = (((w.alloc (.cells (zD.map (Value.int .u8)).toArray 25 (0, 0))).alloc (.cells #[.slice none 0 0] 37 (0, 0))).alloc (.cells zAns.toArray 49 (0, 0))).heap.size by simp only [World.size_alloc])
  clear b1 b2 b3 
  have ca : (((w.alloc (.cells (zD.map (Value.int .u8)).toArray 25 (0, 0))).alloc (.cells #[.slice none 0 0] 37 (0, 0))).alloc (.cells zAns.toArray 49 (0, 0))).cell? ⟨w.heap.size + 1 + 1, 0, none⟩ = some (.slice none 0 0) := by rw [Ka.out.cell]; rfl
  go_enter Tryz.func18, Tryz.ntmps18
  have Hbl := hid (Hb.out.alloc Hb.out.size (.cells #[.int .i64 0] 3 (0, 0)))
  have Ktl := hid (Kt.out.old (.cells #[.int .i64 0] 3 (0, 0)))
  have Knl := hid (Kn.out.old (.cells #[.int .i64 0] 3 (0, 0)))
  have Kal := hid (Ka.out.old (.cells #[.int .i64 0] 3 (0, 0)))
  have Kll := hid (Blk.new (w := (((w.alloc (.cells (zD.map (Value.int .u8)).toArray 25 (0, 0))).alloc (.cells #[.slice none 0 0] 37 (0, 0))).alloc (.cells zAns.toArray 49 (0, 0)))) (n := w.heap.size + 1 + 1 + 1) Hbs.out.symm #[.int .i64 0] 3)
  have cal : ((((w.alloc (.cells (zD.map (Value.int .u8)).toArray 25 (0, 0))).alloc (.cells #[.slice none 0 0] 37 (0, 0))).alloc (.cells zAns.toArray 49 (0, 0))).alloc (.cells #[.int .i64 0] 3 (0, 0))).cell? ⟨w.heap.size + 1 + 1, 0, none⟩ = some (.slice none 0 0) := by rw [Kal.out.cell]; rfl
  go_wp2_with fail
  go_loopw [13] (fun iv wr => iv = .int .i64 0 ∧ Blk wr w.heap.size (zD.map (Value.int .u8)).toArray 25 ∧ Blk wr (w.heap.size + 1) #[.slice none 0 0] 37 ∧ Blk wr (w.heap.size + 1 + 1) zAns.toArray 49 ∧ Blk wr (w.heap.size + 1 + 1 + 1) #[.int .i64 0] 3 ∧ Below w.heap.size w wr) (fun _ _ => 0)
  case atStart => exact ⟨rfl, Ktl.out, Knl.out, Kal.out, Kll.out, Hbl.out⟩
  case round =>
    obtain ⟨rfl, kt, kn, ka, kl, bel⟩ := hrel
    have Kt1 := hid kt
    have Kn1 := hid kn
    have Ka1 := hid ka
    have Kl1 := hid kl
    have HBwr := hid bel
    clear kt kn ka kl bel
    go_wp2_with fail
    have ball := hid (HBwr.out.alloc HBwr.out.size (.cells #[.func (.func 50) #[] #[.pointer (some ⟨(w.heap.size + 1 + 1), 0, none⟩)], .func (.func 51) #[] #[.pointer (some ⟨w.heap.size, 0, none⟩), .pointer (some ⟨(w.heap.size + 1), 0, none⟩), .pointer (some ⟨(w.heap.size + 1 + 1), 0, none⟩)], .func (.func 53) #[] #[.pointer (some ⟨w.heap.size, 0, none⟩), .pointer (some ⟨(w.heap.size + 1), 0, none⟩), .pointer (some ⟨(w.heap.size + 1 + 1 + 1), 0, none⟩), .pointer (some ⟨(w.heap.size + 1 + 1), 0, none⟩)]] 35 (0, 0)))
    have KT := Kt1.out.old (.cells #[.func (.func 50) #[] #[.pointer (some ⟨(w.heap.size + 1 + 1), 0, none⟩)], .func (.func 51) #[] #[.pointer (some ⟨w.heap.size, 0, none⟩), .pointer (some ⟨(w.heap.size + 1), 0, none⟩), .pointer (some ⟨(w.heap.size + 1 + 1), 0, none⟩)], .func (.func 53) #[] #[.pointer (some ⟨w.heap.size, 0, none⟩), .pointer (some ⟨(w.heap.size + 1), 0, none⟩), .pointer (some ⟨(w.heap.size + 1 + 1 + 1), 0, none⟩), .pointer (some ⟨(w.heap.size + 1 + 1), 0, none⟩)]] 35 (0, 0))
    refine (all_lookup wr.heap.size _ _ _ _ _ _ _ _ true true false _ (Blk.new (w := wr) rfl _ 35) (fun W hW => look1 w.heap.size (w.heap.size + 1) (w.heap.size + 1 + 1 + 1) (w.heap.size + 1 + 1) W (KT.below hW) ((Kn1.out.old _).below hW) ((Kl1.out.old _).below hW) ((Ka1.out.old _).below hW)) (fun W hW => look2 w.heap.size (w.heap.size + 1) (w.heap.size + 1 + 1 + 1) (w.heap.size + 1 + 1) W (KT.below hW) ((Kn1.out.old _).below hW) ((Kl1.out.old _).below hW) ((Ka1.out.old _).below hW)) (fun W hW => look3 w.heap.size (w.heap.size + 1) (w.heap.size + 1 + 1 + 1) (w.heap.size + 1 + 1) W (KT.below hW) ((Kn1.out.old _).below hW) ((Kl1.out.old _).below hW) ((Ka1.out.old _).below hW))).mono ?_
    rintro e w5 ⟨rfl, b5⟩
    have HB5 := hid (Below.on ball.out b5)
    clear b5 ball KT
    go_wp2_with fail
    go_returns
    exact ⟨by first | rfl | simp, HB5.out⟩
theorem build_sig0 (w : World) : (Instr.build 32 #[]).run Tryz.prog w = .ok (.agg zSig.toArray) w := by
  refine run_build w _ _ _ ?_
  obtain ⟨i0, hi, hz0⟩ := Option.map_eq_some_iff.1 (show (Tryz.prog.info? 32).map (·.zero) = some (some (.agg zSig.toArray)) by kernel_rfl)
  obtain ⟨fields, hu, hq⟩ : ∃ fields, Tryz.prog.underlying 32 = some (.struct fields) ∧ fields.toList.mapM (fun f => (Tryz.prog.info? f.type).map fun i => (f.offset, i.size)) = some [(0, 1), (1, 32), (33, 1)] := ⟨_, Tryz.underlying32, by kernel_rfl⟩
  have hz : (Value.agg zSig.toArray).cells = zSig.toArray := rfl
  unfold Program.built
  simp only [hi, hu, hz0, hq, hz]
  rw [Instr.fill]
theorem build_ans0 (w : World) : (Instr.build 49 #[]).run Tryz.prog w = .ok (.agg zAns.toArray) w := by
  refine run_build w _ _ _ ?_
  obtain ⟨i0, hi, hz0⟩ := Option.map_eq_some_iff.1 (show (Tryz.prog.info? 49).map (·.zero) = some (some (.agg zAns.toArray)) by kernel_rfl)
  obtain ⟨fields, hu, hq⟩ : ∃ fields, Tryz.prog.underlying 49 = some (.struct fields) ∧ fields.toList.mapM (fun f => (Tryz.prog.info? f.type).map fun i => (f.offset, i.size)) = some [(0, 1), (1, 32), (33, 33)] := ⟨_, Tryz.underlying49, by kernel_rfl⟩
  have hz : (Value.agg zAns.toArray).cells = zAns.toArray := rfl
  unfold Program.built
  simp only [hi, hu, hz0, hq, hz]
  rw [Instr.fill]
theorem build_head1 (w : World) : (Instr.build 29 #[(1, .int .i64 1)]).run Tryz.prog w = .ok (.agg (pubC 0 1 zD zD).toArray) w := by
  refine run_build w _ _ _ ?_
  obtain ⟨i0, hi, hz0⟩ := Option.map_eq_some_iff.1 (show (Tryz.prog.info? 29).map (·.zero) = some (some (.agg (pubC 0 0 zD zD).toArray)) by kernel_rfl)
  obtain ⟨fields, hu, hq⟩ : ∃ fields, Tryz.prog.underlying 29 = some (.struct fields) ∧ fields.toList.mapM (fun f => (Tryz.prog.info? f.type).map fun i => (f.offset, i.size)) = some [(0, 1), (1, 1), (2, 32), (34, 32)] := ⟨_, Tryz.underlying29, by kernel_rfl⟩
  have hz : (Value.agg (pubC 0 0 zD zD).toArray).cells = (pubC 0 0 zD zD).toArray := rfl
  unfold Program.built
  simp only [hi, hu, hz0, hq, hz]
  have t0 : splice ((pubC 0 0 zD zD).toArray).toList 1 (Value.int .i64 1).cells.toList = pubC 0 1 zD zD := by rfl
  rw [fill_part _ _ 1 1 _ _ (by rfl) (by decide +kernel), t0, Instr.fill]
theorem verB_zero : verB 0 0 0 zD zD zD [] (headZ 0 0 zD zD) = false := by
  unfold verB
  rw [show formB 0 0 0 [] = false by decide]
  rfl
theorem gro_one : (decide ((groZ 1 zD 1 1 false [] ((0 : Nat) : Int)).2 = 0) && decide ((groZ 1 zD 1 1 false [] ((0 : Nat) : Int)).1.1 = zD) && decide ((groZ 1 zD 1 1 false [] ((0 : Nat) : Int)).1.2 = zD)) = true := by decide +kernel
set_option maxHeartbeats 4000000 in
theorem knows22 (w : World) (tab : ShaTab w) :
    Calls Tryz.prog 6 #[] w fun e w' => e = .returned (.bool true) ∧ Below w.heap.size w w' := by
  have Hb := hid (Below.refl w.heap.size w)
  have Htab := hid tab
  clear tab
  go_enter Tryz.func6, Tryz.ntmps6
  go_wp2_with (first
     | (with_reducible show wpList _ _ _ (⟨some 1, _, _, _, _, _⟩ :: _) _ _; refine wpList_buildv_if (by first | rfl | go_simp) 27 [] rfl [] rfl _ build_pub0 ?_)
     | (with_reducible show wpList _ _ _ (⟨some 2, _, _, _, _, _⟩ :: _) _ _; refine wpList_buildv_if (by first | rfl | go_simp) 29 [] rfl [] rfl _ build_head0 ?_)
     | (with_reducible show wpList _ _ _ (⟨some 3, _, _, _, _, _⟩ :: _) _ _; refine wpList_buildv_if (by first | rfl | go_simp) 32 [] rfl [] rfl _ build_sig0 ?_))
  refine (show Calls Tryz.prog 11 _ w (fun e w' => e = .returned (.bool false) ∧ Below w.heap.size w w') from by
    have h := vhead_any 0 0 0 zD zD zD 0 0 zD zD none 0 0 [] w (by omega) (by omega) Dg.zero Dg.zero Dg.zero Dg.zero Dg.zero (PartsAt.nil w) Htab.out
    rw [verB_zero] at h
    exact h).mono ?_
  rintro e w1 ⟨rfl, b1⟩
  have HBw1 := hid (Below.on Hb.out b1)
  have hsw1 := HBw1.out.size
  clear b1
  go_wp2_with (first
     | (with_reducible show wpList _ _ _ (⟨some 7, _, _, _, _, _⟩ :: _) _ _; refine wpList_buildv_if (by first | rfl | go_simp) 29 [(1, .const (.int .i64 1))] rfl [(1, .int .i64 1)] rfl _ build_head1 ?_)
     | (with_reducible show wpList _ _ _ (⟨some 8, _, _, _, _, _⟩ :: _) _ _; refine wpList_buildv_if (by first | rfl | go_simp) 29 [(1, .const (.int .i64 1))] rfl [(1, .int .i64 1)] rfl _ build_head1 ?_))
  refine (vgrows_any 0 1 0 1 zD zD zD zD none 0 0 [] true _ Dg.zero Dg.zero Dg.zero Dg.zero (DigsAt.nil _) (Htab.out.below HBw1.out) (fun W hW hT => by
    have h := grows_good zD zD 1 1 none 0 0 [] W Dg.zero Dg.zero (by omega) (by omega) (by omega) hW (by omega) hT
    rw [gro_one] at h
    exact h)).mono ?_
  rintro e w2 ⟨rfl, b2⟩
  have HBw2 := hid (Below.on HBw1.out b2)
  have hsw2 := HBw2.out.size
  clear b2
  go_wp2_with (with_reducible show wpList _ _ _ (⟨some 13, _, _, _, _, _⟩ :: _) _ _; refine wpList_buildv_if (by first | rfl | go_simp) 49 [] rfl [] rfl _ build_ans0 ?_)
  refine (vlookup_none _).mono ?_
  rintro e w3 ⟨rfl, bw3⟩
  have HBw3 := hid (Below.on HBw2.out bw3)
  have hsw3 := HBw3.out.size
  clear bw3
  go_wp2_with fail
  go_returns
  exact ⟨by first | rfl | simp, HBw3.out⟩
end Go.Proofs.YtkakoiaahgchmaaGreatDoor
namespace Go.Proofs.YtkakoiaahgchmaaGreatDoor
set_option maxRecDepth 100000
open Go.ChangeShapes Go.WideShapes Go.ChangeAt Go.RowKit
/-- A version as it is shown. -/
structure Shn where
  v : Int
  va : Option Addr
  vl : Nat
  vc : Nat
  val : List Int
  nonce : List Int
  salt : List Int
  known : List Int
  pa : Option Addr
  pl : Nat
  pc : Nat
  nodes : List (List Int)
def Shn.zero : Shn := ⟨0, none, 0, 0, [], zD, zD, zD, none, 0, 0, []⟩
/-- Its cells. -/
def shnC (s : Shn) : List Value := .int .i64 s.v :: .slice s.va s.vl s.vc :: (s.nonce.map (Value.int .u8) ++ (s.salt.map (Value.int .u8) ++ prC s.known (.slice s.pa s.pl s.pc)))
structure ShnOk (w : World) (s : Shn) : Prop where
  lo : -9223372036854775808 ≤ s.v
  hi : s.v < 9223372036854775808
  val : TextAt w s.va s.vl s.vc s.val
  nonce : Dg s.nonce
  salt : Dg s.salt
  known : Dg s.known
  nodes : DigsAt w s.pa s.pl s.pc s.nodes
theorem ShnOk.below {w w' : World} {s : Shn} (h : ShnOk w s) (b : Below w.heap.size w w') : ShnOk w' s := ⟨h.lo, h.hi, h.val.below b, h.nonce, h.salt, h.known, h.nodes.below b⟩
theorem shnC_len {s : Shn} (h1 : Dg s.nonce) (h2 : Dg s.salt) (h3 : Dg s.known) : (shnC s).length = 99 := by simp [shnC, prC, h1.len, h2.len, h3.len]
theorem size_shn : (Tryz.prog.info? 52).map (·.size) = some 99 := by kernel_rfl
theorem shnC_size {s : Shn} (h1 : Dg s.nonce) (h2 : Dg s.salt) (h3 : Dg s.known) : (shnC s).toArray.size = 99 := by simp [shnC_len h1 h2 h3]
theorem Blk.rng {w : World} {b : Nat} {cs : List Value} {T : TypeId} (k : Blk w b cs.toArray T) : w.rangeAt b 0 cs := fun j u hu => by
  rw [Nat.zero_add, k.cell, List.getElem?_toArray, hu]
theorem shn_v {w : World} {x o : Nat} {s : Shn} (h : w.rangeAt x o (shnC s)) : w.cell? ⟨x, o, none⟩ = some (.int .i64 s.v) := h 0 _ rfl
theorem shn_val {w : World} {x o : Nat} {s : Shn} (h : w.rangeAt x o (shnC s)) : w.cell? ⟨x, o + 1, none⟩ = some (.slice s.va s.vl s.vc) := h 1 _ rfl
theorem shn_nonce {w : World} {x o : Nat} {s : Shn} (h : w.rangeAt x o (shnC s)) : w.rangeAt x (o + 2) (s.nonce.map (Value.int .u8)) := fun j u hu => by
  have hj : j < (s.nonce.map (Value.int .u8)).length := (List.getElem?_eq_some_iff.1 hu).1
  rw [Nat.add_assoc]
  refine h (2 + j) u ?_
  unfold shnC
  rw [show 2 + j = j + 1 + 1 by omega, List.getElem?_cons_succ, List.getElem?_cons_succ, List.getElem?_append_left hj]
  exact hu
theorem shn_salt {w : World} {x o : Nat} {s : Shn} (h1 : Dg s.nonce) (h : w.rangeAt x o (shnC s)) : w.rangeAt x (o + 34) (s.salt.map (Value.int .u8)) := fun j u hu => by
  have hj : j < (s.salt.map (Value.int .u8)).length := (List.getElem?_eq_some_iff.1 hu).1
  rw [Nat.add_assoc]
  refine h (34 + j) u ?_
  unfold shnC
  rw [show 34 + j = (32 + j) + 1 + 1 by omega, List.getElem?_cons_succ, List.getElem?_cons_succ, List.getElem?_append_right (by rw [List.length_map, h1.len]; omega), List.length_map, h1.len, show 32 + j - 32 = j by omega, List.getElem?_append_left hj]
  exact hu
theorem shn_proof {w : World} {x o : Nat} {s : Shn} (h1 : Dg s.nonce) (h2 : Dg s.salt) (h : w.rangeAt x o (shnC s)) : w.rangeAt x (o + 66) (prC s.known (.slice s.pa s.pl s.pc)) := fun j u hu => by
  rw [Nat.add_assoc]
  refine h (66 + j) u ?_
  unfold shnC
  rw [show 66 + j = (64 + j) + 1 + 1 by omega, List.getElem?_cons_succ, List.getElem?_cons_succ, List.getElem?_append_right (by rw [List.length_map, h1.len]; omega), List.length_map, h1.len, List.getElem?_append_right (by rw [List.length_map, h2.len]; omega), List.length_map, h2.len, show 64 + j - 32 - 32 = j by omega]
  exact hu
theorem shn_known {w : World} {x o : Nat} {s : Shn} (h1 : Dg s.nonce) (h2 : Dg s.salt) (h : w.rangeAt x o (shnC s)) : w.rangeAt x (o + 66) (s.known.map (Value.int .u8)) := fun j u hu => by
  refine shn_proof h1 h2 h j u ?_
  unfold prC
  rw [List.getElem?_append_left (List.getElem?_eq_some_iff.1 hu).1]
  exact hu
theorem shn_nodes {w : World} {x o : Nat} {s : Shn} (h1 : Dg s.nonce) (h2 : Dg s.salt) (h3 : Dg s.known) (h : w.rangeAt x o (shnC s)) : w.cell? ⟨x, o + 66 + 32, none⟩ = some (.slice s.pa s.pl s.pc) :=
  shn_proof h1 h2 h 32 _ (by simp [prC, h3.len])
/-- A row of versions as they are shown, as it comes in. -/
structure ShnsAt (w : World) (a : Option Addr) (len cap : Nat) (l : List Shn) : Prop where
  length : l.length = len
  le : len ≤ cap
  max : cap ≤ 9223372036854775807
  each : ∀ s ∈ l, ShnOk w s
  mem : len = 0 ∨ ∃ x o, a = some ⟨x, o, none⟩ ∧ x < w.heap.size ∧ ∀ i, i < len → w.rangeAt x (o + i * 99) (shnC (l.getD i Shn.zero))
theorem ShnsAt.below {w w' : World} {a : Option Addr} {len cap : Nat} {l : List Shn} (h : ShnsAt w a len cap l) (b : Below w.heap.size w w') : ShnsAt w' a len cap l := by
  obtain ⟨h1, h2, h3, h4, h | ⟨x, o, rfl, hx, hc⟩⟩ := h
  · exact ⟨h1, h2, h3, fun s hs => (h4 s hs).below b, .inl h⟩
  · exact ⟨h1, h2, h3, fun s hs => (h4 s hs).below b, .inr ⟨x, o, rfl, Nat.lt_of_lt_of_le hx b.size, fun i hi j u hu => (b.cell (p := ⟨x, o + i * 99 + j, none⟩) hx).trans (hc i hi j u hu)⟩⟩
theorem ShnsAt.nil (w : World) : ShnsAt w none 0 0 [] := ⟨rfl, Nat.le_refl _, by omega, fun s hs => absurd hs (by simp), .inl rfl⟩
theorem ShnsAt.ok {w : World} {a : Option Addr} {len cap : Nat} {l : List Shn} (h : ShnsAt w a len cap l) {i : Nat} (hi : i < len) : ShnOk w (l.getD i Shn.zero) := by
  have hl := h.length
  refine h.each _ ?_
  rw [List.getD_eq_getElem?_getD, List.getElem?_eq_getElem (by omega)]
  exact List.getElem_mem _
theorem ShnsAt.at_ {w : World} {a : Option Addr} {len cap : Nat} {l : List Shn} (h : ShnsAt w a len cap l) {i : Nat} (hi : i < len) : ∃ x o, a = some ⟨x, o, none⟩ ∧ x < w.heap.size ∧ w.rangeAt x (o + i * 99) (shnC (l.getD i Shn.zero)) := by
  rcases h.mem with h | ⟨x, o, rfl, hx, hc⟩
  · omega
  · exact ⟨x, o, rfl, hx, hc i hi⟩
theorem ansC_known {s : Value} {n d : List Int} {v : Value} {w : World} {b : Nat} {T : TypeId} (hn : Dg n) (k : Blk w b (ansC s n d v).toArray T) : w.rangeAt b 33 (d.map (Value.int .u8)) := fun j u hu => by
  have hj : j < (d.map (Value.int .u8)).length := (List.getElem?_eq_some_iff.1 hu).1
  rw [show 33 + j = (32 + j) + 1 by omega, k.cell, List.getElem?_toArray, ← hu]
  unfold ansC prC
  rw [List.getElem?_cons_succ, List.getElem?_append_right (by rw [List.length_map, hn.len]; omega), List.length_map, hn.len, show 32 + j - 32 = j by omega, List.getElem?_append_left hj]
theorem ansC_proof {s : Value} {n d : List Int} {v : Value} {w : World} {b : Nat} {T : TypeId} (hn : Dg n) (k : Blk w b (ansC s n d v).toArray T) : w.rangeAt b 33 (prC d v) := fun j u hu => by
  rw [show 33 + j = (32 + j) + 1 by omega, k.cell, List.getElem?_toArray, ← hu]
  unfold ansC
  rw [List.getElem?_cons_succ, List.getElem?_append_right (by rw [List.length_map, hn.len]; omega), List.length_map, hn.len, show 32 + j - 32 = j by omega]
theorem ansC_nodes {s : Value} {n d : List Int} {v : Value} {w : World} {b : Nat} {T : TypeId} (hn : Dg n) (hd : Dg d) (k : Blk w b (ansC s n d v).toArray T) : w.cell? ⟨b, 33 + 32, none⟩ = some v :=
  ansC_proof hn k 32 v (by simp [prC, hd.len])
theorem ansC_shown {s : Value} {n d : List Int} {v : Value} {w : World} {b : Nat} {T : TypeId} (k : Blk w b (ansC s n d v).toArray T) : w.cell? ⟨b, 0, none⟩ = some s := by rw [k.cell]; rfl
/-- Few, and small, parts. -/
def smS (s : Shn) : Bool := decide (s.vl ≤ 200) && decide (s.pl ≤ 300)
def fewA (l : List Shn) (n : Nat) : Bool := l.all smS && (decide (l.length ≤ 4) && decide (n ≤ 300))
theorem fewA_bad {l : List Shn} {k n : Nat} (hk : k < l.length) (h : smS (l.getD k Shn.zero) = false) : fewA l n = false := by
  unfold fewA
  rw [Bool.and_eq_false_iff]
  left
  rw [List.all_eq_false]
  rw [List.getD_eq_getElem?_getD, List.getElem?_eq_getElem hk] at h
  exact ⟨_, List.getElem_mem hk, by rw [Option.getD_some] at h; rw [h]; simp⟩
theorem fewA_good {l : List Shn} {n : Nat} (h : ∀ k, k < l.length → smS (l.getD k Shn.zero) = true) : fewA l n = (decide (l.length ≤ 4) && decide (n ≤ 300)) := by
  unfold fewA
  rw [List.all_eq_true.2 ?_, Bool.true_and]
  intro s hs
  obtain ⟨k, hk, rfl⟩ := List.getElem_of_mem hs
  have := h k hk
  rw [List.getD_eq_getElem?_getD, List.getElem?_eq_getElem hk] at this
  exact this
set_option maxHeartbeats 4000000 in
theorem few22_any (sa pa : Option Addr) (sn sc pn pc : Nat) (n d : List Int) (l : List Shn) (w : World) (hn : Dg n) (hd : Dg d) (hS : ShnsAt w sa sn sc l) :
    Calls Tryz.prog 14 #[.agg (ansC (.slice sa sn sc) n d (.slice pa pn pc)).toArray] w fun e w' => e = .returned (.bool (fewA l pn)) ∧ Below w.heap.size w w' := by
  have b1 := (Below.refl w.heap.size w).alloc (Nat.le_refl _) (.cells (ansC (.slice sa sn sc) n d (.slice pa pn pc)).toArray 49 (0, 0))
  have Ka := hid (Blk.new (w := w) (n := w.heap.size) rfl (ansC (.slice sa sn sc) n d (.slice pa pn pc)).toArray 49)
  have Hb := hid b1
  have hbz := b1.size
  have Hbs := hid (show w.heap.size + 1 = (w.alloc (.cells (ansC (.slice sa sn sc) n d (.slice pa pn pc)).toArray 49 (0, 0))).heap.size by simp only [World.size_alloc])
  clear b1 
  have HS := hid hS
  have hlen := hS.length
  clear hS
  go_enter Tryz.func14, Tryz.ntmps14
  go_wp2_with fail
  go_loopw [3] (fun iv wr => ∃ k : Nat, k ≤ sn ∧ iv = .int .i64 k ∧ Blk wr (w.heap.size) (ansC (.slice sa sn sc) n d (.slice pa pn pc)).toArray 49 ∧ Below w.heap.size w wr ∧ ∀ j, j < k → smS (l.getD j Shn.zero) = true) (fun iv _ => sn - (intOf iv).toNat)
  case atStart => exact ⟨0, Nat.zero_le _, rfl, Ka.out, Hb.out, fun j hj => absurd hj (by omega)⟩
  case round =>
    obtain ⟨k, hk, rfl, kg, bel, hall⟩ := hrel
    have Kgwr := hid kg
    have HBwr := hid bel
    have hswr := bel.size
    have Hall := hid hall
    have g0 := ansC_shown kg
    have g65 := ansC_nodes hn hd kg
    have hmx := HS.out.max
    have hle := HS.out.le
    clear kg bel hall
    by_cases hlt : k < sn
    · have hc0 : (k : Int) < sn := by omega
      have hok := (HS.out.below HBwr.out).ok hlt
      obtain ⟨x, o, rfl, hx, hr⟩ := (HS.out.below HBwr.out).at_ hlt
      have p1 := shn_val hr
      have p2 := shn_nodes hok.nonce hok.salt hok.known hr
      have hkl : k < l.length := by omega
      have Hbad := hid (fun h => fewA_bad (n := pn) hkl h)
      have hsm : smS (l.getD k Shn.zero) = (decide ((l.getD k Shn.zero).vl ≤ 200) && decide ((l.getD k Shn.zero).pl ≤ 300)) := rfl
      have HSM := hid hsm
      clear hr hok hsm
      obtain ⟨q, hq⟩ : ∃ q, l.getD k Shn.zero = q := ⟨_, rfl⟩
      have Hq := hid hq
      rw [hq] at Hbad p1 p2 HSM
      clear hq
      by_cases h1 : q.vl ≤ 200
      · have hd1 : ¬ (200 : Int) < q.vl := by omega
        by_cases h2 : q.pl ≤ 300
        · have hd2 : ¬ (300 : Int) < q.pl := by omega
          go_wp2_with (first
             | (with_reducible show wpList _ _ _ (⟨some 14, _, _, _, _, _⟩ :: _) _ _; refine wpList_index_s 99 (by first | rfl | go_simp) 45 _ _ rfl Tryz.underlying45 size_shn x o sn sc rfl _ _ rfl k (by omega) (by omega) ?_)
             | (with_reducible show wpList _ _ _ (⟨some 23, _, _, _, _, _⟩ :: _) _ _; refine wpList_index_s 99 (by first | rfl | go_simp) 45 _ _ rfl Tryz.underlying45 size_shn x o sn sc rfl _ _ rfl k (by omega) (by omega) ?_))
          exact ⟨⟨k + 1, by omega, by first | rfl | simp, Kgwr.out, HBwr.out, fun j hj => by
            by_cases hjk : j = k
            · subst hjk; rw [Hq.out, HSM.out, decide_eq_true h1, decide_eq_true h2]; rfl
            · exact Hall.out j (by omega)⟩, by simp [intOf]; omega⟩
        · have hd2 : (300 : Int) < q.pl := by omega
          go_wp2_with (first
             | (with_reducible show wpList _ _ _ (⟨some 14, _, _, _, _, _⟩ :: _) _ _; refine wpList_index_s 99 (by first | rfl | go_simp) 45 _ _ rfl Tryz.underlying45 size_shn x o sn sc rfl _ _ rfl k (by omega) (by omega) ?_)
             | (with_reducible show wpList _ _ _ (⟨some 23, _, _, _, _, _⟩ :: _) _ _; refine wpList_index_s 99 (by first | rfl | go_simp) 45 _ _ rfl Tryz.underlying45 size_shn x o sn sc rfl _ _ rfl k (by omega) (by omega) ?_))
          go_returns
          exact ⟨by rw [Hbad.out (by rw [HSM.out, decide_eq_false h2, Bool.and_false])]; rfl, HBwr.out⟩
      · have hd1 : (200 : Int) < q.vl := by omega
        go_wp2_with (with_reducible show wpList _ _ _ (⟨some 14, _, _, _, _, _⟩ :: _) _ _; refine wpList_index_s 99 (by first | rfl | go_simp) 45 _ _ rfl Tryz.underlying45 size_shn x o sn sc rfl _ _ rfl k (by omega) (by omega) ?_)
        go_returns
        exact ⟨by rw [Hbad.out (by rw [HSM.out, decide_eq_false h1]; rfl)]; rfl, HBwr.out⟩
    · obtain rfl : k = sn := by omega
      have hc0 : ¬ ((k : Int) < k) := by omega
      have hgood := fewA_good (n := pn) (l := l) (fun j hj => Hall.out j (by omega))
      have HG := hid hgood
      clear hgood
      by_cases h4 : k ≤ 4
      · have hd4 : (k : Int) ≤ 4 := by omega
        by_cases h5 : pn ≤ 300
        · have hd5 : (pn : Int) ≤ 300 := by omega
          go_wp2_with fail
          go_returns
          exact ⟨by rw [HG.out, hlen, decide_eq_true h4, decide_eq_true h5]; rfl, HBwr.out⟩
        · have hd5 : ¬ (pn : Int) ≤ 300 := by omega
          go_wp2_with fail
          go_returns
          exact ⟨by rw [HG.out, hlen, decide_eq_false h5, Bool.and_false]; rfl, HBwr.out⟩
      · have hd4 : ¬ (k : Int) ≤ 4 := by omega
        go_wp2_with fail
        go_returns
        exact ⟨by rw [HG.out, hlen, decide_eq_false h4]; rfl, HBwr.out⟩
end Go.Proofs.YtkakoiaahgchmaaGreatDoor
namespace Go.Proofs.YtkakoiaahgchmaaGreatDoor
set_option maxRecDepth 100000
open Go.ChangeShapes Go.WideShapes Go.ChangeAt Go.RowKit
theorem run_build_rent {a b : List Int} (ha : Dg a) (hb : Dg b) (w : World) : (Instr.build 84 #[(0, .agg (a.map (Value.int .u8)).toArray), (1, .agg (b.map (Value.int .u8)).toArray)]).run Tryz.prog w = .ok (.agg ((entL a b).map (Value.int .u8)).toArray) w := by
  refine run_build w _ _ _ ?_
  obtain ⟨i0, hi, hz0⟩ := Option.map_eq_some_iff.1 (show (Tryz.prog.info? 84).map (·.zero) = some (some (.agg ((entL zD zD).map (Value.int .u8)).toArray)) by kernel_rfl)
  obtain ⟨fields, hu, hq⟩ : ∃ fields, Tryz.prog.underlying 84 = some (.struct fields) ∧ fields.toList.mapM (fun f => (Tryz.prog.info? f.type).map fun i => (f.offset, i.size)) = some [(0, 32), (32, 32)] := ⟨_, Tryz.underlying84, by kernel_rfl⟩
  have hz : (Value.agg ((entL zD zD).map (Value.int .u8)).toArray).cells = ((entL zD zD).map (Value.int .u8)).toArray := rfl
  unfold Program.built
  simp only [hi, hu, hz0, hq, hz]
  have hs0 : (Value.agg (a.map (Value.int .u8)).toArray).cells.size = 32 := ha.size
  have hs1 : (Value.agg (b.map (Value.int .u8)).toArray).cells.size = 32 := hb.size
  have t0 : splice (((entL zD zD).map (Value.int .u8)).toArray).toList 0 (Value.agg (a.map (Value.int .u8)).toArray).cells.toList = (entL a zD).map (Value.int .u8) := by
    show splice ((entL zD zD).map (Value.int .u8)) 0 (a.map (Value.int .u8)) = _
    unfold splice entL
    rw [List.take_zero, List.nil_append, List.length_map, ha.len, List.map_append, List.drop_append_of_le_length (by rw [List.length_map, Dg.zero.len]; omega), List.drop_eq_nil_of_le (by rw [List.length_map, Dg.zero.len]; omega), List.nil_append, List.map_append]
  have t1 : splice ((entL a zD).map (Value.int .u8)) 32 (Value.agg (b.map (Value.int .u8)).toArray).cells.toList = (entL a b).map (Value.int .u8) := by
    show splice ((entL a zD).map (Value.int .u8)) 32 (b.map (Value.int .u8)) = _
    unfold splice entL
    rw [List.map_append, List.take_append_of_le_length (by rw [List.length_map, ha.len]; omega), List.take_of_length_le (by rw [List.length_map, ha.len]; omega), List.length_map, hb.len, List.drop_eq_nil_of_le (by simp [ha.len, Dg.zero.len]), List.append_nil, List.map_append]
  rw [fill_part _ _ 0 0 _ _ (by rw [hs0]; rfl) (by rw [hs0, two_size Dg.zero Dg.zero]; omega), t0]
  rw [fill_part _ _ 1 32 _ _ (by rw [hs1]; rfl) (by rw [hs1, two_size ha Dg.zero]; omega), List.toList_toArray, t1, Instr.fill]
theorem quiet_build_rent {op : Oper} {a : Act} {C : World → Prop} {K : Act → Prop} (x y : Operand) (u v r : Value) (ho : op.op = .build 84 #[(0, x), (1, y)]) (hx : a.eval x = u) (hy : a.eval y = v) (hr : ∀ w', (Instr.build 84 #[(0, u), (1, v)]).run Tryz.prog w' = .ok r w') (h : K (a.put op.dst r)) : op.quiet Tryz.prog a C K :=
  ⟨r, fun w' _ => by
    unfold Oper.quietAt execOp
    simp only [ho, List.map_toArray, List.map_cons, List.map_nil, hx, hy, Sem.run_bind, hr w', Result.andThen_ok, Sem.run_pure]
    simp [Oper.quietUpon], h⟩
/-- May a name have a version? -/
def mayP (n : Nat) (v : Int) : Bool := decide (1 ≤ n ∧ n ≤ 64 ∧ 1 ≤ v)
theorem mayP_t {n : Nat} {v : Int} (h : mayP n v = true) : 1 ≤ n ∧ n ≤ 64 ∧ 1 ≤ v := of_decide_eq_true h
theorem mayP_f {n : Nat} {v : Int} (h : mayP n v = false) : (n = 0 ∨ 64 < n) ∨ v < 1 := by
  have := of_decide_eq_false h
  omega
/-- Does a proof lead from a digest to a root? -/
def leadB (o i x d : List Int) (ns : List (List Int)) : Bool := decide (knN d 256 = ns.length) && decide (climbK d i ns x 256 = o)
def shownB (o name : List Int) (n : Nat) (s : Shn) : Bool := mayP n s.v && (decide (s.vl ≤ 64) && leadB o (idxZ s.nonce s.v name) (leafE (idxZ s.nonce s.v name) (madeZ s.salt s.val)) s.known s.nodes)
def goneB (o name : List Int) (n : Nat) (v : Int) (x d : List Int) (ns : List (List Int)) : Bool := mayP n v && leadB o (idxZ x v name) (emptyL 0) d ns
theorem present_is (o i c d : List Int) (ad : Option Addr) (len cap : Nat) (ns : List (List Int)) (w : World) (ho : Dg o) (hi : Dg i) (hc : Dg c) (hd : Dg d) (hns : DigsAt w ad len cap ns) (tab : ShaTab w) :
    Calls Tryz.prog 48 #[.agg (o.map (Value.int .u8)).toArray, .agg (i.map (Value.int .u8)).toArray, .agg (c.map (Value.int .u8)).toArray, .agg (prC d (.slice ad len cap)).toArray] w fun e w' => e = .returned (.bool (leadB o i (leafE i c) d ns)) ∧ Below w.heap.size w w' := by
  unfold leadB
  rw [hns.length]
  by_cases hn : knN d 256 = len
  · rw [decide_eq_true hn, Bool.true_and]
    exact present_any o i c d ad len cap ns _ w ho hi hc hd hns tab (fun W2 h2 t2 => leads_ok (leafE i c) o i d (climbK d i ns (leafE i c) 256) ad len cap ns W2 (Dg.leafE i c) ho hi hd (Dg.climbK (Dg.leafE i c) d i ns 256) h2 t2 (fun W3 h3 t3 => climb_good_q (leafE i c) i d ad len cap ns W3 (Dg.leafE i c) hi hd hn h3 t3))
  · rw [decide_eq_false hn, Bool.false_and]
    exact present_any o i c d ad len cap ns _ w ho hi hc hd hns tab (fun W2 h2 t2 => leads_no (leafE i c) o i d zD ad len cap ns W2 (Dg.leafE i c) hi hd Dg.zero h2 t2 (fun W3 _ _ => climb_bad_q (leafE i c) i d ad len cap W3 hd hn))
theorem absent_is (o i d : List Int) (ad : Option Addr) (len cap : Nat) (ns : List (List Int)) (w : World) (ho : Dg o) (hi : Dg i) (hd : Dg d) (hns : DigsAt w ad len cap ns) (tab : ShaTab w) :
    Calls Tryz.prog 91 #[.agg (o.map (Value.int .u8)).toArray, .agg (i.map (Value.int .u8)).toArray, .agg (prC d (.slice ad len cap)).toArray] w fun e w' => e = .returned (.bool (leadB o i (emptyL 0) d ns)) ∧ Below w.heap.size w w' := by
  unfold leadB
  rw [hns.length]
  by_cases hn : knN d 256 = len
  · rw [decide_eq_true hn, Bool.true_and]
    exact absent_any o i d ad len cap ns _ w ho hi hd hns tab (fun W2 h2 t2 => leads_ok (emptyL 0) o i d (climbK d i ns (emptyL 0) 256) ad len cap ns W2 (Dg.emptyL 0) ho hi hd (Dg.climbK (Dg.emptyL 0) d i ns 256) h2 t2 (fun W3 h3 t3 => climb_good_q (emptyL 0) i d ad len cap ns W3 (Dg.emptyL 0) hi hd hn h3 t3))
  · rw [decide_eq_false hn, Bool.false_and]
    exact absent_any o i d ad len cap ns _ w ho hi hd hns tab (fun W2 h2 t2 => leads_no (emptyL 0) o i d zD ad len cap ns W2 (Dg.emptyL 0) hi hd Dg.zero h2 t2 (fun W3 _ _ => climb_bad_q (emptyL 0) i d ad len cap W3 hd hn))
set_option maxHeartbeats 4000000 in
theorem rshown_may (o name val x t d : List Int) (na va pa : Option Addr) (nn nc vl vc pl pc : Nat) (v : Int) (ns : List (List Int)) (w : World) (_ho : Dg o) (_hx : Dg x) (_ht : Dg t) (_hd : Dg d) (_hT : TextAt w na nn nc name) (_hV : TextAt w va vl vc val) (_hN : DigsAt w pa pl pc ns) (_hv1 : v < 9223372036854775808) (h1 : (nn = 0 ∨ 64 < nn) ∨ v < 1) :
    Calls Tryz.prog 15 #[.agg (o.map (Value.int .u8)).toArray, .slice na nn nc, .int .i64 v, .slice va vl vc, .agg (x.map (Value.int .u8)).toArray, .agg (t.map (Value.int .u8)).toArray, .agg (d.map (Value.int .u8)).toArray, .slice pa pl pc] w fun e w' => e = .returned (.bool false) ∧ Below w.heap.size w w' := by
  have b1 := (Below.refl w.heap.size w).alloc (Nat.le_refl _) (.cells (o.map (Value.int .u8)).toArray 25 (0, 0))
  have b2 := b1.alloc b1.size (.cells (x.map (Value.int .u8)).toArray 25 (0, 0))
  have b3 := b2.alloc b2.size (.cells (t.map (Value.int .u8)).toArray 25 (0, 0))
  have b4 := b3.alloc b3.size (.cells (d.map (Value.int .u8)).toArray 25 (0, 0))
  have Ko := hid ((((Blk.new (w := w) (n := w.heap.size) rfl (o.map (Value.int .u8)).toArray 25).old (.cells (x.map (Value.int .u8)).toArray 25 (0, 0))).old (.cells (t.map (Value.int .u8)).toArray 25 (0, 0))).old (.cells (d.map (Value.int .u8)).toArray 25 (0, 0)))
  have Kx := hid (((Blk.new (w := (w.alloc (.cells (o.map (Value.int .u8)).toArray 25 (0, 0)))) (n := w.heap.size + 1) (by simp only [World.size_alloc]) (x.map (Value.int .u8)).toArray 25).old (.cells (t.map (Value.int .u8)).toArray 25 (0, 0))).old (.cells (d.map (Value.int .u8)).toArray 25 (0, 0)))
  have Kt := hid ((Blk.new (w := ((w.alloc (.cells (o.map (Value.int .u8)).toArray 25 (0, 0))).alloc (.cells (x.map (Value.int .u8)).toArray 25 (0, 0)))) (n := w.heap.size + 1 + 1) (by simp only [World.size_alloc]) (t.map (Value.int .u8)).toArray 25).old (.cells (d.map (Value.int .u8)).toArray 25 (0, 0)))
  have Kd := hid (Blk.new (w := (((w.alloc (.cells (o.map (Value.int .u8)).toArray 25 (0, 0))).alloc (.cells (x.map (Value.int .u8)).toArray 25 (0, 0))).alloc (.cells (t.map (Value.int .u8)).toArray 25 (0, 0)))) (n := w.heap.size + 1 + 1 + 1) (by simp only [World.size_alloc]) (d.map (Value.int .u8)).toArray 25)
  have Hb := hid b4
  have hbz := b4.size
  have Hbs := hid (show w.heap.size + 1 + 1 + 1 + 1 = ((((w.alloc (.cells (o.map (Value.int .u8)).toArray 25 (0, 0))).alloc (.cells (x.map (Value.int .u8)).toArray 25 (0, 0))).alloc (.cells (t.map (Value.int .u8)).toArray 25 (0, 0))).alloc (.cells (d.map (Value.int .u8)).toArray 25 (0, 0))).heap.size by simp only [World.size_alloc])
  clear b1 b2 b3 b4 
  go_enter Tryz.func15, Tryz.ntmps15
  go_wp2_with fail
  refine (may_f na nn nc v h1 _).mono ?_
  rintro e wq ⟨rfl, rfl⟩
  go_wp2_with fail
  go_returns
  exact ⟨rfl, Hb.out⟩
set_option maxHeartbeats 4000000 in
theorem rshown_val (o name val x t d : List Int) (na va pa : Option Addr) (nn nc vl vc pl pc : Nat) (v : Int) (ns : List (List Int)) (w : World) (_ho : Dg o) (_hx : Dg x) (_ht : Dg t) (_hd : Dg d) (_hT : TextAt w na nn nc name) (_hV : TextAt w va vl vc val) (_hN : DigsAt w pa pl pc ns) (_hv1 : v < 9223372036854775808) (h1 : 1 ≤ nn ∧ nn ≤ 64 ∧ 1 ≤ v) (h2 : 64 < vl) :
    Calls Tryz.prog 15 #[.agg (o.map (Value.int .u8)).toArray, .slice na nn nc, .int .i64 v, .slice va vl vc, .agg (x.map (Value.int .u8)).toArray, .agg (t.map (Value.int .u8)).toArray, .agg (d.map (Value.int .u8)).toArray, .slice pa pl pc] w fun e w' => e = .returned (.bool false) ∧ Below w.heap.size w w' := by
  have b1 := (Below.refl w.heap.size w).alloc (Nat.le_refl _) (.cells (o.map (Value.int .u8)).toArray 25 (0, 0))
  have b2 := b1.alloc b1.size (.cells (x.map (Value.int .u8)).toArray 25 (0, 0))
  have b3 := b2.alloc b2.size (.cells (t.map (Value.int .u8)).toArray 25 (0, 0))
  have b4 := b3.alloc b3.size (.cells (d.map (Value.int .u8)).toArray 25 (0, 0))
  have Ko := hid ((((Blk.new (w := w) (n := w.heap.size) rfl (o.map (Value.int .u8)).toArray 25).old (.cells (x.map (Value.int .u8)).toArray 25 (0, 0))).old (.cells (t.map (Value.int .u8)).toArray 25 (0, 0))).old (.cells (d.map (Value.int .u8)).toArray 25 (0, 0)))
  have Kx := hid (((Blk.new (w := (w.alloc (.cells (o.map (Value.int .u8)).toArray 25 (0, 0)))) (n := w.heap.size + 1) (by simp only [World.size_alloc]) (x.map (Value.int .u8)).toArray 25).old (.cells (t.map (Value.int .u8)).toArray 25 (0, 0))).old (.cells (d.map (Value.int .u8)).toArray 25 (0, 0)))
  have Kt := hid ((Blk.new (w := ((w.alloc (.cells (o.map (Value.int .u8)).toArray 25 (0, 0))).alloc (.cells (x.map (Value.int .u8)).toArray 25 (0, 0)))) (n := w.heap.size + 1 + 1) (by simp only [World.size_alloc]) (t.map (Value.int .u8)).toArray 25).old (.cells (d.map (Value.int .u8)).toArray 25 (0, 0)))
  have Kd := hid (Blk.new (w := (((w.alloc (.cells (o.map (Value.int .u8)).toArray 25 (0, 0))).alloc (.cells (x.map (Value.int .u8)).toArray 25 (0, 0))).alloc (.cells (t.map (Value.int .u8)).toArray 25 (0, 0)))) (n := w.heap.size + 1 + 1 + 1) (by simp only [World.size_alloc]) (d.map (Value.int .u8)).toArray 25)
  have Hb := hid b4
  have hbz := b4.size
  have Hbs := hid (show w.heap.size + 1 + 1 + 1 + 1 = ((((w.alloc (.cells (o.map (Value.int .u8)).toArray 25 (0, 0))).alloc (.cells (x.map (Value.int .u8)).toArray 25 (0, 0))).alloc (.cells (t.map (Value.int .u8)).toArray 25 (0, 0))).alloc (.cells (d.map (Value.int .u8)).toArray 25 (0, 0))).heap.size by simp only [World.size_alloc])
  clear b1 b2 b3 b4 
  have hc : (64 : Int) < (vl : Int) := by omega
  go_enter Tryz.func15, Tryz.ntmps15
  go_wp2_with fail
  refine (may_t na nn nc v h1.1 h1.2.1 h1.2.2 _).mono ?_
  rintro e wq ⟨rfl, rfl⟩
  go_wp2_with fail
  go_returns
  exact ⟨rfl, Hb.out⟩
set_option maxHeartbeats 4000000 in
theorem rshown_whole (o name val x t d : List Int) (na va pa : Option Addr) (nn nc vl vc pl pc : Nat) (v : Int) (ns : List (List Int)) (w : World) (_ho : Dg o) (_hx : Dg x) (_ht : Dg t) (hd : Dg d) (_hT : TextAt w na nn nc name) (_hV : TextAt w va vl vc val) (_hN : DigsAt w pa pl pc ns) (_hv1 : v < 9223372036854775808) (h1 : 1 ≤ nn ∧ nn ≤ 64 ∧ 1 ≤ v) (h2 : vl ≤ 64) (h3 : ¬ knN d 256 = pl) :
    Calls Tryz.prog 15 #[.agg (o.map (Value.int .u8)).toArray, .slice na nn nc, .int .i64 v, .slice va vl vc, .agg (x.map (Value.int .u8)).toArray, .agg (t.map (Value.int .u8)).toArray, .agg (d.map (Value.int .u8)).toArray, .slice pa pl pc] w fun e w' => e = .returned (.bool false) ∧ Below w.heap.size w w' := by
  have b1 := (Below.refl w.heap.size w).alloc (Nat.le_refl _) (.cells (o.map (Value.int .u8)).toArray 25 (0, 0))
  have b2 := b1.alloc b1.size (.cells (x.map (Value.int .u8)).toArray 25 (0, 0))
  have b3 := b2.alloc b2.size (.cells (t.map (Value.int .u8)).toArray 25 (0, 0))
  have b4 := b3.alloc b3.size (.cells (d.map (Value.int .u8)).toArray 25 (0, 0))
  have Ko := hid ((((Blk.new (w := w) (n := w.heap.size) rfl (o.map (Value.int .u8)).toArray 25).old (.cells (x.map (Value.int .u8)).toArray 25 (0, 0))).old (.cells (t.map (Value.int .u8)).toArray 25 (0, 0))).old (.cells (d.map (Value.int .u8)).toArray 25 (0, 0)))
  have Kx := hid (((Blk.new (w := (w.alloc (.cells (o.map (Value.int .u8)).toArray 25 (0, 0)))) (n := w.heap.size + 1) (by simp only [World.size_alloc]) (x.map (Value.int .u8)).toArray 25).old (.cells (t.map (Value.int .u8)).toArray 25 (0, 0))).old (.cells (d.map (Value.int .u8)).toArray 25 (0, 0)))
  have Kt := hid ((Blk.new (w := ((w.alloc (.cells (o.map (Value.int .u8)).toArray 25 (0, 0))).alloc (.cells (x.map (Value.int .u8)).toArray 25 (0, 0)))) (n := w.heap.size + 1 + 1) (by simp only [World.size_alloc]) (t.map (Value.int .u8)).toArray 25).old (.cells (d.map (Value.int .u8)).toArray 25 (0, 0)))
  have Kd := hid (Blk.new (w := (((w.alloc (.cells (o.map (Value.int .u8)).toArray 25 (0, 0))).alloc (.cells (x.map (Value.int .u8)).toArray 25 (0, 0))).alloc (.cells (t.map (Value.int .u8)).toArray 25 (0, 0)))) (n := w.heap.size + 1 + 1 + 1) (by simp only [World.size_alloc]) (d.map (Value.int .u8)).toArray 25)
  have Hb := hid b4
  have hbz := b4.size
  have Hbs := hid (show w.heap.size + 1 + 1 + 1 + 1 = ((((w.alloc (.cells (o.map (Value.int .u8)).toArray 25 (0, 0))).alloc (.cells (x.map (Value.int .u8)).toArray 25 (0, 0))).alloc (.cells (t.map (Value.int .u8)).toArray 25 (0, 0))).alloc (.cells (d.map (Value.int .u8)).toArray 25 (0, 0))).heap.size by simp only [World.size_alloc])
  clear b1 b2 b3 b4 
  have hc : ¬ (64 : Int) < (vl : Int) := by omega
  have CW := hid (fun W : World => refwhole_any d pa pl pc W hd)
  rw [decide_eq_false h3] at CW
  go_enter Tryz.func15, Tryz.ntmps15
  go_wp2_with fail
  refine (may_t na nn nc v h1.1 h1.2.1 h1.2.2 _).mono ?_
  rintro e wq ⟨rfl, rfl⟩
  go_wp2_with (refine wpList_load_blk_if (by first | rfl | go_simp) 25 _ rfl (w.heap.size + 1 + 1 + 1) rfl _ 25 Kd.out _ Tryz.underlying25 rfl 32 size_digest hd.size ?_)
  refine (CW.out _).mono ?_
  rintro e w1 ⟨rfl, bw1⟩
  have HBw1 := hid (Below.on Hb.out bw1)
  have hsw1 := HBw1.out.size
  have Kow1 := hid (Ko.out.below bw1)
  have Kxw1 := hid (Kx.out.below bw1)
  have Ktw1 := hid (Kt.out.below bw1)
  have Kdw1 := hid (Kd.out.below bw1)
  clear bw1
  go_wp2_with fail
  go_returns
  exact ⟨rfl, HBw1.out⟩
set_option maxHeartbeats 4000000 in
theorem rshown_good (o name val x t d : List Int) (na va pa : Option Addr) (nn nc vl vc pl pc : Nat) (v : Int) (ns : List (List Int)) (w : World) (ho : Dg o) (hx : Dg x) (ht : Dg t) (hd : Dg d) (hT : TextAt w na nn nc name) (hV : TextAt w va vl vc val) (hN : DigsAt w pa pl pc ns) (hv1 : v < 9223372036854775808) (h1 : 1 ≤ nn ∧ nn ≤ 64 ∧ 1 ≤ v) (h2 : vl ≤ 64) (h3 : knN d 256 = pl) :
    Calls Tryz.prog 15 #[.agg (o.map (Value.int .u8)).toArray, .slice na nn nc, .int .i64 v, .slice va vl vc, .agg (x.map (Value.int .u8)).toArray, .agg (t.map (Value.int .u8)).toArray, .agg (d.map (Value.int .u8)).toArray, .slice pa pl pc] w fun e w' => e = .returned (.bool (decide (climbK d (idxZ x v name) ns (leafE (idxZ x v name) (madeZ t val)) 256 = o))) ∧ Below w.heap.size w w' := by
  have b1 := (Below.refl w.heap.size w).alloc (Nat.le_refl _) (.cells (o.map (Value.int .u8)).toArray 25 (0, 0))
  have b2 := b1.alloc b1.size (.cells (x.map (Value.int .u8)).toArray 25 (0, 0))
  have b3 := b2.alloc b2.size (.cells (t.map (Value.int .u8)).toArray 25 (0, 0))
  have b4 := b3.alloc b3.size (.cells (d.map (Value.int .u8)).toArray 25 (0, 0))
  have Ko := hid ((((Blk.new (w := w) (n := w.heap.size) rfl (o.map (Value.int .u8)).toArray 25).old (.cells (x.map (Value.int .u8)).toArray 25 (0, 0))).old (.cells (t.map (Value.int .u8)).toArray 25 (0, 0))).old (.cells (d.map (Value.int .u8)).toArray 25 (0, 0)))
  have Kx := hid (((Blk.new (w := (w.alloc (.cells (o.map (Value.int .u8)).toArray 25 (0, 0)))) (n := w.heap.size + 1) (by simp only [World.size_alloc]) (x.map (Value.int .u8)).toArray 25).old (.cells (t.map (Value.int .u8)).toArray 25 (0, 0))).old (.cells (d.map (Value.int .u8)).toArray 25 (0, 0)))
  have Kt := hid ((Blk.new (w := ((w.alloc (.cells (o.map (Value.int .u8)).toArray 25 (0, 0))).alloc (.cells (x.map (Value.int .u8)).toArray 25 (0, 0)))) (n := w.heap.size + 1 + 1) (by simp only [World.size_alloc]) (t.map (Value.int .u8)).toArray 25).old (.cells (d.map (Value.int .u8)).toArray 25 (0, 0)))
  have Kd := hid (Blk.new (w := (((w.alloc (.cells (o.map (Value.int .u8)).toArray 25 (0, 0))).alloc (.cells (x.map (Value.int .u8)).toArray 25 (0, 0))).alloc (.cells (t.map (Value.int .u8)).toArray 25 (0, 0)))) (n := w.heap.size + 1 + 1 + 1) (by simp only [World.size_alloc]) (d.map (Value.int .u8)).toArray 25)
  have Hb := hid b4
  have hbz := b4.size
  have Hbs := hid (show w.heap.size + 1 + 1 + 1 + 1 = ((((w.alloc (.cells (o.map (Value.int .u8)).toArray 25 (0, 0))).alloc (.cells (x.map (Value.int .u8)).toArray 25 (0, 0))).alloc (.cells (t.map (Value.int .u8)).toArray 25 (0, 0))).alloc (.cells (d.map (Value.int .u8)).toArray 25 (0, 0))).heap.size by simp only [World.size_alloc])
  clear b1 b2 b3 b4 
  have hc : ¬ (64 : Int) < (vl : Int) := by omega
  have CW := hid (fun W : World => refwhole_any d pa pl pc W hd)
  rw [decide_eq_true h3] at CW
  have HT := hid (hT.below Hb.out)
  have HV := hid (hV.below Hb.out)
  have HNS := hid (hN.below Hb.out)
  have HI := hid (Dg.idx x v name)
  have CI := hid (fun (W : World) (h : TextAt W na nn nc name) => refcfrom_any x name v na nn nc W hx h (by omega) (by omega) hv1)
  have CM := hid (fun (W : World) (h : TextAt W va vl vc val) => refcmade_any t val va vl vc W ht h (by omega))
  have HM := hid (Dg.made t val)
  clear hT hV
  generalize idxZ x v name = I at *
  generalize madeZ t val = M at *
  have HL := hid (Dg.leafE I M)
  have CL := hid (fun W : World => refleafE_any I M W HI.out HM.out)
  have HBE := hid (fun W : World => run_build_rent HI.out HM.out W)
  generalize leafE I M = L at *
  have HC := hid (Dg.climbK HL.out d I ns 256)
  have CC := hid (fun (W : World) (h : DigsAt W pa pl pc ns) => refclimb_any_q L I d pa pl pc ns W HL.out HI.out hd h3 h)
  generalize climbK d I ns L 256 = C at *
  have qe := fun W : World => eqD C o HC.out.len ho.len W
  generalize decide (C = o) = B at *
  have KT := HT
  have KV := HV
  have KN := HNS
  clear HT HV HNS h3
  go_enter Tryz.func15, Tryz.ntmps15
  go_wp2_with fail
  refine (may_t na nn nc v h1.1 h1.2.1 h1.2.2 _).mono ?_
  rintro e wq ⟨rfl, rfl⟩
  go_wp2_with (refine wpList_load_blk_if (by first | rfl | go_simp) 25 _ rfl (w.heap.size + 1 + 1 + 1) rfl _ 25 Kd.out _ Tryz.underlying25 rfl 32 size_digest hd.size ?_)
  refine (CW.out _).mono ?_
  rintro e w1 ⟨rfl, bw1⟩
  have HBw1 := hid (Below.on Hb.out bw1)
  have hsw1 := HBw1.out.size
  have Kow1 := hid (Ko.out.below bw1)
  have Kxw1 := hid (Kx.out.below bw1)
  have Ktw1 := hid (Kt.out.below bw1)
  have Kdw1 := hid (Kd.out.below bw1)
  have KTw1 := hid (KT.out.below bw1)
  have KVw1 := hid (KV.out.below bw1)
  have KNw1 := hid (KN.out.below bw1)
  clear bw1
  go_wp2_with (refine wpList_load_blk rfl 25 _ rfl (w.heap.size + 1) rfl _ 25 Kxw1.out _ Tryz.underlying25 rfl 32 size_digest hx.size ?_)
  refine (CI.out _ KTw1.out).mono ?_
  rintro e w2 ⟨rfl, bw2⟩
  have HBw2 := hid (Below.on HBw1.out bw2)
  have hsw2 := HBw2.out.size
  have Kow2 := hid (Kow1.out.below bw2)
  have Kxw2 := hid (Kxw1.out.below bw2)
  have Ktw2 := hid (Ktw1.out.below bw2)
  have Kdw2 := hid (Kdw1.out.below bw2)
  have KTw2 := hid (KTw1.out.below bw2)
  have KVw2 := hid (KVw1.out.below bw2)
  have KNw2 := hid (KNw1.out.below bw2)
  clear bw2
  go_wp2_with (
        refine wpList_store_blk rfl 25 _ _ rfl (w2.heap.size) (I.map (Value.int .u8)).toArray rfl rfl _ 25 (Blk.new rfl (byteCells 32 []) _) 32 size_digest zsize HI.out.size (ints_one _ _) ?_
        intro w3 hbw3 hkw3
        have hw3 := hbw3.below ((Below.refl w2.heap.size w2).alloc (Nat.le_refl _) _) (by simp only [World.size_alloc]; omega) (Nat.le_refl _)
        have HBw3 := hid (Below.on HBw2.out hw3)
        have hsw3 := HBw3.out.size
        have Kow3 := hid (Kow2.out.below hw3)
        have hlow3 := Kow2.out.lt
        have Kxw3 := hid (Kxw2.out.below hw3)
        have hlxw3 := Kxw2.out.lt
        have Ktw3 := hid (Ktw2.out.below hw3)
        have hltw3 := Ktw2.out.lt
        have Kdw3 := hid (Kdw2.out.below hw3)
        have hldw3 := Kdw2.out.lt
        have KTw3 := hid (KTw2.out.below hw3)
        have KVw3 := hid (KVw2.out.below hw3)
        have KNw3 := hid (KNw2.out.below hw3)
        have Kiw3 := hid hkw3
        have hfw3 : w.heap.size ≤ w2.heap.size := HBw2.out.size
        clear hbw3 hkw3 hw3)
  generalize hbi : w2.heap.size = bi at *
  simp only [Act.put]
  refine wp_region_flow 7 [0, 1, 2, 3, 4, 5] [6] [(.b 6, [], [])] (by kernel_rfl) (by kernel_rfl) ?_
  apply Exists.intro
  refine ⟨fun w0 hb0 hF0 => ?_, ?_⟩
  · skip
    have x0 : ∀ w', (∃ x : Ext w0, w' = x.at_) → ∃ T, Blk w' (bi) (I.map (Value.int .u8)).toArray T := fun w' ⟨x, hx⟩ => ⟨_, hx ▸ (Kiw3.out.below hb0).below x.same⟩
    have x1 : ∀ w', (∃ x : Ext w0, w' = x.at_) → ∃ T, Blk w' (w.heap.size + 1 + 1) (t.map (Value.int .u8)).toArray T := fun w' ⟨x, hx⟩ => ⟨_, hx ▸ (Ktw3.out.below hb0).below x.same⟩
    have c0 := fun e : Ext w0 => CM.out e.at_ ((KVw3.out.below hb0).below e.same)
    have c1 := fun e : Ext w0 => CL.out e.at_
    simp only [pick, List.getElem?_toArray, List.getElem?_cons_succ, List.getElem?_cons_zero, Option.toList_some, List.cons_append, List.nil_append]
    repeat (first | (go_big_quiet_want; refine quiet_load_blk 25 _ rfl (bi) rfl _ x0 _ Tryz.underlying25 rfl 32 size_digest HI.out.size ?_; go_big_quiet_on; simp only [Act.put, List.setIfInBounds_toArray, List.set_cons_zero, List.set_cons_succ]) | (go_big_quiet_want; refine quiet_load_blk 25 _ rfl (w.heap.size + 1 + 1) rfl _ x1 _ Tryz.underlying25 rfl 32 size_digest ht.size ?_; go_big_quiet_on; simp only [Act.put, List.setIfInBounds_toArray, List.set_cons_zero, List.set_cons_succ]) | go_big_quiet_step (first | (go_at_call 39; with_reducible exact Calls.ext (c0 _)) | (go_at_call 38; with_reducible exact Calls.ext (c1 _))) | (go_big_quiet_want; refine quiet_build_rent (.tmp 38) (.tmp 41) _ _ _ rfl rfl rfl HBE.out ?_; go_big_quiet_on; simp only [Act.put, List.setIfInBounds_toArray, List.set_cons_zero, List.set_cons_succ]))
    exact wpQuiet_nil rfl
  refine AlChk.one rfl (fun b => .pointer (some ⟨b, 0, none⟩)) (.cells (byteCells 32 []) 25 (0, 0)) rfl (fun w3 hb3 hF3 => by go_simp; rfl) ?_
  refine AlChk.nil ?_
  refine Walk.blk rfl (fun b => .pointer (some ⟨b, 0, none⟩)) (.cells (byteCells 32 []) 25 (0, 0)) (by simp) ?_
  intro bw4 wz hbz_ hFz hgew4 _
  apply Exists.intro
  refine ⟨fun w4 hb4 hF4 => wpQuiet_nil rfl, ?_⟩
  refine AlChk.nil ?_
  refine Walk.fin fun w4 hw4 hFw4 _ => ?_
  simp only [List.drop_succ_cons, List.drop_zero]
  have kbw4 : Blk w4 bw4 (byteCells 32 []) 25 := hFw4.2
  have Kzw4 := hid kbw4
  have hgww4 : w.heap.size ≤ bw4 := Nat.le_trans HBw3.out.size hgew4
  clear hbz_ hFz hFw4 kbw4
  have hnow4 : w.heap.size ≠ bw4 := by have := Kow3.out.lt; omega
  have hnxw4 : w.heap.size + 1 ≠ bw4 := by have := Kxw3.out.lt; omega
  have hntw4 : w.heap.size + 1 + 1 ≠ bw4 := by have := Ktw3.out.lt; omega
  have hndw4 : w.heap.size + 1 + 1 + 1 ≠ bw4 := by have := Kdw3.out.lt; omega
  have hniw4 : bi ≠ bw4 := by have := Kiw3.out.lt; omega
  have HBw4 := hid (Below.on HBw3.out hw4)
  have hsw4 := HBw4.out.size
  have Kow4 := hid (Kow3.out.below hw4)
  have Kxw4 := hid (Kxw3.out.below hw4)
  have Ktw4 := hid (Ktw3.out.below hw4)
  have Kdw4 := hid (Kdw3.out.below hw4)
  have Kiw4 := hid (Kiw3.out.below hw4)
  have KNw4 := hid (KNw3.out.below hw4)
  clear hw4
  go_wp2_with (
        refine wpList_store_blk rfl 25 _ _ rfl bw4 (L.map (Value.int .u8)).toArray rfl rfl _ 25 Kzw4.out 32 size_digest zsize HL.out.size (ints_one _ _) ?_
        intro w5 hbw5 hkw5
        have HBw5 := hid (hbw5.below HBw4.out HBw4.out.size hgww4)
        have hsw5 := HBw5.out.size
        have Klw5 := hid hkw5
        have Kow5 := hid (hbw5.blk Kow4.out hnow4)
        have Kxw5 := hid (hbw5.blk Kxw4.out hnxw4)
        have Ktw5 := hid (hbw5.blk Ktw4.out hntw4)
        have Kdw5 := hid (hbw5.blk Kdw4.out hndw4)
        have Kiw5 := hid (hbw5.blk Kiw4.out hniw4)
        have KNw5 := hid (hN.below HBw5.out)
        clear hbw5 hkw5)
  simp only [Act.put, List.setIfInBounds_toArray, List.set_cons_zero, List.set_cons_succ]
  refine wp_region_flow 7 (List.range 7) [] [] (by kernel_rfl) (by kernel_rfl) ?_
  apply Exists.intro
  refine ⟨fun w0 hb0 hF0 => ?_, ?_⟩
  · skip
    have x0 : ∀ w', (∃ x : Ext w0, w' = x.at_) → ∃ T, Blk w' (bw4) (L.map (Value.int .u8)).toArray T := fun w' ⟨x, hx⟩ => ⟨_, hx ▸ (Klw5.out.below hb0).below x.same⟩
    have x1 : ∀ w', (∃ x : Ext w0, w' = x.at_) → ∃ T, Blk w' (bi) (I.map (Value.int .u8)).toArray T := fun w' ⟨x, hx⟩ => ⟨_, hx ▸ (Kiw5.out.below hb0).below x.same⟩
    have x2 : ∀ w', (∃ x : Ext w0, w' = x.at_) → ∃ T, Blk w' (w.heap.size + 1 + 1 + 1) (d.map (Value.int .u8)).toArray T := fun w' ⟨x, hx⟩ => ⟨_, hx ▸ (Kdw5.out.below hb0).below x.same⟩
    have x3 : ∀ w', (∃ x : Ext w0, w' = x.at_) → ∃ T, Blk w' (w.heap.size) (o.map (Value.int .u8)).toArray T := fun w' ⟨x, hx⟩ => ⟨_, hx ▸ (Kow5.out.below hb0).below x.same⟩
    have c0 := fun e : Ext w0 => CC.out e.at_ ((KNw5.out.below hb0).below e.same)
    simp only [pick, List.range, List.range.loop, List.getElem?_toArray, List.getElem?_cons_succ, List.getElem?_cons_zero, Option.toList_some, List.cons_append, List.nil_append]
    repeat (first | (go_big_quiet_want; refine quiet_load_blk 25 _ rfl (bw4) rfl _ x0 _ Tryz.underlying25 rfl 32 size_digest HL.out.size ?_; go_big_quiet_on; simp only [Act.put, List.setIfInBounds_toArray, List.set_cons_zero, List.set_cons_succ]) | (go_big_quiet_want; refine quiet_load_blk 25 _ rfl (bi) rfl _ x1 _ Tryz.underlying25 rfl 32 size_digest HI.out.size ?_; go_big_quiet_on; simp only [Act.put, List.setIfInBounds_toArray, List.set_cons_zero, List.set_cons_succ]) | (go_big_quiet_want; refine quiet_load_blk 25 _ rfl (w.heap.size + 1 + 1 + 1) rfl _ x2 _ Tryz.underlying25 rfl 32 size_digest hd.size ?_; go_big_quiet_on; simp only [Act.put, List.setIfInBounds_toArray, List.set_cons_zero, List.set_cons_succ]) | (go_big_quiet_want; refine quiet_load_blk 25 _ rfl (w.heap.size) rfl _ x3 _ Tryz.underlying25 rfl 32 size_digest ho.size ?_; go_big_quiet_on; simp only [Act.put, List.setIfInBounds_toArray, List.set_cons_zero, List.set_cons_succ]) | (go_big_quiet_want; refine quiet_cmp _ _ rfl _ _ _ rfl rfl qe ?_; go_big_quiet_on; simp only [Act.put, List.setIfInBounds_toArray, List.set_cons_zero, List.set_cons_succ]) | go_big_quiet_step (first | (go_at_call 40; with_reducible exact Calls.ext (c0 _))))
    exact wpQuiet_nil rfl
  refine AlChk.nil ?_
  refine Walk.fin fun w6 hw6 _ _ => ?_
  simp only [List.drop_succ_cons, List.drop_zero]
  have HBw6 := hid (Below.on HBw5.out hw6)
  have hsw6 := HBw6.out.size
  have Kow6 := hid (Kow5.out.below hw6)
  have Kxw6 := hid (Kxw5.out.below hw6)
  have Ktw6 := hid (Ktw5.out.below hw6)
  have Kdw6 := hid (Kdw5.out.below hw6)
  have Kiw6 := hid (Kiw5.out.below hw6)
  have Klw6 := hid (Klw5.out.below hw6)
  clear hw6
  go_wp2_with fail
  go_returns
  exact ⟨rfl, HBw6.out⟩
theorem rshown_any (o name : List Int) (na : Option Addr) (nn nc : Nat) (s : Shn) (w : World) (ho : Dg o) (hT : TextAt w na nn nc name) (hs : ShnOk w s) :
    Calls Tryz.prog 15 #[.agg (o.map (Value.int .u8)).toArray, .slice na nn nc, .int .i64 s.v, .slice s.va s.vl s.vc, .agg (s.nonce.map (Value.int .u8)).toArray, .agg (s.salt.map (Value.int .u8)).toArray, .agg (s.known.map (Value.int .u8)).toArray, .slice s.pa s.pl s.pc] w fun e w' => e = .returned (.bool (shownB o name nn s)) ∧ Below w.heap.size w w' := by
  unfold shownB leadB
  cases h1 : mayP nn s.v with
  | false => exact rshown_may o name s.val s.nonce s.salt s.known na s.va s.pa nn nc s.vl s.vc s.pl s.pc s.v s.nodes w ho hs.nonce hs.salt hs.known hT hs.val hs.nodes hs.hi (mayP_f h1)
  | true =>
    by_cases h2 : s.vl ≤ 64
    · rw [decide_eq_true h2, hs.nodes.length]
      by_cases h3 : knN s.known 256 = s.pl
      · rw [decide_eq_true h3]
        exact rshown_good o name s.val s.nonce s.salt s.known na s.va s.pa nn nc s.vl s.vc s.pl s.pc s.v s.nodes w ho hs.nonce hs.salt hs.known hT hs.val hs.nodes hs.hi (mayP_t h1) h2 h3
      · rw [decide_eq_false h3]
        exact rshown_whole o name s.val s.nonce s.salt s.known na s.va s.pa nn nc s.vl s.vc s.pl s.pc s.v s.nodes w ho hs.nonce hs.salt hs.known hT hs.val hs.nodes hs.hi (mayP_t h1) h2 h3
    · rw [decide_eq_false h2]
      exact rshown_val o name s.val s.nonce s.salt s.known na s.va s.pa nn nc s.vl s.vc s.pl s.pc s.v s.nodes w ho hs.nonce hs.salt hs.known hT hs.val hs.nodes hs.hi (mayP_t h1) (by omega)
end Go.Proofs.YtkakoiaahgchmaaGreatDoor
namespace Go.Proofs.YtkakoiaahgchmaaGreatDoor
set_option maxRecDepth 100000
open Go.ChangeShapes Go.WideShapes Go.ChangeAt Go.RowKit
theorem wrap64_hi (n : Int) : wrap64 n < 9223372036854775808 := by unfold wrap64; omega
set_option maxHeartbeats 4000000 in
theorem rgone_may (o name x d : List Int) (na pa : Option Addr) (nn nc pl pc : Nat) (v : Int) (ns : List (List Int)) (w : World) (_ho : Dg o) (_hx : Dg x) (_hd : Dg d) (_hT : TextAt w na nn nc name) (_hN : DigsAt w pa pl pc ns) (_hv1 : v < 9223372036854775808) (h1 : (nn = 0 ∨ 64 < nn) ∨ v < 1) :
    Calls Tryz.prog 17 #[.agg (o.map (Value.int .u8)).toArray, .slice na nn nc, .int .i64 v, .agg (x.map (Value.int .u8)).toArray, .agg (d.map (Value.int .u8)).toArray, .slice pa pl pc] w fun e w' => e = .returned (.bool false) ∧ Below w.heap.size w w' := by
  have b1 := (Below.refl w.heap.size w).alloc (Nat.le_refl _) (.cells (o.map (Value.int .u8)).toArray 25 (0, 0))
  have b2 := b1.alloc b1.size (.cells (x.map (Value.int .u8)).toArray 25 (0, 0))
  have b3 := b2.alloc b2.size (.cells (d.map (Value.int .u8)).toArray 25 (0, 0))
  have Ko := hid (((Blk.new (w := w) (n := w.heap.size) rfl (o.map (Value.int .u8)).toArray 25).old (.cells (x.map (Value.int .u8)).toArray 25 (0, 0))).old (.cells (d.map (Value.int .u8)).toArray 25 (0, 0)))
  have Kx := hid ((Blk.new (w := (w.alloc (.cells (o.map (Value.int .u8)).toArray 25 (0, 0)))) (n := w.heap.size + 1) (by simp only [World.size_alloc]) (x.map (Value.int .u8)).toArray 25).old (.cells (d.map (Value.int .u8)).toArray 25 (0, 0)))
  have Kd := hid (Blk.new (w := ((w.alloc (.cells (o.map (Value.int .u8)).toArray 25 (0, 0))).alloc (.cells (x.map (Value.int .u8)).toArray 25 (0, 0)))) (n := w.heap.size + 1 + 1) (by simp only [World.size_alloc]) (d.map (Value.int .u8)).toArray 25)
  have Hb := hid b3
  have hbz := b3.size
  have Hbs := hid (show w.heap.size + 1 + 1 + 1 = (((w.alloc (.cells (o.map (Value.int .u8)).toArray 25 (0, 0))).alloc (.cells (x.map (Value.int .u8)).toArray 25 (0, 0))).alloc (.cells (d.map (Value.int .u8)).toArray 25 (0, 0))).heap.size by simp only [World.size_alloc])
  clear b1 b2 b3 
  go_enter Tryz.func17, Tryz.ntmps17
  go_wp2_with fail
  refine (may_f na nn nc v h1 _).mono ?_
  rintro e wq ⟨rfl, rfl⟩
  go_wp2_with fail
  go_returns
  exact ⟨rfl, Hb.out⟩
set_option maxHeartbeats 4000000 in
theorem rgone_whole (o name x d : List Int) (na pa : Option Addr) (nn nc pl pc : Nat) (v : Int) (ns : List (List Int)) (w : World) (_ho : Dg o) (_hx : Dg x) (hd : Dg d) (_hT : TextAt w na nn nc name) (_hN : DigsAt w pa pl pc ns) (_hv1 : v < 9223372036854775808) (h1 : 1 ≤ nn ∧ nn ≤ 64 ∧ 1 ≤ v) (h3 : ¬ knN d 256 = pl) :
    Calls Tryz.prog 17 #[.agg (o.map (Value.int .u8)).toArray, .slice na nn nc, .int .i64 v, .agg (x.map (Value.int .u8)).toArray, .agg (d.map (Value.int .u8)).toArray, .slice pa pl pc] w fun e w' => e = .returned (.bool false) ∧ Below w.heap.size w w' := by
  have b1 := (Below.refl w.heap.size w).alloc (Nat.le_refl _) (.cells (o.map (Value.int .u8)).toArray 25 (0, 0))
  have b2 := b1.alloc b1.size (.cells (x.map (Value.int .u8)).toArray 25 (0, 0))
  have b3 := b2.alloc b2.size (.cells (d.map (Value.int .u8)).toArray 25 (0, 0))
  have Ko := hid (((Blk.new (w := w) (n := w.heap.size) rfl (o.map (Value.int .u8)).toArray 25).old (.cells (x.map (Value.int .u8)).toArray 25 (0, 0))).old (.cells (d.map (Value.int .u8)).toArray 25 (0, 0)))
  have Kx := hid ((Blk.new (w := (w.alloc (.cells (o.map (Value.int .u8)).toArray 25 (0, 0)))) (n := w.heap.size + 1) (by simp only [World.size_alloc]) (x.map (Value.int .u8)).toArray 25).old (.cells (d.map (Value.int .u8)).toArray 25 (0, 0)))
  have Kd := hid (Blk.new (w := ((w.alloc (.cells (o.map (Value.int .u8)).toArray 25 (0, 0))).alloc (.cells (x.map (Value.int .u8)).toArray 25 (0, 0)))) (n := w.heap.size + 1 + 1) (by simp only [World.size_alloc]) (d.map (Value.int .u8)).toArray 25)
  have Hb := hid b3
  have hbz := b3.size
  have Hbs := hid (show w.heap.size + 1 + 1 + 1 = (((w.alloc (.cells (o.map (Value.int .u8)).toArray 25 (0, 0))).alloc (.cells (x.map (Value.int .u8)).toArray 25 (0, 0))).alloc (.cells (d.map (Value.int .u8)).toArray 25 (0, 0))).heap.size by simp only [World.size_alloc])
  clear b1 b2 b3 
  have CW := hid (fun W : World => refwhole_any d pa pl pc W hd)
  rw [decide_eq_false h3] at CW
  go_enter Tryz.func17, Tryz.ntmps17
  go_wp2_with fail
  refine (may_t na nn nc v h1.1 h1.2.1 h1.2.2 _).mono ?_
  rintro e wq ⟨rfl, rfl⟩
  go_wp2_with (refine wpList_load_blk_if (by first | rfl | go_simp) 25 _ rfl (w.heap.size + 1 + 1) rfl _ 25 Kd.out _ Tryz.underlying25 rfl 32 size_digest hd.size ?_)
  refine (CW.out _).mono ?_
  rintro e w1 ⟨rfl, bw1⟩
  have HBw1 := hid (Below.on Hb.out bw1)
  have hsw1 := HBw1.out.size
  have Kow1 := hid (Ko.out.below bw1)
  have Kxw1 := hid (Kx.out.below bw1)
  have Kdw1 := hid (Kd.out.below bw1)
  clear bw1
  go_wp2_with fail
  go_returns
  exact ⟨rfl, HBw1.out⟩
set_option maxHeartbeats 4000000 in
theorem rgone_good (o name x d : List Int) (na pa : Option Addr) (nn nc pl pc : Nat) (v : Int) (ns : List (List Int)) (w : World) (ho : Dg o) (hx : Dg x) (hd : Dg d) (hT : TextAt w na nn nc name) (hN : DigsAt w pa pl pc ns) (hv1 : v < 9223372036854775808) (h1 : 1 ≤ nn ∧ nn ≤ 64 ∧ 1 ≤ v) (h3 : knN d 256 = pl) :
    Calls Tryz.prog 17 #[.agg (o.map (Value.int .u8)).toArray, .slice na nn nc, .int .i64 v, .agg (x.map (Value.int .u8)).toArray, .agg (d.map (Value.int .u8)).toArray, .slice pa pl pc] w fun e w' => e = .returned (.bool (decide (climbK d (idxZ x v name) ns (emptyL 0) 256 = o))) ∧ Below w.heap.size w w' := by
  have b1 := (Below.refl w.heap.size w).alloc (Nat.le_refl _) (.cells (o.map (Value.int .u8)).toArray 25 (0, 0))
  have b2 := b1.alloc b1.size (.cells (x.map (Value.int .u8)).toArray 25 (0, 0))
  have b3 := b2.alloc b2.size (.cells (d.map (Value.int .u8)).toArray 25 (0, 0))
  have Ko := hid (((Blk.new (w := w) (n := w.heap.size) rfl (o.map (Value.int .u8)).toArray 25).old (.cells (x.map (Value.int .u8)).toArray 25 (0, 0))).old (.cells (d.map (Value.int .u8)).toArray 25 (0, 0)))
  have Kx := hid ((Blk.new (w := (w.alloc (.cells (o.map (Value.int .u8)).toArray 25 (0, 0)))) (n := w.heap.size + 1) (by simp only [World.size_alloc]) (x.map (Value.int .u8)).toArray 25).old (.cells (d.map (Value.int .u8)).toArray 25 (0, 0)))
  have Kd := hid (Blk.new (w := ((w.alloc (.cells (o.map (Value.int .u8)).toArray 25 (0, 0))).alloc (.cells (x.map (Value.int .u8)).toArray 25 (0, 0)))) (n := w.heap.size + 1 + 1) (by simp only [World.size_alloc]) (d.map (Value.int .u8)).toArray 25)
  have Hb := hid b3
  have hbz := b3.size
  have Hbs := hid (show w.heap.size + 1 + 1 + 1 = (((w.alloc (.cells (o.map (Value.int .u8)).toArray 25 (0, 0))).alloc (.cells (x.map (Value.int .u8)).toArray 25 (0, 0))).alloc (.cells (d.map (Value.int .u8)).toArray 25 (0, 0))).heap.size by simp only [World.size_alloc])
  clear b1 b2 b3 
  have CW := hid (fun W : World => refwhole_any d pa pl pc W hd)
  rw [decide_eq_true h3] at CW
  have HI := hid (Dg.idx x v name)
  have CI := hid (fun (W : World) (h : TextAt W na nn nc name) => refcfrom_any x name v na nn nc W hx h (by omega) (by omega) hv1)
  generalize idxZ x v name = I at *
  have CRE := hid (fun W : World => refempty_any W)
  have Hlen := hid (empN_length 257)
  have Hget := hid (empN_get (n := 257) (k := 0) (by omega))
  have HE := hid (Dg.emptyL 0)
  generalize empN 257 = ds at *
  generalize emptyL 0 = E at *
  have HC := hid (Dg.climbK HE.out d I ns 256)
  have CZ := hid (fun (W : World) (h : DigsAt W pa pl pc ns) => refclimb_any_q E I d pa pl pc ns W HE.out HI.out hd h3 h)
  generalize climbK d I ns E 256 = C at *
  have qe := fun W : World => eqD C o HC.out.len ho.len W
  generalize decide (C = o) = B at *
  clear h3
  go_enter Tryz.func17, Tryz.ntmps17
  go_wp2_with fail
  refine (may_t na nn nc v h1.1 h1.2.1 h1.2.2 _).mono ?_
  rintro e wq ⟨rfl, rfl⟩
  go_wp2_with (refine wpList_load_blk_if (by first | rfl | go_simp) 25 _ rfl (w.heap.size + 1 + 1) rfl _ 25 Kd.out _ Tryz.underlying25 rfl 32 size_digest hd.size ?_)
  refine (CW.out _).mono ?_
  rintro e w1 ⟨rfl, bw1⟩
  have HBw1 := hid (Below.on Hb.out bw1)
  have hsw1 := HBw1.out.size
  have Kow1 := hid (Ko.out.below bw1)
  have Kxw1 := hid (Kx.out.below bw1)
  have Kdw1 := hid (Kd.out.below bw1)
  clear bw1
  go_wp2_with fail
  refine wp_region_flow 12 [3, 4, 5, 7, 8, 10] [] [(.c 0, [1, 2, 6, 9, 11], [])] (by kernel_rfl) (by kernel_rfl) ?_
  apply Exists.intro
  refine ⟨fun w0 hb0 hF0 => ?_, ?_⟩
  · skip
    have x0 : ∀ w', (∃ x : Ext w0, w' = x.at_) → ∃ T, Blk w' (w.heap.size + 1) (x.map (Value.int .u8)).toArray T := fun w' ⟨x, hx⟩ => ⟨_, hx ▸ (Kxw1.out.below hb0).below x.same⟩
    have x1 : ∀ w', (∃ x : Ext w0, w' = x.at_) → ∃ T, Blk w' (w.heap.size + 1 + 1) (d.map (Value.int .u8)).toArray T := fun w' ⟨x, hx⟩ => ⟨_, hx ▸ (Kdw1.out.below hb0).below x.same⟩
    have x2 : ∀ w', (∃ x : Ext w0, w' = x.at_) → ∃ T, Blk w' (w.heap.size) (o.map (Value.int .u8)).toArray T := fun w' ⟨x, hx⟩ => ⟨_, hx ▸ (Kow1.out.below hb0).below x.same⟩
    simp only [pick, List.getElem?_toArray, List.getElem?_cons_succ, List.getElem?_cons_zero, Option.toList_some, List.cons_append, List.nil_append]
    repeat (first | (go_big_quiet_want; refine quiet_load_blk 25 _ rfl (w.heap.size + 1) rfl _ x0 _ Tryz.underlying25 rfl 32 size_digest hx.size ?_; go_big_quiet_on; simp only [Act.put, List.setIfInBounds_toArray, List.set_cons_zero, List.set_cons_succ]) | (go_big_quiet_want; refine quiet_load_blk 25 _ rfl (w.heap.size + 1 + 1) rfl _ x1 _ Tryz.underlying25 rfl 32 size_digest hd.size ?_; go_big_quiet_on; simp only [Act.put, List.setIfInBounds_toArray, List.set_cons_zero, List.set_cons_succ]) | (go_big_quiet_want; refine quiet_load_blk 25 _ rfl (w.heap.size) rfl _ x2 _ Tryz.underlying25 rfl 32 size_digest ho.size ?_; go_big_quiet_on; simp only [Act.put, List.setIfInBounds_toArray, List.set_cons_zero, List.set_cons_succ]) | go_big_quiet_step (fail))
    exact wpQuiet_nil rfl
  refine AlChk.nil ?_
  refine Walk.call rfl 49 #[] (fun v w' => ∃ a c, v = .slice a 257 c ∧ DigsAt w' a 257 c ds) (fun v w' w'' h k => by obtain ⟨a, c, h1, h2⟩ := h; exact ⟨a, c, h1, h2.below k⟩) rfl (fun q1 hb1 hF1 => ⟨by go_simp, ?_⟩) ?_
  · refine (CRE.out q1).mono ?_
    rintro e q2 ⟨v, rfl, b2, o2⟩
    obtain ⟨a, c', rfl, hd, _⟩ := OwnD.digs o2
    rw [Hlen.out] at hd ⊢
    exact ⟨_, rfl, b2, a, c', rfl, hd⟩
  rintro v0 q1 hb1 hF1 ⟨a2, c2, rfl, hd0⟩
  obtain ⟨g2, o2, rfl, -, -⟩ := hd0.at_ (by omega)
  clear hd0
  apply Exists.intro
  refine ⟨fun w0 hb0 hF0 => ?_, ?_⟩
  · skip
    obtain ⟨_, a3, c3, he3, hd3⟩ := hF0
    cases he3
    have yr : ∀ w', (∃ x : Ext w0, w' = x.at_) → w'.rangeAt g2 (o2 + 0 * 32) (E.map (Value.int .u8)) := fun w' ⟨x, hx⟩ => by
      obtain ⟨g4, o4, h4, -, h5⟩ := (hd3.below x.same).at_ (by omega)
      cases h4
      have h6 := h5 0 (by omega)
      rw [Hget.out] at h6
      rw [hx]
      exact h6
    have c0 := fun e : Ext w0 => CI.out e.at_ (hT.below (Below.on (Below.on HBw1.out hb0) e.same))
    have c1 := fun e : Ext w0 => CZ.out e.at_ (hN.below (Below.on (Below.on HBw1.out hb0) e.same))
    simp only [pick, List.getElem?_toArray, List.getElem?_cons_succ, List.getElem?_cons_zero, Option.toList_some, List.cons_append, List.nil_append, Act.put, List.setIfInBounds_toArray, List.set_cons_zero, List.set_cons_succ]
    repeat (first | (go_big_quiet_want; refine quiet_index_digs 33 _ _ rfl Tryz.underlying33 size_digest g2 o2 257 c2 rfl _ _ rfl 0 rfl (by omega) ?_; go_big_quiet_on; simp only [Act.put, List.setIfInBounds_toArray, List.set_cons_zero, List.set_cons_succ]) | (go_big_quiet_want; refine quiet_load_mid 25 _ rfl g2 (o2 + 0 * 32) rfl _ yr _ Tryz.underlying25 rfl (by rw [List.length_map, HE.out.len]; exact size_digest) ?_; go_big_quiet_on; simp only [Act.put, List.setIfInBounds_toArray, List.set_cons_zero, List.set_cons_succ]) | (go_big_quiet_want; refine quiet_cmp _ _ rfl _ _ _ rfl rfl qe ?_; go_big_quiet_on; simp only [Act.put, List.setIfInBounds_toArray, List.set_cons_zero, List.set_cons_succ]) | go_big_quiet_step (first | (go_at_call 37; with_reducible exact Calls.ext (c0 _)) | (go_at_call 40; with_reducible exact Calls.ext (c1 _))))
    exact wpQuiet_nil rfl
  refine AlChk.nil ?_
  refine Walk.fin fun w5 h5 hF5 _ => ?_
  simp only [List.drop_succ_cons, List.drop_zero]
  have HB5 := hid (Below.on HBw1.out h5)
  clear h5 hF5
  go_wp2_with fail
  go_returns
  exact ⟨rfl, HB5.out⟩
theorem rgone_any (o name x d : List Int) (na pa : Option Addr) (nn nc pl pc : Nat) (v : Int) (ns : List (List Int)) (w : World) (ho : Dg o) (hx : Dg x) (hd : Dg d) (hT : TextAt w na nn nc name) (hN : DigsAt w pa pl pc ns) (hv1 : v < 9223372036854775808) :
    Calls Tryz.prog 17 #[.agg (o.map (Value.int .u8)).toArray, .slice na nn nc, .int .i64 v, .agg (x.map (Value.int .u8)).toArray, .agg (d.map (Value.int .u8)).toArray, .slice pa pl pc] w fun e w' => e = .returned (.bool (goneB o name nn v x d ns)) ∧ Below w.heap.size w w' := by
  unfold goneB leadB
  cases h1 : mayP nn v with
  | false => exact rgone_may o name x d na pa nn nc pl pc v ns w ho hx hd hT hN hv1 (mayP_f h1)
  | true =>
    rw [hN.length]
    by_cases h3 : knN d 256 = pl
    · rw [decide_eq_true h3]
      exact rgone_good o name x d na pa nn nc pl pc v ns w ho hx hd hT hN hv1 (mayP_t h1) h3
    · rw [decide_eq_false h3]
      exact rgone_whole o name x d na pa nn nc pl pc v ns w ho hx hd hT hN hv1 (mayP_t h1) h3
set_option maxHeartbeats 4000000 in
theorem ends_bad (o name x d : List Int) (na pa : Option Addr) (nn nc pl pc : Nat) (last : Int) (s : Value) (ns : List (List Int)) (w : World) (_ho : Dg o) (hx : Dg x) (_hd : Dg d) (_hT : TextAt w na nn nc name) (_hN : DigsAt w pa pl pc ns) (tab : ShaTab w) (h1 : (nn = 0 ∨ 64 < nn) ∨ wrap64 (last + 1) < 1) :
    Calls Tryz.prog 54 #[.agg (o.map (Value.int .u8)).toArray, .slice na nn nc, .int .i64 last, .agg (ansC s x d (.slice pa pl pc)).toArray] w fun e w' => e = .returned (.bool false) ∧ Below w.heap.size w w' := by
  have b1 := (Below.refl w.heap.size w).alloc (Nat.le_refl _) (.cells (o.map (Value.int .u8)).toArray 25 (0, 0))
  have b2 := b1.alloc b1.size (.cells (ansC s x d (.slice pa pl pc)).toArray 49 (0, 0))
  have Ko := hid ((Blk.new (w := w) (n := w.heap.size) rfl (o.map (Value.int .u8)).toArray 25).old (.cells (ansC s x d (.slice pa pl pc)).toArray 49 (0, 0)))
  have Ka := hid (Blk.new (w := (w.alloc (.cells (o.map (Value.int .u8)).toArray 25 (0, 0)))) (n := w.heap.size + 1) (by simp only [World.size_alloc]) (ansC s x d (.slice pa pl pc)).toArray 49)
  have Hb := hid b2
  have hbz := b2.size
  have Hbs := hid (show w.heap.size + 1 + 1 = ((w.alloc (.cells (o.map (Value.int .u8)).toArray 25 (0, 0))).alloc (.cells (ansC s x d (.slice pa pl pc)).toArray 49 (0, 0))).heap.size by simp only [World.size_alloc])
  have Htab := hid tab
  clear b1 b2 tab 
  go_enter Tryz.func54, Tryz.ntmps54
  go_wp2_with (refine wpList_load_mid rfl 25 _ rfl (w.heap.size + 1) 1 rfl _ _ (ansC_next Ka.out) Tryz.underlying25 rfl (by rw [List.length_map, hx.len]; exact size_digest) ?_)
  refine (cfrom_bad x _ na nn nc _ hx h1).mono ?_
  rintro e w1 ⟨rfl, bw1⟩
  have HBw1 := hid (Below.on Hb.out bw1)
  have hsw1 := HBw1.out.size
  have Kow1 := hid (Ko.out.below bw1)
  have Kaw1 := hid (Ka.out.below bw1)
  clear bw1
  go_wp2_with (
        refine wpList_store_blk rfl 25 _ _ rfl (w1.heap.size) (zD.map (Value.int .u8)).toArray rfl rfl _ 25 (Blk.new rfl (byteCells 32 []) _) 32 size_digest zsize Dg.zero.size (ints_one _ _) ?_
        intro w2 hbw2 hkw2
        have hw2 := hbw2.below ((Below.refl w1.heap.size w1).alloc (Nat.le_refl _) _) (by simp only [World.size_alloc]; omega) (Nat.le_refl _)
        have HBw2 := hid (Below.on HBw1.out hw2)
        have hsw2 := HBw2.out.size
        have Kow2 := hid (Kow1.out.below hw2)
        have hlow2 := Kow1.out.lt
        have Kaw2 := hid (Kaw1.out.below hw2)
        have hlaw2 := Kaw1.out.lt
        have Kzw2 := hid hkw2
        have hfw2 : w.heap.size ≤ w1.heap.size := HBw1.out.size
        clear hbw2 hkw2 hw2)
  go_returns
  exact ⟨rfl, HBw2.out⟩
set_option maxHeartbeats 4000000 in
theorem ends_good (o name x d : List Int) (na pa : Option Addr) (nn nc pl pc : Nat) (last : Int) (s : Value) (ns : List (List Int)) (w : World) (ho : Dg o) (hx : Dg x) (hd : Dg d) (hT : TextAt w na nn nc name) (hN : DigsAt w pa pl pc ns) (tab : ShaTab w) (h1 : 1 ≤ nn ∧ nn ≤ 64 ∧ 1 ≤ wrap64 (last + 1)) :
    Calls Tryz.prog 54 #[.agg (o.map (Value.int .u8)).toArray, .slice na nn nc, .int .i64 last, .agg (ansC s x d (.slice pa pl pc)).toArray] w fun e w' => e = .returned (.bool (leadB o (idxZ x (wrap64 (last + 1)) name) (emptyL 0) d ns)) ∧ Below w.heap.size w w' := by
  have b1 := (Below.refl w.heap.size w).alloc (Nat.le_refl _) (.cells (o.map (Value.int .u8)).toArray 25 (0, 0))
  have b2 := b1.alloc b1.size (.cells (ansC s x d (.slice pa pl pc)).toArray 49 (0, 0))
  have Ko := hid ((Blk.new (w := w) (n := w.heap.size) rfl (o.map (Value.int .u8)).toArray 25).old (.cells (ansC s x d (.slice pa pl pc)).toArray 49 (0, 0)))
  have Ka := hid (Blk.new (w := (w.alloc (.cells (o.map (Value.int .u8)).toArray 25 (0, 0)))) (n := w.heap.size + 1) (by simp only [World.size_alloc]) (ansC s x d (.slice pa pl pc)).toArray 49)
  have Hb := hid b2
  have hbz := b2.size
  have Hbs := hid (show w.heap.size + 1 + 1 = ((w.alloc (.cells (o.map (Value.int .u8)).toArray 25 (0, 0))).alloc (.cells (ansC s x d (.slice pa pl pc)).toArray 49 (0, 0))).heap.size by simp only [World.size_alloc])
  have Htab := hid tab
  clear b1 b2 tab 
  have HI := hid (Dg.idx x (wrap64 (last + 1)) name)
  have CI := hid (fun (W : World) (h : TextAt W na nn nc name) (t : ShaTab W) => cfrom_good x name (wrap64 (last + 1)) na nn nc W hx h ⟨h1.1, h1.2.1⟩ h1.2.2 (wrap64_hi _) t)
  have CA := hid (fun (W : World) (h : DigsAt W pa pl pc ns) (t : ShaTab W) => absent_is o (idxZ x (wrap64 (last + 1)) name) d pa pl pc ns W ho HI.out hd h t)
  generalize leadB o (idxZ x (wrap64 (last + 1)) name) (emptyL 0) d ns = B at *
  generalize idxZ x (wrap64 (last + 1)) name = I at *
  clear h1
  go_enter Tryz.func54, Tryz.ntmps54
  go_wp2_with (refine wpList_load_mid rfl 25 _ rfl (w.heap.size + 1) 1 rfl _ _ (ansC_next Ka.out) Tryz.underlying25 rfl (by rw [List.length_map, hx.len]; exact size_digest) ?_)
  refine (CI.out _ (hT.below Hb.out) (Htab.out.below Hb.out)).mono ?_
  rintro e w1 ⟨rfl, bw1⟩
  have HBw1 := hid (Below.on Hb.out bw1)
  have hsw1 := HBw1.out.size
  have Kow1 := hid (Ko.out.below bw1)
  have Kaw1 := hid (Ka.out.below bw1)
  clear bw1
  go_wp2_with (first
     | (
        refine wpList_store_blk rfl 25 _ _ rfl (w1.heap.size) (I.map (Value.int .u8)).toArray rfl rfl _ 25 (Blk.new rfl (byteCells 32 []) _) 32 size_digest zsize HI.out.size (ints_one _ _) ?_
        intro w2 hbw2 hkw2
        have hw2 := hbw2.below ((Below.refl w1.heap.size w1).alloc (Nat.le_refl _) _) (by simp only [World.size_alloc]; omega) (Nat.le_refl _)
        have HBw2 := hid (Below.on HBw1.out hw2)
        have hsw2 := HBw2.out.size
        have Kow2 := hid (Kow1.out.below hw2)
        have hlow2 := Kow1.out.lt
        have Kaw2 := hid (Kaw1.out.below hw2)
        have hlaw2 := Kaw1.out.lt
        have Kiw2 := hid hkw2
        have hfw2 : w.heap.size ≤ w1.heap.size := HBw1.out.size
        clear hbw2 hkw2 hw2)
     | (refine wpList_load_blk_if (by first | rfl | go_simp) 25 _ rfl (w.heap.size) rfl _ 25 Kow2.out _ Tryz.underlying25 rfl 32 size_digest ho.size ?_)
     | (refine wpList_load_blk_if (by first | rfl | go_simp) 25 _ rfl (w1.heap.size) rfl _ 25 Kiw2.out _ Tryz.underlying25 rfl 32 size_digest HI.out.size ?_)
     | (refine wpList_load_mid_if (by first | rfl | go_simp) 47 _ rfl (w.heap.size + 1) 33 rfl _ _ (ansC_proof hx Kaw2.out) Tryz.underlying47 rfl (by rw [show (prC d (.slice pa pl pc)).length = 33 by simp [prC, hd.len]]; exact size_proof) ?_))
  refine (CA.out _ (hN.below HBw2.out) (Htab.out.below HBw2.out)).mono ?_
  rintro e w3 ⟨rfl, bw3⟩
  have HBw3 := hid (Below.on HBw2.out bw3)
  have hsw3 := HBw3.out.size
  have Kow3 := hid (Kow2.out.below bw3)
  have Kaw3 := hid (Kaw2.out.below bw3)
  have Kiw3 := hid (Kiw2.out.below bw3)
  clear bw3
  go_wp2_with fail
  go_returns
  exact ⟨rfl, HBw3.out⟩
theorem ends_any (o name x d : List Int) (na pa : Option Addr) (nn nc pl pc : Nat) (last : Int) (s : Value) (ns : List (List Int)) (w : World) (ho : Dg o) (hx : Dg x) (hd : Dg d) (hT : TextAt w na nn nc name) (hN : DigsAt w pa pl pc ns) (tab : ShaTab w) :
    Calls Tryz.prog 54 #[.agg (o.map (Value.int .u8)).toArray, .slice na nn nc, .int .i64 last, .agg (ansC s x d (.slice pa pl pc)).toArray] w fun e w' => e = .returned (.bool (goneB o name nn (wrap64 (last + 1)) x d ns)) ∧ Below w.heap.size w w' := by
  unfold goneB
  cases h1 : mayP nn (wrap64 (last + 1)) with
  | false => exact ends_bad o name x d na pa nn nc pl pc last s ns w ho hx hd hT hN tab (mayP_f h1)
  | true => exact ends_good o name x d na pa nn nc pl pc last s ns w ho hx hd hT hN tab (mayP_t h1)
end Go.Proofs.YtkakoiaahgchmaaGreatDoor
namespace Go.Proofs.YtkakoiaahgchmaaGreatDoor
set_option maxRecDepth 100000
open Go.ChangeShapes Go.WideShapes Go.ChangeAt Go.RowKit
set_option maxHeartbeats 4000000 in
theorem good_true (d : List Int) (w : World) (hd : Dg d) :
    Calls Tryz.prog 43 #[.agg (d.map (Value.int .u8)).toArray, .int .i64 0] w fun e w' => e = .returned (.tuple #[.agg (d.map (Value.int .u8)).toArray, .bool true]) ∧ Below w.heap.size w w' := by
  have b1 := (Below.refl w.heap.size w).alloc (Nat.le_refl _) (.cells (d.map (Value.int .u8)).toArray 25 (0, 0))
  have b2 := b1.alloc b1.size (.cells (byteCells 32 []) 25 (0, 0))
  have Kd := hid ((Blk.new (w := w) (n := w.heap.size) rfl (d.map (Value.int .u8)).toArray 25).old (.cells (byteCells 32 []) 25 (0, 0)))
  have Kr := hid (Blk.new (w := (w.alloc (.cells (d.map (Value.int .u8)).toArray 25 (0, 0)))) (n := w.heap.size + 1) (by simp only [World.size_alloc]) (byteCells 32 []) 25)
  have Hb := hid b2
  have hbz := b2.size
  have Hbs := hid (show w.heap.size + 1 + 1 = ((w.alloc (.cells (d.map (Value.int .u8)).toArray 25 (0, 0))).alloc (.cells (byteCells 32 []) 25 (0, 0))).heap.size by simp only [World.size_alloc])
  clear b1 b2 
  go_enter Tryz.func43, Tryz.ntmps43
  have H1 := hid (ints_one .u8 d)
  have Hd := hid hd.size
  go_wp2_with (first
     | (refine wpList_load_blk rfl 25 _ rfl (w.heap.size) rfl _ 25 Kd.out _ Tryz.underlying25 rfl 32 size_digest hd.size ?_)
     | (refine wpList_store_blk rfl 25 _ _ rfl (w.heap.size + 1) (d.map (Value.int .u8)).toArray rfl rfl _ 25 Kr.out 32 size_digest zsize Hd.out H1.out ?_; intro w7 hbut7 hk7))
  exact bodyPost_ret (v := .tuple #[.agg (d.map (Value.int .u8)).toArray, .bool true]) (results_blk_tmp Tryz.results43 _ (w.heap.size + 1) rfl _ rfl _ 25 hk7 _ Tryz.underlying25 rfl 32 size_digest Hd.out) rfl ⟨rfl, hbut7.below Hb.out Hb.out.size (by omega)⟩
set_option maxHeartbeats 4000000 in
theorem good_false (d : List Int) (w : World) (hd : Dg d) :
    Calls Tryz.prog 43 #[.agg (d.map (Value.int .u8)).toArray, .int .i64 1] w fun e w' => e = .returned (.tuple #[.agg (d.map (Value.int .u8)).toArray, .bool false]) ∧ Below w.heap.size w w' := by
  have b1 := (Below.refl w.heap.size w).alloc (Nat.le_refl _) (.cells (d.map (Value.int .u8)).toArray 25 (0, 0))
  have b2 := b1.alloc b1.size (.cells (byteCells 32 []) 25 (0, 0))
  have Kd := hid ((Blk.new (w := w) (n := w.heap.size) rfl (d.map (Value.int .u8)).toArray 25).old (.cells (byteCells 32 []) 25 (0, 0)))
  have Kr := hid (Blk.new (w := (w.alloc (.cells (d.map (Value.int .u8)).toArray 25 (0, 0)))) (n := w.heap.size + 1) (by simp only [World.size_alloc]) (byteCells 32 []) 25)
  have Hb := hid b2
  have hbz := b2.size
  have Hbs := hid (show w.heap.size + 1 + 1 = ((w.alloc (.cells (d.map (Value.int .u8)).toArray 25 (0, 0))).alloc (.cells (byteCells 32 []) 25 (0, 0))).heap.size by simp only [World.size_alloc])
  clear b1 b2 
  go_enter Tryz.func43, Tryz.ntmps43
  have H1 := hid (ints_one .u8 d)
  have Hd := hid hd.size
  go_wp2_with (first
     | (refine wpList_load_blk rfl 25 _ rfl (w.heap.size) rfl _ 25 Kd.out _ Tryz.underlying25 rfl 32 size_digest hd.size ?_)
     | (refine wpList_store_blk rfl 25 _ _ rfl (w.heap.size + 1) (d.map (Value.int .u8)).toArray rfl rfl _ 25 Kr.out 32 size_digest zsize Hd.out H1.out ?_; intro w7 hbut7 hk7))
  exact bodyPost_ret (v := .tuple #[.agg (d.map (Value.int .u8)).toArray, .bool false]) (results_blk_tmp Tryz.results43 _ (w.heap.size + 1) rfl _ rfl _ 25 hk7 _ Tryz.underlying25 rfl 32 size_digest Hd.out) rfl ⟨rfl, hbut7.below Hb.out Hb.out.size (by omega)⟩
set_option maxHeartbeats 4000000 in
theorem s1_good (name j : List Int) (na : Option Addr) (nn nc : Nat) (s : Shn) (bs bn bi : Nat) (w : World) (hs : ShnOk w s) (hj : Dg j) (ht : TextAt w na nn nc name) (kn : Blk w bn #[.slice na nn nc] 37) (tab : ShaTab w) (ks : Blk w bs (shnC s).toArray 52) (kt : Blk w bi (j.map (Value.int .u8)).toArray 25) (h1 : 1 ≤ nn ∧ nn ≤ 64 ∧ 1 ≤ s.v) :
    Calls Tryz.prog 42 #[.pointer (some ⟨bs, 0, none⟩), .pointer (some ⟨bn, 0, none⟩), .pointer (some ⟨bi, 0, none⟩)] w fun e w' => e = .returned (.bool true) ∧ But bi w w' ∧ Blk w' bi ((idxZ s.nonce s.v name).map (Value.int .u8)).toArray 25 := by
  have Hb := hid (Below.refl w.heap.size w)
  have Ks := hid ks
  have Kt := hid kt
  have cv := shn_v (Blk.rng ks)
  have cw : w.cell? ⟨bs, 1, none⟩ = some (.slice s.va s.vl s.vc) := shn_val (Blk.rng ks)
  have cn : w.cell? ⟨bn, 0, none⟩ = some (.slice na nn nc) := by rw [kn.cell]; rfl
  have HX := hid (Dg.idx s.nonce s.v name)
  have CX := hid (cfrom_good s.nonce name s.v na nn nc w hs.nonce ht ⟨h1.1, h1.2.1⟩ h1.2.2 hs.hi tab)
  generalize idxZ s.nonce s.v name = XX at *
  clear ks kt kn
  go_enter Tryz.func42, Tryz.ntmps42
  go_wp2_with (refine wpList_load_mid rfl 25 _ rfl bs 2 rfl _ _ (shn_nonce (Blk.rng Ks.out)) Tryz.underlying25 rfl (by rw [List.length_map, hs.nonce.len]; exact size_digest) ?_)
  refine (CX.out).mono ?_
  rintro e w1 ⟨rfl, bw1⟩
  have HBw1 := hid (Below.on Hb.out bw1)
  have hsw1 := HBw1.out.size
  have Ksw1 := hid (Ks.out.below bw1)
  have Ktw1 := hid (Kt.out.below bw1)
  clear bw1
  go_wp2_with fail
  refine (good_true XX _ HX.out).mono ?_
  rintro e w2 ⟨rfl, bw2⟩
  have HBw2 := hid (Below.on HBw1.out bw2)
  have hsw2 := HBw2.out.size
  have Ksw2 := hid (Ksw1.out.below bw2)
  have Ktw2 := hid (Ktw1.out.below bw2)
  clear bw2
  go_wp2_with (
      refine wpList_store_blk rfl 25 _ _ rfl (bi) (XX.map (Value.int .u8)).toArray rfl rfl _ 25 Ktw2.out 32 size_digest hj.size HX.out.size (ints_one _ _) ?_
      intro w7 hb7 hk7
      have HBt := hid ((But.of HBw2.out).trans hb7)
      have HK := hid hk7
      clear hb7 hk7)
  go_returns
  exact ⟨rfl, HBt.out, HK.out⟩
set_option maxHeartbeats 4000000 in
theorem s1_bad (name j : List Int) (na : Option Addr) (nn nc : Nat) (s : Shn) (bs bn bi : Nat) (w : World) (hs : ShnOk w s) (hj : Dg j) (_ht : TextAt w na nn nc name) (kn : Blk w bn #[.slice na nn nc] 37) (_tab : ShaTab w) (ks : Blk w bs (shnC s).toArray 52) (kt : Blk w bi (j.map (Value.int .u8)).toArray 25) (h1 : (nn = 0 ∨ 64 < nn) ∨ s.v < 1) :
    Calls Tryz.prog 42 #[.pointer (some ⟨bs, 0, none⟩), .pointer (some ⟨bn, 0, none⟩), .pointer (some ⟨bi, 0, none⟩)] w fun e w' => e = .returned (.bool false) ∧ But bi w w' ∧ Blk w' bi (zD.map (Value.int .u8)).toArray 25 := by
  have Hb := hid (Below.refl w.heap.size w)
  have Ks := hid ks
  have Kt := hid kt
  have cv := shn_v (Blk.rng ks)
  have cw : w.cell? ⟨bs, 1, none⟩ = some (.slice s.va s.vl s.vc) := shn_val (Blk.rng ks)
  have cn : w.cell? ⟨bn, 0, none⟩ = some (.slice na nn nc) := by rw [kn.cell]; rfl
  clear ks kt kn
  go_enter Tryz.func42, Tryz.ntmps42
  go_wp2_with (refine wpList_load_mid rfl 25 _ rfl bs 2 rfl _ _ (shn_nonce (Blk.rng Ks.out)) Tryz.underlying25 rfl (by rw [List.length_map, hs.nonce.len]; exact size_digest) ?_)
  refine (cfrom_bad s.nonce s.v na nn nc _ hs.nonce h1).mono ?_
  rintro e w1 ⟨rfl, bw1⟩
  have HBw1 := hid (Below.on Hb.out bw1)
  have hsw1 := HBw1.out.size
  have Ksw1 := hid (Ks.out.below bw1)
  have Ktw1 := hid (Kt.out.below bw1)
  clear bw1
  go_wp2_with fail
  refine (good_false zD _ Dg.zero).mono ?_
  rintro e w2 ⟨rfl, bw2⟩
  have HBw2 := hid (Below.on HBw1.out bw2)
  have hsw2 := HBw2.out.size
  have Ksw2 := hid (Ksw1.out.below bw2)
  have Ktw2 := hid (Ktw1.out.below bw2)
  clear bw2
  go_wp2_with (
      refine wpList_store_blk rfl 25 _ _ rfl (bi) (zD.map (Value.int .u8)).toArray rfl rfl _ 25 Ktw2.out 32 size_digest hj.size Dg.zero.size (ints_one _ _) ?_
      intro w7 hb7 hk7
      have HBt := hid ((But.of HBw2.out).trans hb7)
      have HK := hid hk7
      clear hb7 hk7)
  go_returns
  exact ⟨rfl, HBt.out, HK.out⟩
set_option maxHeartbeats 4000000 in
theorem s2_good (j : List Int) (s : Shn) (bs bc : Nat) (w : World) (hs : ShnOk w s) (hj : Dg j) (tab : ShaTab w) (ks : Blk w bs (shnC s).toArray 52) (kt : Blk w bc (j.map (Value.int .u8)).toArray 25) (h1 : s.vl ≤ 64) :
    Calls Tryz.prog 45 #[.pointer (some ⟨bs, 0, none⟩), .pointer (some ⟨bc, 0, none⟩)] w fun e w' => e = .returned (.bool true) ∧ But bc w w' ∧ Blk w' bc ((madeZ s.salt s.val).map (Value.int .u8)).toArray 25 := by
  have Hb := hid (Below.refl w.heap.size w)
  have Ks := hid ks
  have Kt := hid kt
  have cv := shn_v (Blk.rng ks)
  have cw : w.cell? ⟨bs, 1, none⟩ = some (.slice s.va s.vl s.vc) := shn_val (Blk.rng ks)
  have HX := hid (Dg.made s.salt s.val)
  have CX := hid (cmade_good s.salt s.val s.va s.vl s.vc w hs.salt hs.val h1 tab)
  generalize madeZ s.salt s.val = XX at *
  clear ks kt
  go_enter Tryz.func45, Tryz.ntmps45
  go_wp2_with (refine wpList_load_mid rfl 25 _ rfl bs 34 rfl _ _ (shn_salt hs.nonce (Blk.rng Ks.out)) Tryz.underlying25 rfl (by rw [List.length_map, hs.salt.len]; exact size_digest) ?_)
  refine (CX.out).mono ?_
  rintro e w1 ⟨rfl, bw1⟩
  have HBw1 := hid (Below.on Hb.out bw1)
  have hsw1 := HBw1.out.size
  have Ksw1 := hid (Ks.out.below bw1)
  have Ktw1 := hid (Kt.out.below bw1)
  clear bw1
  go_wp2_with fail
  refine (good_true XX _ HX.out).mono ?_
  rintro e w2 ⟨rfl, bw2⟩
  have HBw2 := hid (Below.on HBw1.out bw2)
  have hsw2 := HBw2.out.size
  have Ksw2 := hid (Ksw1.out.below bw2)
  have Ktw2 := hid (Ktw1.out.below bw2)
  clear bw2
  go_wp2_with (
      refine wpList_store_blk rfl 25 _ _ rfl (bc) (XX.map (Value.int .u8)).toArray rfl rfl _ 25 Ktw2.out 32 size_digest hj.size HX.out.size (ints_one _ _) ?_
      intro w7 hb7 hk7
      have HBt := hid ((But.of HBw2.out).trans hb7)
      have HK := hid hk7
      clear hb7 hk7)
  go_returns
  exact ⟨rfl, HBt.out, HK.out⟩
set_option maxHeartbeats 4000000 in
theorem s2_bad (j : List Int) (s : Shn) (bs bc : Nat) (w : World) (hs : ShnOk w s) (hj : Dg j) (_tab : ShaTab w) (ks : Blk w bs (shnC s).toArray 52) (kt : Blk w bc (j.map (Value.int .u8)).toArray 25) (h1 : 64 < s.vl) :
    Calls Tryz.prog 45 #[.pointer (some ⟨bs, 0, none⟩), .pointer (some ⟨bc, 0, none⟩)] w fun e w' => e = .returned (.bool false) ∧ But bc w w' ∧ Blk w' bc (zD.map (Value.int .u8)).toArray 25 := by
  have Hb := hid (Below.refl w.heap.size w)
  have Ks := hid ks
  have Kt := hid kt
  have cv := shn_v (Blk.rng ks)
  have cw : w.cell? ⟨bs, 1, none⟩ = some (.slice s.va s.vl s.vc) := shn_val (Blk.rng ks)
  clear ks kt
  go_enter Tryz.func45, Tryz.ntmps45
  go_wp2_with (refine wpList_load_mid rfl 25 _ rfl bs 34 rfl _ _ (shn_salt hs.nonce (Blk.rng Ks.out)) Tryz.underlying25 rfl (by rw [List.length_map, hs.salt.len]; exact size_digest) ?_)
  refine (cmade_bad s.salt s.va s.vl s.vc _ hs.salt h1).mono ?_
  rintro e w1 ⟨rfl, bw1⟩
  have HBw1 := hid (Below.on Hb.out bw1)
  have hsw1 := HBw1.out.size
  have Ksw1 := hid (Ks.out.below bw1)
  have Ktw1 := hid (Kt.out.below bw1)
  clear bw1
  go_wp2_with fail
  refine (good_false zD _ Dg.zero).mono ?_
  rintro e w2 ⟨rfl, bw2⟩
  have HBw2 := hid (Below.on HBw1.out bw2)
  have hsw2 := HBw2.out.size
  have Ksw2 := hid (Ksw1.out.below bw2)
  have Ktw2 := hid (Ktw1.out.below bw2)
  clear bw2
  go_wp2_with (
      refine wpList_store_blk rfl 25 _ _ rfl (bc) (zD.map (Value.int .u8)).toArray rfl rfl _ 25 Ktw2.out 32 size_digest hj.size Dg.zero.size (ints_one _ _) ?_
      intro w7 hb7 hk7
      have HBt := hid ((But.of HBw2.out).trans hb7)
      have HK := hid hk7
      clear hb7 hk7)
  go_returns
  exact ⟨rfl, HBt.out, HK.out⟩
set_option maxHeartbeats 4000000 in
theorem s3_any (o i c : List Int) (s : Shn) (bo bi bc bs : Nat) (w : World) (hs : ShnOk w s) (ho : Dg o) (hi : Dg i) (hc : Dg c) (tab : ShaTab w) (ko : Blk w bo (o.map (Value.int .u8)).toArray 25) (ki : Blk w bi (i.map (Value.int .u8)).toArray 25) (kc : Blk w bc (c.map (Value.int .u8)).toArray 25) (ks : Blk w bs (shnC s).toArray 52) :
    Calls Tryz.prog 47 #[.pointer (some ⟨bo, 0, none⟩), .pointer (some ⟨bi, 0, none⟩), .pointer (some ⟨bc, 0, none⟩), .pointer (some ⟨bs, 0, none⟩)] w fun e w' => e = .returned (.bool (leadB o i (leafE i c) s.known s.nodes)) ∧ Below w.heap.size w w' := by
  have Hb := hid (Below.refl w.heap.size w)
  have Ko := hid ko
  have Ki := hid ki
  have Kc := hid kc
  have Ks := hid ks
  have CP := hid (present_is o i c s.known s.pa s.pl s.pc s.nodes w ho hi hc hs.known hs.nodes tab)
  generalize leadB o i (leafE i c) s.known s.nodes = B at *
  clear ko ki kc ks
  go_enter Tryz.func47, Tryz.ntmps47
  go_wp2_with (first
     | (refine wpList_load_blk rfl 25 _ rfl (bo) rfl _ 25 Ko.out _ Tryz.underlying25 rfl 32 size_digest ho.size ?_)
     | (refine wpList_load_blk rfl 25 _ rfl (bi) rfl _ 25 Ki.out _ Tryz.underlying25 rfl 32 size_digest hi.size ?_)
     | (refine wpList_load_blk rfl 25 _ rfl (bc) rfl _ 25 Kc.out _ Tryz.underlying25 rfl 32 size_digest hc.size ?_)
     | (refine wpList_load_mid rfl 47 _ rfl bs 66 rfl _ _ (shn_proof hs.nonce hs.salt (Blk.rng Ks.out)) Tryz.underlying47 rfl (by rw [show (prC s.known (.slice s.pa s.pl s.pc)).length = 33 by simp [prC, hs.known.len]]; exact size_proof) ?_))
  refine (CP.out).mono ?_
  rintro e w1 ⟨rfl, bw1⟩
  have HBw1 := hid (Below.on Hb.out bw1)
  have hsw1 := HBw1.out.size
  have Kow1 := hid (Ko.out.below bw1)
  have Kiw1 := hid (Ki.out.below bw1)
  have Kcw1 := hid (Kc.out.below bw1)
  clear bw1
  go_wp2_with fail
  go_returns
  exact ⟨rfl, HBw1.out⟩
set_option maxHeartbeats 4000000 in
theorem all_shown (g : Nat) (p00 p01 p02 p10 p11 p20 p21 p22 p23 : Value) (b0 b1 b2 : Bool) (w : World) (R : Nat → World → Prop) (hR : ∀ k W, R k W → Blk W g #[.func (.func 42) #[] #[p00, p01, p02], .func (.func 45) #[] #[p10, p11], .func (.func 47) #[] #[p20, p21, p22, p23]] 35) (h0 : ∀ W : World, R 0 W → Calls Tryz.prog 42 #[p00, p01, p02] W fun e w' => e = .returned (.bool b0) ∧ R 1 w') (h1 : ∀ W : World, b0 = true → R 1 W → Calls Tryz.prog 45 #[p10, p11] W fun e w' => e = .returned (.bool b1) ∧ R 2 w') (h2 : ∀ W : World, b0 = true → b1 = true → R 2 W → Calls Tryz.prog 47 #[p20, p21, p22, p23] W fun e w' => e = .returned (.bool b2) ∧ R 3 w') (hr0 : R 0 w) :
    Calls Tryz.prog 41 #[.slice (some ⟨g, 0, none⟩) 3 3] w fun e w' => e = .returned (.bool (b0 && (b1 && b2))) ∧ ∃ k, R k w' := by
  have Hb := hid (Below.refl w.heap.size w)
  have HR := hid hR
  have H0 := hid h0
  have H1 := hid h1
  have H2 := hid h2
  clear hR h0 h1 h2
  go_enter Tryz.func41, Tryz.ntmps41
  go_wp2_with fail
  go_loopw [7] (fun iv wr => ∃ k : Nat, k ≤ 3 ∧ iv = .int .i64 k ∧ (k ≥ 1 → b0 = true) ∧ (k ≥ 2 → b1 = true) ∧ (k ≥ 3 → b2 = true) ∧ R k wr) (fun iv _ => 3 - (intOf iv).toNat)
  case atStart => exact ⟨0, Nat.zero_le _, rfl, fun h => absurd h (by omega), fun h => absurd h (by omega), fun h => absurd h (by omega), hr0⟩
  case round =>
    obtain ⟨k, hk, rfl, q0, q1, q2, rel⟩ := hrel
    have HRw := hid rel
    have kgr := HR.out _ _ rel
    clear rel
    rcases (show k = 0 ∨ k = 1 ∨ k = 2 ∨ k = 3 by omega) with rfl | rfl | rfl | rfl
    · skip
      have cg : wr.cell? ⟨g, 0, none⟩ = some (.func (.func 42) #[] #[p00, p01, p02]) := by rw [kgr.cell]; rfl
      clear kgr
      go_wp2_with fail
      refine (H0.out _ HRw.out).mono ?_
      rintro e w1 ⟨rfl, rw1⟩
      have HR1 := hid rw1
      clear rw1
      cases hb : b0 with
      | true =>
        go_wp2_with fail
        exact ⟨⟨1, by omega, by first | rfl | simp, fun _ => hb, fun h => absurd h (by omega), fun h => absurd h (by omega), HR1.out⟩, by simp [intOf]⟩
      | false =>
        go_wp2_with fail
        go_returns
        exact ⟨by simp [hb], _, HR1.out⟩
    · skip
      have cg : wr.cell? ⟨g, 1, none⟩ = some (.func (.func 45) #[] #[p10, p11]) := by rw [kgr.cell]; rfl
      clear kgr
      go_wp2_with fail
      refine (H1.out _ (q0 (by omega)) HRw.out).mono ?_
      rintro e w1 ⟨rfl, rw1⟩
      have HR1 := hid rw1
      clear rw1
      cases hb : b1 with
      | true =>
        go_wp2_with fail
        exact ⟨⟨2, by omega, by first | rfl | simp, fun _ => q0 (by omega), fun h => hb, fun h => absurd h (by omega), HR1.out⟩, by simp [intOf]⟩
      | false =>
        go_wp2_with fail
        go_returns
        exact ⟨by simp [hb], _, HR1.out⟩
    · skip
      have cg : wr.cell? ⟨g, 2, none⟩ = some (.func (.func 47) #[] #[p20, p21, p22, p23]) := by rw [kgr.cell]; rfl
      clear kgr
      go_wp2_with fail
      refine (H2.out _ (q0 (by omega)) (q1 (by omega)) HRw.out).mono ?_
      rintro e w1 ⟨rfl, rw1⟩
      have HR1 := hid rw1
      clear rw1
      cases hb : b2 with
      | true =>
        go_wp2_with fail
        exact ⟨⟨3, by omega, by first | rfl | simp, fun _ => q0 (by omega), fun h => q1 (by omega), fun h => hb, HR1.out⟩, by simp [intOf]⟩
      | false =>
        go_wp2_with fail
        go_returns
        exact ⟨by simp [hb], _, HR1.out⟩
    · skip
      clear kgr
      go_wp2_with fail
      go_returns
      exact ⟨by rw [q0 (by omega), q1 (by omega), q2 (by omega)]; rfl, _, HRw.out⟩
set_option maxHeartbeats 4000000 in
theorem vshown_any (o name : List Int) (na : Option Addr) (nn nc : Nat) (s : Shn) (w : World) (ho : Dg o) (hT : TextAt w na nn nc name) (hs : ShnOk w s) (tab : ShaTab w) :
    Calls Tryz.prog 16 #[.agg (o.map (Value.int .u8)).toArray, .slice na nn nc, .agg (shnC s).toArray] w fun e w' => e = .returned (.bool (shownB o name nn s)) ∧ Below w.heap.size w w' := by
  have b1 := (Below.refl w.heap.size w).alloc (Nat.le_refl _) (.cells (o.map (Value.int .u8)).toArray 25 (0, 0))
  have b2 := b1.alloc b1.size (.cells #[.slice na nn nc] 37 (0, 0))
  have b3 := b2.alloc b2.size (.cells (shnC s).toArray 52 (0, 0))
  have b4 := b3.alloc b3.size (.cells (byteCells 32 []) 25 (0, 0))
  have b5 := b4.alloc b4.size (.cells (byteCells 32 []) 25 (0, 0))
  have Ko := hid (((((Blk.new (w := w) (n := w.heap.size) rfl (o.map (Value.int .u8)).toArray 25).old (.cells #[.slice na nn nc] 37 (0, 0))).old (.cells (shnC s).toArray 52 (0, 0))).old (.cells (byteCells 32 []) 25 (0, 0))).old (.cells (byteCells 32 []) 25 (0, 0)))
  have Kn := hid ((((Blk.new (w := (w.alloc (.cells (o.map (Value.int .u8)).toArray 25 (0, 0)))) (n := w.heap.size + 1) (by simp only [World.size_alloc]) #[.slice na nn nc] 37).old (.cells (shnC s).toArray 52 (0, 0))).old (.cells (byteCells 32 []) 25 (0, 0))).old (.cells (byteCells 32 []) 25 (0, 0)))
  have Ks := hid (((Blk.new (w := ((w.alloc (.cells (o.map (Value.int .u8)).toArray 25 (0, 0))).alloc (.cells #[.slice na nn nc] 37 (0, 0)))) (n := w.heap.size + 1 + 1) (by simp only [World.size_alloc]) (shnC s).toArray 52).old (.cells (byteCells 32 []) 25 (0, 0))).old (.cells (byteCells 32 []) 25 (0, 0)))
  have Ki := hid ((Blk.new (w := (((w.alloc (.cells (o.map (Value.int .u8)).toArray 25 (0, 0))).alloc (.cells #[.slice na nn nc] 37 (0, 0))).alloc (.cells (shnC s).toArray 52 (0, 0)))) (n := w.heap.size + 1 + 1 + 1) (by simp only [World.size_alloc]) (byteCells 32 []) 25).old (.cells (byteCells 32 []) 25 (0, 0)))
  have Kc := hid (Blk.new (w := ((((w.alloc (.cells (o.map (Value.int .u8)).toArray 25 (0, 0))).alloc (.cells #[.slice na nn nc] 37 (0, 0))).alloc (.cells (shnC s).toArray 52 (0, 0))).alloc (.cells (byteCells 32 []) 25 (0, 0)))) (n := w.heap.size + 1 + 1 + 1 + 1) (by simp only [World.size_alloc]) (byteCells 32 []) 25)
  have Hb := hid b5
  have hbz := b5.size
  have Hbs := hid (show w.heap.size + 1 + 1 + 1 + 1 + 1 = (((((w.alloc (.cells (o.map (Value.int .u8)).toArray 25 (0, 0))).alloc (.cells #[.slice na nn nc] 37 (0, 0))).alloc (.cells (shnC s).toArray 52 (0, 0))).alloc (.cells (byteCells 32 []) 25 (0, 0))).alloc (.cells (byteCells 32 []) 25 (0, 0))).heap.size by simp only [World.size_alloc])
  have Htab := hid tab
  clear b1 b2 b3 b4 b5 tab 
  go_enter Tryz.func16, Tryz.ntmps16
  go_wp2_with fail
  refine (all_shown (w.heap.size + 1 + 1 + 1 + 1 + 1) _ _ _ _ _ _ _ _ _ (mayP nn s.v) (decide (s.vl ≤ 64)) (leadB o (idxZ s.nonce s.v name) (leafE (idxZ s.nonce s.v name) (madeZ s.salt s.val)) s.known s.nodes) _ (fun k W => Below w.heap.size w W ∧ Blk W (w.heap.size + 1 + 1 + 1 + 1 + 1) #[.func (.func 42) #[] #[.pointer (some ⟨w.heap.size + 1 + 1, 0, none⟩), .pointer (some ⟨w.heap.size + 1, 0, none⟩), .pointer (some ⟨w.heap.size + 1 + 1 + 1, 0, none⟩)], .func (.func 45) #[] #[.pointer (some ⟨w.heap.size + 1 + 1, 0, none⟩), .pointer (some ⟨w.heap.size + 1 + 1 + 1 + 1, 0, none⟩)], .func (.func 47) #[] #[.pointer (some ⟨w.heap.size, 0, none⟩), .pointer (some ⟨w.heap.size + 1 + 1 + 1, 0, none⟩), .pointer (some ⟨w.heap.size + 1 + 1 + 1 + 1, 0, none⟩), .pointer (some ⟨w.heap.size + 1 + 1, 0, none⟩)]] 35 ∧ Blk W (w.heap.size) (o.map (Value.int .u8)).toArray 25 ∧ Blk W (w.heap.size + 1) #[.slice na nn nc] 37 ∧ Blk W (w.heap.size + 1 + 1) (shnC s).toArray 52 ∧ (∃ J, Dg J ∧ (1 ≤ k → mayP nn s.v = true → J = idxZ s.nonce s.v name) ∧ Blk W (w.heap.size + 1 + 1 + 1) (J.map (Value.int .u8)).toArray 25) ∧ (∃ M, Dg M ∧ (2 ≤ k → decide (s.vl ≤ 64) = true → M = madeZ s.salt s.val) ∧ Blk W (w.heap.size + 1 + 1 + 1 + 1) (M.map (Value.int .u8)).toArray 25)) (fun _ _ h => h.2.1) ?_ ?_ ?_ ?_).mono ?_
  · rintro W ⟨bl, kg, ko, kn, ks, ⟨J, hJ, _, kj⟩, M, hM, _, km⟩
    cases h1 : mayP nn s.v with
    | true =>
      refine (s1_good name J na nn nc s (w.heap.size + 1 + 1) (w.heap.size + 1) (w.heap.size + 1 + 1 + 1) W (hs.below bl) hJ (hT.below bl) kn (Htab.out.below bl) ks kj (mayP_t h1)).mono ?_
      rintro e w' ⟨rfl, hb, hk⟩
      exact ⟨rfl, hb.below bl bl.size (by omega), hb.blk kg (by omega), hb.blk ko (by omega), hb.blk kn (by omega), hb.blk ks (by omega), ⟨_, Dg.idx _ _ _, fun _ _ => rfl, hk⟩, M, hM, fun h => absurd h (by omega), hb.blk km (by omega)⟩
    | false =>
      refine (s1_bad name J na nn nc s (w.heap.size + 1 + 1) (w.heap.size + 1) (w.heap.size + 1 + 1 + 1) W (hs.below bl) hJ (hT.below bl) kn (Htab.out.below bl) ks kj (mayP_f h1)).mono ?_
      rintro e w' ⟨rfl, hb, hk⟩
      exact ⟨rfl, hb.below bl bl.size (by omega), hb.blk kg (by omega), hb.blk ko (by omega), hb.blk kn (by omega), hb.blk ks (by omega), ⟨_, Dg.zero, fun _ h => by simp at h, hk⟩, M, hM, fun h => absurd h (by omega), hb.blk km (by omega)⟩
  · rintro W h0 ⟨bl, kg, ko, kn, ks, ⟨J, hJ, hJ2, kj⟩, M, hM, _, km⟩
    by_cases h1 : s.vl ≤ 64
    · rw [decide_eq_true h1]
      refine (s2_good M s (w.heap.size + 1 + 1) (w.heap.size + 1 + 1 + 1 + 1) W (hs.below bl) hM (Htab.out.below bl) ks km h1).mono ?_
      rintro e w' ⟨rfl, hb, hk⟩
      exact ⟨rfl, hb.below bl bl.size (by omega), hb.blk kg (by omega), hb.blk ko (by omega), hb.blk kn (by omega), hb.blk ks (by omega), ⟨J, hJ, fun _ h => hJ2 (by omega) h, hb.blk kj (by omega)⟩, _, Dg.made _ _, fun _ _ => rfl, hk⟩
    · rw [decide_eq_false h1]
      refine (s2_bad M s (w.heap.size + 1 + 1) (w.heap.size + 1 + 1 + 1 + 1) W (hs.below bl) hM (Htab.out.below bl) ks km (by omega)).mono ?_
      rintro e w' ⟨rfl, hb, hk⟩
      exact ⟨rfl, hb.below bl bl.size (by omega), hb.blk kg (by omega), hb.blk ko (by omega), hb.blk kn (by omega), hb.blk ks (by omega), ⟨J, hJ, fun _ h => hJ2 (by omega) h, hb.blk kj (by omega)⟩, _, Dg.zero, fun _ h => by simp at h, hk⟩
  · rintro W h0 h1 ⟨bl, kg, ko, kn, ks, ⟨J, hJ, hJ2, kj⟩, M, hM, hM2, km⟩
    obtain rfl := hJ2 (by omega) h0
    obtain rfl := hM2 (by omega) h1
    refine (s3_any o _ _ s (w.heap.size) (w.heap.size + 1 + 1 + 1) (w.heap.size + 1 + 1 + 1 + 1) (w.heap.size + 1 + 1) W (hs.below bl) ho (Dg.idx _ _ _) (Dg.made _ _) (Htab.out.below bl) ko kj km ks).mono ?_
    rintro e w' ⟨rfl, hb⟩
    exact ⟨rfl, Below.on bl hb, kg.below hb, ko.below hb, kn.below hb, ks.below hb, ⟨_, Dg.idx _ _ _, fun _ _ => rfl, kj.below hb⟩, _, Dg.made _ _, fun _ _ => rfl, km.below hb⟩
  · exact ⟨Hb.out.alloc Hb.out.size _, Blk.new (by simp only [World.size_alloc]) _ _, Ko.out.old _, Kn.out.old _, Ks.out.old _, ⟨zD, Dg.zero, fun h => absurd h (by omega), Ki.out.old _⟩, zD, Dg.zero, fun h => absurd h (by omega), Kc.out.old _⟩
  rintro e w6 ⟨rfl, k, bl, -⟩
  have HB6 := hid bl
  clear bl
  go_wp2_with fail
  go_returns
  exact ⟨by first | rfl | simp [shownB], HB6.out⟩
end Go.Proofs.YtkakoiaahgchmaaGreatDoor
namespace Go.Proofs.YtkakoiaahgchmaaGreatDoor
set_option maxRecDepth 100000
open Go.ChangeShapes Go.WideShapes Go.ChangeAt Go.RowKit
theorem all_f {p : Shn → Bool} {l : List Shn} {k : Nat} (hk : k < l.length) (h : p (l.getD k Shn.zero) = false) : l.all p = false := by
  rw [List.all_eq_false]
  rw [List.getD_eq_getElem?_getD, List.getElem?_eq_getElem hk, Option.getD_some] at h
  exact ⟨_, List.getElem_mem hk, by rw [h]; simp⟩
theorem all_t {p : Shn → Bool} {l : List Shn} (h : ∀ k, k < l.length → p (l.getD k Shn.zero) = true) : l.all p = true := by
  rw [List.all_eq_true]
  intro s hs
  obtain ⟨k, hk, rfl⟩ := List.getElem_of_mem hs
  have := h k hk
  rw [List.getD_eq_getElem?_getD, List.getElem?_eq_getElem hk] at this
  exact this
/-- Are the versions 1, 2, and so on? -/
def cntB (l : List Shn) : Bool := decide (∀ j, j < l.length → (l.getD j Shn.zero).v = (j : Int) + 1)
/-- The last version; of none 0. -/
def lastV (l : List Shn) (k : Nat) : Int := match k with
  | 0 => 0
  | j + 1 => (l.getD j Shn.zero).v
theorem zshn_size : (shnC Shn.zero).toArray.size = 99 := shnC_size Dg.zero Dg.zero Dg.zero
theorem shn_ones (s : Shn) : (shnC s).toArray.all (·.oneCell') = true := all_oneCell_toArray fun u hu => by
  simp only [shnC, prC, List.mem_cons, List.mem_append, List.mem_map, List.not_mem_nil, or_false] at hu
  rcases hu with rfl | rfl | ⟨_, _, rfl⟩ | ⟨_, _, rfl⟩ | ⟨_, _, rfl⟩ | rfl <;> rfl
set_option maxHeartbeats 4000000 in
theorem allshown_any (t name : List Int) (na sa : Option Addr) (nn nc sn sc : Nat) (l : List Shn) (w : World) (ht : Dg t) (hT : TextAt w na nn nc name) (hS : ShnsAt w sa sn sc l) (tab : ShaTab w) :
    Calls Tryz.prog 52 #[.agg (t.map (Value.int .u8)).toArray, .slice na nn nc, .slice sa sn sc] w fun e w' => e = .returned (.bool (l.all (shownB t name nn))) ∧ Below w.heap.size w w' := by
  have b1 := (Below.refl w.heap.size w).alloc (Nat.le_refl _) (.cells (t.map (Value.int .u8)).toArray 25 (0, 0))
  have Ko := hid (Blk.new (w := w) (n := w.heap.size) rfl (t.map (Value.int .u8)).toArray 25)
  have Hb := hid b1
  have hbz := b1.size
  have Hbs := hid (show w.heap.size + 1 = (w.alloc (.cells (t.map (Value.int .u8)).toArray 25 (0, 0))).heap.size by simp only [World.size_alloc])
  have Htab := hid tab
  clear b1 tab 
  have HS := hid hS
  have hlen := hS.length
  have hle := hS.le
  have hmx := hS.max
  clear hS
  go_enter Tryz.func52, Tryz.ntmps52
  go_wp2_with fail
  go_loopw [11] (fun iv wr => ∃ k : Nat, k ≤ sn ∧ iv = .int .i64 k ∧ Blk wr (w.heap.size) (t.map (Value.int .u8)).toArray 25 ∧ Below w.heap.size w wr ∧ ∀ j, j < k → shownB t name nn (l.getD j Shn.zero) = true) (fun iv _ => sn - (intOf iv).toNat)
  case atStart => exact ⟨0, Nat.zero_le _, rfl, Ko.out, Hb.out, fun j hj => absurd hj (by omega)⟩
  case round =>
    obtain ⟨k, hk, rfl, kg, bel, hall⟩ := hrel
    have Kowr := hid kg
    have HBwr := hid bel
    have hswr := bel.size
    have Hall := hid hall
    clear kg bel hall
    by_cases hlt : k < sn
    · have hc0 : (k : Int) < sn := by omega
      have hok := hid ((HS.out.below HBwr.out).ok hlt)
      obtain ⟨x, o, rfl, hx, hr⟩ := (HS.out.below HBwr.out).at_ hlt
      obtain ⟨q, hq⟩ : ∃ q, l.getD k Shn.zero = q := ⟨_, rfl⟩
      have Hq := hid hq
      rw [hq] at hr hok
      have HR := hid hr
      have hln := hid (shnC_len hok.out.nonce hok.out.salt hok.out.known)
      clear hr hq
      have hkl : k < l.length := by omega
      have CS := hid (fun (W : World) (h : ShnOk W q) (hT : TextAt W na nn nc name) (tb : ShaTab W) => vshown_any t name na nn nc q W ht hT h tb)
      have HBAD := hid (fun h => all_f (p := shownB t name nn) hkl h)
      rw [Hq.out] at HBAD
      go_wp2_with (first
         | (with_reducible show wpList _ _ _ (⟨some 13, _, _, _, _, _⟩ :: _) _ _; refine wpList_index_s 99 (by first | rfl | go_simp) 45 _ _ rfl Tryz.underlying45 size_shn x o sn sc rfl _ _ rfl k (by omega) (by omega) ?_)
         | (with_reducible show wpList _ _ _ (⟨some 14, _, _, _, _, _⟩ :: _) _ _; refine wpList_load_mid rfl 52 _ rfl x (o + k * 99) rfl _ _ HR.out Tryz.underlying52 rfl (by rw [hln.out]; exact size_shn) ?_)
         | (
            refine wpList_store_blk rfl 52 _ _ rfl (wr.heap.size) (shnC q).toArray rfl rfl _ 52 (Blk.new rfl (shnC Shn.zero).toArray _) 99 size_shn zshn_size (shnC_size hok.out.nonce hok.out.salt hok.out.known) (shn_ones q) ?_
            intro w1 hbw1 hkw1
            have hw1 := hbw1.below ((Below.refl wr.heap.size wr).alloc (Nat.le_refl _) _) (by simp only [World.size_alloc]; omega) (Nat.le_refl _)
            have HBw1 := hid (Below.on HBwr.out hw1)
            have hsw1 := HBw1.out.size
            have Kow1 := hid (Kowr.out.below hw1)
            have hlow1 := Kowr.out.lt
            have Kxw1 := hid hkw1
            have OK2 := hid (hok.out.below hw1)
            have hfw1 : w.heap.size ≤ wr.heap.size := HBwr.out.size
            clear hbw1 hkw1 hw1)
         | (with_reducible show wpList _ _ _ (⟨some 15, _, _, _, _, _⟩ :: _) _ _; refine wpList_load_blk rfl 25 _ rfl (w.heap.size) rfl _ 25 Kow1.out _ Tryz.underlying25 rfl 32 size_digest ht.size ?_)
         | (with_reducible show wpList _ _ _ (⟨some 17, _, _, _, _, _⟩ :: _) _ _; refine wpList_load_blk rfl 52 _ rfl (wr.heap.size) rfl _ 52 Kxw1.out _ Tryz.underlying52 rfl 99 size_shn (shnC_size hok.out.nonce hok.out.salt hok.out.known) ?_))
      refine (CS.out _ (OK2.out) (hT.below HBw1.out) (Htab.out.below HBw1.out)).mono ?_
      rintro e w3 ⟨rfl, b3⟩
      have HB3 := hid (Below.on HBw1.out b3)
      have Ko3 := hid (Kow1.out.below b3)
      clear b3
      cases hb : shownB t name nn q with
      | true =>
        go_wp2_with fail
        exact ⟨⟨k + 1, by omega, by first | rfl | simp, Ko3.out, HB3.out, fun j hj => by
          by_cases hjk : j = k
          · subst hjk; rw [Hq.out]; exact hb
          · exact Hall.out j (by omega)⟩, by simp [intOf]; omega⟩
      | false =>
        go_wp2_with fail
        go_returns
        exact ⟨by rw [HBAD.out hb]; rfl, HB3.out⟩
    · obtain rfl : k = sn := by omega
      have hc0 : ¬ ((k : Int) < k) := by omega
      go_wp2_with fail
      go_returns
      exact ⟨by rw [all_t (fun j hj => Hall.out j (by omega))]; rfl, HBwr.out⟩
theorem cntB_bad {l : List Shn} {k : Nat} (hk : k < l.length) (h : (l.getD k Shn.zero).v ≠ (k : Int) + 1) : cntB l = false := decide_eq_false fun g => h (g k hk)
theorem cntB_good {l : List Shn} (h : ∀ j, j < l.length → (l.getD j Shn.zero).v = (j : Int) + 1) : cntB l = true := decide_eq_true h
set_option maxHeartbeats 4000000 in
theorem counted_any (sa : Option Addr) (sn sc : Nat) (l : List Shn) (w : World) (hS : ShnsAt w sa sn sc l) :
    Calls Tryz.prog 56 #[.slice sa sn sc] w fun e w' => e = .returned (.bool (cntB l)) ∧ Below w.heap.size w w' := by
  have Hb := hid (Below.refl w.heap.size w)
  have HS := hid hS
  have hlen := hS.length
  have hle := hS.le
  have hmx := hS.max
  clear hS
  go_enter Tryz.func56, Tryz.ntmps56
  go_wp2_with fail
  go_loopw [7] (fun iv wr => ∃ k : Nat, k ≤ sn ∧ iv = .int .i64 k ∧ Below w.heap.size w wr ∧ ∀ j, j < k → (l.getD j Shn.zero).v = (j : Int) + 1) (fun iv _ => sn - (intOf iv).toNat)
  case atStart => exact ⟨0, Nat.zero_le _, rfl, Hb.out, fun j hj => absurd hj (by omega)⟩
  case round =>
    obtain ⟨k, hk, rfl, bel, hall⟩ := hrel
    have HBwr := hid bel
    have hswr := bel.size
    have Hall := hid hall
    clear bel hall
    by_cases hlt : k < sn
    · have hc0 : (k : Int) < sn := by omega
      have hok := hid ((HS.out.below HBwr.out).ok hlt)
      obtain ⟨x, o, rfl, hx, hr⟩ := (HS.out.below HBwr.out).at_ hlt
      obtain ⟨q, hq⟩ : ∃ q, l.getD k Shn.zero = q := ⟨_, rfl⟩
      have Hq := hid hq
      rw [hq] at hr hok
      have HR := hid hr
      have hln := hid (shnC_len hok.out.nonce hok.out.salt hok.out.known)
      clear hr hq
      have hkl : k < l.length := by omega
      have HBAD := hid (fun h => cntB_bad hkl h)
      rw [Hq.out] at HBAD
      have hQ : ∃ u, q.v = u := ⟨_, rfl⟩
      by_cases hv : q.v = (k : Int) + 1
      · have qv : (q.v != (k : Int) + 1) = false := by simp [hv]
        have Hv := hid hv
        clear hv
        go_wp2_with (first
           | (with_reducible show wpList _ _ _ (⟨some 10, _, _, _, _, _⟩ :: _) _ _; refine wpList_index_s 99 (by first | rfl | go_simp) 45 _ _ rfl Tryz.underlying45 size_shn x o sn sc rfl _ _ rfl k (by omega) (by omega) ?_)
           | (with_reducible show wpList _ _ _ (⟨some 11, _, _, _, _, _⟩ :: _) _ _; refine wpList_load_mid rfl 52 _ rfl x (o + k * 99) rfl _ _ HR.out Tryz.underlying52 rfl (by rw [hln.out]; exact size_shn) ?_)
           | (
              refine wpList_store_blk rfl 52 _ _ rfl (wr.heap.size) (shnC q).toArray rfl rfl _ 52 (Blk.new rfl (shnC Shn.zero).toArray _) 99 size_shn zshn_size (shnC_size hok.out.nonce hok.out.salt hok.out.known) (shn_ones q) ?_
              intro w1 hbw1 hkw1
              have hw1 := hbw1.below ((Below.refl wr.heap.size wr).alloc (Nat.le_refl _) _) (by simp only [World.size_alloc]; omega) (Nat.le_refl _)
              have HBw1 := hid (Below.on HBwr.out hw1)
              have hsw1 := HBw1.out.size
              have Kxw1 := hid hkw1
              have cvx := shn_v (Blk.rng hkw1)
              have hfw1 : w.heap.size ≤ wr.heap.size := HBwr.out.size
              clear hbw1 hkw1 hw1))
        exact ⟨⟨k + 1, by omega, by first | rfl | simp, HBw1.out, fun j hj => by
          by_cases hjk : j = k
          · subst hjk; rw [Hq.out]; exact Hv.out
          · exact Hall.out j (by omega)⟩, by simp [intOf]; omega⟩
      · have qv : (q.v != (k : Int) + 1) = true := by simp [hv]
        have Hv := hid hv
        clear hv
        go_wp2_with (first
           | (with_reducible show wpList _ _ _ (⟨some 10, _, _, _, _, _⟩ :: _) _ _; refine wpList_index_s 99 (by first | rfl | go_simp) 45 _ _ rfl Tryz.underlying45 size_shn x o sn sc rfl _ _ rfl k (by omega) (by omega) ?_)
           | (with_reducible show wpList _ _ _ (⟨some 11, _, _, _, _, _⟩ :: _) _ _; refine wpList_load_mid rfl 52 _ rfl x (o + k * 99) rfl _ _ HR.out Tryz.underlying52 rfl (by rw [hln.out]; exact size_shn) ?_)
           | (
              refine wpList_store_blk rfl 52 _ _ rfl (wr.heap.size) (shnC q).toArray rfl rfl _ 52 (Blk.new rfl (shnC Shn.zero).toArray _) 99 size_shn zshn_size (shnC_size hok.out.nonce hok.out.salt hok.out.known) (shn_ones q) ?_
              intro w1 hbw1 hkw1
              have hw1 := hbw1.below ((Below.refl wr.heap.size wr).alloc (Nat.le_refl _) _) (by simp only [World.size_alloc]; omega) (Nat.le_refl _)
              have HBw1 := hid (Below.on HBwr.out hw1)
              have hsw1 := HBw1.out.size
              have Kxw1 := hid hkw1
              have cvx := shn_v (Blk.rng hkw1)
              have hfw1 : w.heap.size ≤ wr.heap.size := HBwr.out.size
              clear hbw1 hkw1 hw1))
        go_returns
        exact ⟨by rw [HBAD.out Hv.out]; rfl, HBw1.out⟩
    · obtain rfl : k = sn := by omega
      have hc0 : ¬ ((k : Int) < k) := by omega
      go_wp2_with fail
      go_returns
      exact ⟨by rw [cntB_good (fun j hj => Hall.out j (by omega))]; rfl, HBwr.out⟩
set_option maxHeartbeats 4000000 in
theorem look1_any (x d : List Int) (sa pa : Option Addr) (sn sc pl pc : Nat) (ba : Nat) (w : World)  (ka : Blk w ba (ansC (.slice sa sn sc) x d (.slice pa pl pc)).toArray 49) :
    Calls Tryz.prog 50 #[.pointer (some ⟨ba, 0, none⟩)] w fun e w' => e = .returned (.bool (decide ((sn : Int) ≤ 1))) ∧ Below w.heap.size w w' := by
  have Hb := hid (Below.refl w.heap.size w)
  have Ka := hid ka
  have ca := ansC_shown ka
  clear ka
  go_enter Tryz.func50, Tryz.ntmps50
  go_wp2_with fail
  go_returns
  exact ⟨by first | rfl | simp, Hb.out⟩
set_option maxHeartbeats 4000000 in
theorem look2_any (t name x d : List Int) (na sa pa : Option Addr) (nn nc sn sc pl pc : Nat) (l : List Shn) (bt bn ba : Nat) (w : World) (ht : Dg t) (hT : TextAt w na nn nc name) (hS : ShnsAt w sa sn sc l) (tab : ShaTab w) (kt : Blk w bt (t.map (Value.int .u8)).toArray 25) (kn : Blk w bn #[.slice na nn nc] 37) (ka : Blk w ba (ansC (.slice sa sn sc) x d (.slice pa pl pc)).toArray 49) :
    Calls Tryz.prog 51 #[.pointer (some ⟨bt, 0, none⟩), .pointer (some ⟨bn, 0, none⟩), .pointer (some ⟨ba, 0, none⟩)] w fun e w' => e = .returned (.bool (l.all (shownB t name nn))) ∧ Below w.heap.size w w' := by
  have Hb := hid (Below.refl w.heap.size w)
  have Kt := hid kt
  have Ka := hid ka
  have ca := ansC_shown ka
  have cn : w.cell? ⟨bn, 0, none⟩ = some (.slice na nn nc) := by rw [kn.cell]; rfl
  clear kt kn ka
  go_enter Tryz.func51, Tryz.ntmps51
  go_wp2_with (refine wpList_load_blk rfl 25 _ rfl (bt) rfl _ 25 Kt.out _ Tryz.underlying25 rfl 32 size_digest ht.size ?_)
  refine (allshown_any t name na sa nn nc sn sc l _ ht hT hS tab).mono ?_
  rintro e w1 ⟨rfl, bw1⟩
  have HBw1 := hid (Below.on Hb.out bw1)
  have hsw1 := HBw1.out.size
  clear bw1
  go_wp2_with fail
  go_returns
  exact ⟨by first | rfl | simp, HBw1.out⟩
set_option maxHeartbeats 4000000 in
theorem look3_any (t name x d : List Int) (na sa pa : Option Addr) (nn nc sn sc pl pc : Nat) (last : Int) (ns : List (List Int)) (bt bn bl ba : Nat) (w : World) (ht : Dg t) (hx : Dg x) (hd : Dg d) (hT : TextAt w na nn nc name) (hN : DigsAt w pa pl pc ns) (tab : ShaTab w) (kt : Blk w bt (t.map (Value.int .u8)).toArray 25) (kn : Blk w bn #[.slice na nn nc] 37) (kl : Blk w bl #[.int .i64 last] 3) (ka : Blk w ba (ansC (.slice sa sn sc) x d (.slice pa pl pc)).toArray 49) :
    Calls Tryz.prog 53 #[.pointer (some ⟨bt, 0, none⟩), .pointer (some ⟨bn, 0, none⟩), .pointer (some ⟨bl, 0, none⟩), .pointer (some ⟨ba, 0, none⟩)] w fun e w' => e = .returned (.bool (goneB t name nn (wrap64 (last + 1)) x d ns)) ∧ Below w.heap.size w w' := by
  have Hb := hid (Below.refl w.heap.size w)
  have Kt := hid kt
  have Ka := hid ka
  have ca := ansC_shown ka
  have cn : w.cell? ⟨bn, 0, none⟩ = some (.slice na nn nc) := by rw [kn.cell]; rfl
  have cl : w.cell? ⟨bl, 0, none⟩ = some (.int .i64 last) := by rw [kl.cell]; rfl
  clear kt kn kl ka
  go_enter Tryz.func53, Tryz.ntmps53
  go_wp2_with (first
     | (refine wpList_load_blk rfl 25 _ rfl (bt) rfl _ 25 Kt.out _ Tryz.underlying25 rfl 32 size_digest ht.size ?_)
     | (refine wpList_load_blk rfl 49 _ rfl (ba) rfl _ 49 Ka.out _ Tryz.underlying49 rfl 66 size_answer (ansC_size hx hd) ?_))
  refine (ends_any t name x d na pa nn nc pl pc last (.slice sa sn sc) ns _ ht hx hd hT hN tab).mono ?_
  rintro e w1 ⟨rfl, bw1⟩
  have HBw1 := hid (Below.on Hb.out bw1)
  have hsw1 := HBw1.out.size
  clear bw1
  go_wp2_with fail
  go_returns
  exact ⟨by first | rfl | simp, HBw1.out⟩
set_option maxHeartbeats 4000000 in
theorem hist1_any (x d : List Int) (sa pa : Option Addr) (sn sc pl pc : Nat) (l : List Shn) (ba : Nat) (w : World) (hS : ShnsAt w sa sn sc l) (ka : Blk w ba (ansC (.slice sa sn sc) x d (.slice pa pl pc)).toArray 49) :
    Calls Tryz.prog 55 #[.pointer (some ⟨ba, 0, none⟩)] w fun e w' => e = .returned (.bool (cntB l)) ∧ Below w.heap.size w w' := by
  have Hb := hid (Below.refl w.heap.size w)
  have Ka := hid ka
  have ca := ansC_shown ka
  clear ka
  go_enter Tryz.func55, Tryz.ntmps55
  go_wp2_with fail
  refine (counted_any sa sn sc l _ hS).mono ?_
  rintro e w1 ⟨rfl, bw1⟩
  have HBw1 := hid (Below.on Hb.out bw1)
  have hsw1 := HBw1.out.size
  clear bw1
  go_wp2_with fail
  go_returns
  exact ⟨by first | rfl | simp, HBw1.out⟩
set_option maxHeartbeats 4000000 in
theorem hist2_any (t name x d : List Int) (na sa pa : Option Addr) (nn nc sn sc pl pc : Nat) (l : List Shn) (bt bn ba : Nat) (w : World) (ht : Dg t) (hT : TextAt w na nn nc name) (hS : ShnsAt w sa sn sc l) (tab : ShaTab w) (kt : Blk w bt (t.map (Value.int .u8)).toArray 25) (kn : Blk w bn #[.slice na nn nc] 37) (ka : Blk w ba (ansC (.slice sa sn sc) x d (.slice pa pl pc)).toArray 49) :
    Calls Tryz.prog 57 #[.pointer (some ⟨bt, 0, none⟩), .pointer (some ⟨bn, 0, none⟩), .pointer (some ⟨ba, 0, none⟩)] w fun e w' => e = .returned (.bool (l.all (shownB t name nn))) ∧ Below w.heap.size w w' := by
  have Hb := hid (Below.refl w.heap.size w)
  have Kt := hid kt
  have Ka := hid ka
  have ca := ansC_shown ka
  have cn : w.cell? ⟨bn, 0, none⟩ = some (.slice na nn nc) := by rw [kn.cell]; rfl
  clear kt kn ka
  go_enter Tryz.func57, Tryz.ntmps57
  go_wp2_with (refine wpList_load_blk rfl 25 _ rfl (bt) rfl _ 25 Kt.out _ Tryz.underlying25 rfl 32 size_digest ht.size ?_)
  refine (allshown_any t name na sa nn nc sn sc l _ ht hT hS tab).mono ?_
  rintro e w1 ⟨rfl, bw1⟩
  have HBw1 := hid (Below.on Hb.out bw1)
  have hsw1 := HBw1.out.size
  clear bw1
  go_wp2_with fail
  go_returns
  exact ⟨by first | rfl | simp, HBw1.out⟩
set_option maxHeartbeats 4000000 in
theorem hist3_any (t name x d : List Int) (na sa pa : Option Addr) (nn nc sn sc pl pc : Nat) (ns : List (List Int)) (bt bn ba : Nat) (w : World) (ht : Dg t) (hx : Dg x) (hd : Dg d) (hT : TextAt w na nn nc name) (hN : DigsAt w pa pl pc ns) (tab : ShaTab w) (kt : Blk w bt (t.map (Value.int .u8)).toArray 25) (kn : Blk w bn #[.slice na nn nc] 37) (ka : Blk w ba (ansC (.slice sa sn sc) x d (.slice pa pl pc)).toArray 49) :
    Calls Tryz.prog 58 #[.pointer (some ⟨bt, 0, none⟩), .pointer (some ⟨bn, 0, none⟩), .pointer (some ⟨ba, 0, none⟩)] w fun e w' => e = .returned (.bool (goneB t name nn (wrap64 ((sn : Int) + 1)) x d ns)) ∧ Below w.heap.size w w' := by
  have Hb := hid (Below.refl w.heap.size w)
  have Kt := hid kt
  have Ka := hid ka
  have ca := ansC_shown ka
  have cn : w.cell? ⟨bn, 0, none⟩ = some (.slice na nn nc) := by rw [kn.cell]; rfl
  clear kt kn ka
  go_enter Tryz.func58, Tryz.ntmps58
  go_wp2_with (first
     | (with_reducible show wpList _ _ _ (⟨some 4, _, _, _, _, _⟩ :: _) _ _; refine wpList_load_blk rfl 25 _ rfl (bt) rfl _ 25 Kt.out _ Tryz.underlying25 rfl 32 size_digest ht.size ?_)
     | (with_reducible show wpList _ _ _ (⟨some 9, _, _, _, _, _⟩ :: _) _ _; refine wpList_load_blk rfl 49 _ rfl (ba) rfl _ 49 Ka.out _ Tryz.underlying49 rfl 66 size_answer (ansC_size hx hd) ?_))
  refine (ends_any t name x d na pa nn nc pl pc sn (.slice sa sn sc) ns _ ht hx hd hT hN tab).mono ?_
  rintro e w1 ⟨rfl, bw1⟩
  have HBw1 := hid (Below.on Hb.out bw1)
  have hsw1 := HBw1.out.size
  clear bw1
  go_wp2_with fail
  go_returns
  exact ⟨by first | rfl | simp, HBw1.out⟩
set_option maxHeartbeats 4000000 in
theorem all_history (g : Nat) (p00 p10 p11 p12 p20 p21 p22 : Value) (b0 b1 b2 : Bool) (w : World) (kg : Blk w g #[.func (.func 55) #[] #[p00], .func (.func 57) #[] #[p10, p11, p12], .func (.func 58) #[] #[p20, p21, p22]] 35) (h0 : ∀ W : World, Below w.heap.size w W → Calls Tryz.prog 55 #[p00] W fun e w' => e = .returned (.bool b0) ∧ Below W.heap.size W w') (h1 : ∀ W : World, Below w.heap.size w W → Calls Tryz.prog 57 #[p10, p11, p12] W fun e w' => e = .returned (.bool b1) ∧ Below W.heap.size W w') (h2 : ∀ W : World, Below w.heap.size w W → Calls Tryz.prog 58 #[p20, p21, p22] W fun e w' => e = .returned (.bool b2) ∧ Below W.heap.size W w') :
    Calls Tryz.prog 41 #[.slice (some ⟨g, 0, none⟩) 3 3] w fun e w' => e = .returned (.bool (b0 && (b1 && b2))) ∧ Below w.heap.size w w' := by
  have Hb := hid (Below.refl w.heap.size w)
  have Kg := hid kg
  have hgl := kg.lt
  have H0 := hid h0
  have H1 := hid h1
  have H2 := hid h2
  clear kg h0 h1 h2
  go_enter Tryz.func41, Tryz.ntmps41
  go_wp2_with fail
  go_loopw [7] (fun iv wr => ∃ k : Nat, k ≤ 3 ∧ iv = .int .i64 k ∧ (k ≥ 1 → b0 = true) ∧ (k ≥ 2 → b1 = true) ∧ (k ≥ 3 → b2 = true) ∧ Below w.heap.size w wr) (fun iv _ => 3 - (intOf iv).toNat)
  case atStart => exact ⟨0, Nat.zero_le _, rfl, fun h => absurd h (by omega), fun h => absurd h (by omega), fun h => absurd h (by omega), Hb.out⟩
  case round =>
    obtain ⟨k, hk, rfl, q0, q1, q2, bel⟩ := hrel
    have HBwr := hid bel
    have kgr := Kg.out.below bel
    clear bel
    rcases (show k = 0 ∨ k = 1 ∨ k = 2 ∨ k = 3 by omega) with rfl | rfl | rfl | rfl
    · skip
      have cg : wr.cell? ⟨g, 0, none⟩ = some (.func (.func 55) #[] #[p00]) := by rw [kgr.cell]; rfl
      clear kgr
      go_wp2_with fail
      refine (H0.out _ HBwr.out).mono ?_
      rintro e w1 ⟨rfl, b1w⟩
      have HB1 := hid (Below.on HBwr.out b1w)
      clear b1w
      cases hb : b0 with
      | true =>
        go_wp2_with fail
        exact ⟨⟨1, by omega, by first | rfl | simp, fun _ => hb, fun h => absurd h (by omega), fun h => absurd h (by omega), HB1.out⟩, by simp [intOf]⟩
      | false =>
        go_wp2_with fail
        go_returns
        exact ⟨by simp [hb], HB1.out⟩
    · skip
      have cg : wr.cell? ⟨g, 1, none⟩ = some (.func (.func 57) #[] #[p10, p11, p12]) := by rw [kgr.cell]; rfl
      clear kgr
      go_wp2_with fail
      refine (H1.out _ HBwr.out).mono ?_
      rintro e w1 ⟨rfl, b1w⟩
      have HB1 := hid (Below.on HBwr.out b1w)
      clear b1w
      cases hb : b1 with
      | true =>
        go_wp2_with fail
        exact ⟨⟨2, by omega, by first | rfl | simp, fun _ => q0 (by omega), fun h => hb, fun h => absurd h (by omega), HB1.out⟩, by simp [intOf]⟩
      | false =>
        go_wp2_with fail
        go_returns
        exact ⟨by simp [hb], HB1.out⟩
    · skip
      have cg : wr.cell? ⟨g, 2, none⟩ = some (.func (.func 58) #[] #[p20, p21, p22]) := by rw [kgr.cell]; rfl
      clear kgr
      go_wp2_with fail
      refine (H2.out _ HBwr.out).mono ?_
      rintro e w1 ⟨rfl, b1w⟩
      have HB1 := hid (Below.on HBwr.out b1w)
      clear b1w
      cases hb : b2 with
      | true =>
        go_wp2_with fail
        exact ⟨⟨3, by omega, by first | rfl | simp, fun _ => q0 (by omega), fun h => q1 (by omega), fun h => hb, HB1.out⟩, by simp [intOf]⟩
      | false =>
        go_wp2_with fail
        go_returns
        exact ⟨by simp [hb], HB1.out⟩
    · skip
      clear kgr
      go_wp2_with fail
      go_returns
      exact ⟨by rw [q0 (by omega), q1 (by omega), q2 (by omega)]; rfl, HBwr.out⟩
end Go.Proofs.YtkakoiaahgchmaaGreatDoor
namespace Go.Proofs.YtkakoiaahgchmaaGreatDoor
set_option maxRecDepth 100000
open Go.ChangeShapes Go.WideShapes Go.ChangeAt Go.RowKit
theorem size_int22 : (Tryz.prog.info? 3).map (·.size) = some 1 := by kernel_rfl
set_option maxHeartbeats 4000000 in
theorem vhistory_any (t name x d : List Int) (na sa pa : Option Addr) (nn nc sn sc pl pc : Nat) (l : List Shn) (ns : List (List Int)) (w : World) (ht : Dg t) (hx : Dg x) (hd : Dg d) (hT : TextAt w na nn nc name) (hS : ShnsAt w sa sn sc l) (hN : DigsAt w pa pl pc ns) (tab : ShaTab w) :
    Calls Tryz.prog 19 #[.agg (t.map (Value.int .u8)).toArray, .slice na nn nc, .agg (ansC (.slice sa sn sc) x d (.slice pa pl pc)).toArray] w fun e w' => e = .returned (.bool (cntB l && ((l.all (shownB t name nn)) && goneB t name nn (wrap64 ((sn : Int) + 1)) x d ns))) ∧ Below w.heap.size w w' := by
  have b1 := (Below.refl w.heap.size w).alloc (Nat.le_refl _) (.cells (t.map (Value.int .u8)).toArray 25 (0, 0))
  have b2 := b1.alloc b1.size (.cells #[.slice na nn nc] 37 (0, 0))
  have b3 := b2.alloc b2.size (.cells (ansC (.slice sa sn sc) x d (.slice pa pl pc)).toArray 49 (0, 0))
  have Kt := hid (((Blk.new (w := w) (n := w.heap.size) rfl (t.map (Value.int .u8)).toArray 25).old (.cells #[.slice na nn nc] 37 (0, 0))).old (.cells (ansC (.slice sa sn sc) x d (.slice pa pl pc)).toArray 49 (0, 0)))
  have Kn := hid ((Blk.new (w := (w.alloc (.cells (t.map (Value.int .u8)).toArray 25 (0, 0)))) (n := w.heap.size + 1) (by simp only [World.size_alloc]) #[.slice na nn nc] 37).old (.cells (ansC (.slice sa sn sc) x d (.slice pa pl pc)).toArray 49 (0, 0)))
  have Ka := hid (Blk.new (w := ((w.alloc (.cells (t.map (Value.int .u8)).toArray 25 (0, 0))).alloc (.cells #[.slice na nn nc] 37 (0, 0)))) (n := w.heap.size + 1 + 1) (by simp only [World.size_alloc]) (ansC (.slice sa sn sc) x d (.slice pa pl pc)).toArray 49)
  have Hb := hid b3
  have hbz := b3.size
  have Hbs := hid (show w.heap.size + 1 + 1 + 1 = (((w.alloc (.cells (t.map (Value.int .u8)).toArray 25 (0, 0))).alloc (.cells #[.slice na nn nc] 37 (0, 0))).alloc (.cells (ansC (.slice sa sn sc) x d (.slice pa pl pc)).toArray 49 (0, 0))).heap.size by simp only [World.size_alloc])
  have Htab := hid tab
  clear b1 b2 b3 tab 
  go_enter Tryz.func19, Tryz.ntmps19
  go_wp2_with fail
  have ball := hid (Hb.out.alloc Hb.out.size (.cells #[.func (.func 55) #[] #[.pointer (some ⟨w.heap.size + 1 + 1, 0, none⟩)], .func (.func 57) #[] #[.pointer (some ⟨w.heap.size, 0, none⟩), .pointer (some ⟨w.heap.size + 1, 0, none⟩), .pointer (some ⟨w.heap.size + 1 + 1, 0, none⟩)], .func (.func 58) #[] #[.pointer (some ⟨w.heap.size, 0, none⟩), .pointer (some ⟨w.heap.size + 1, 0, none⟩), .pointer (some ⟨w.heap.size + 1 + 1, 0, none⟩)]] 35 (0, 0)))
  refine (all_history (w.heap.size + 1 + 1 + 1) _ _ _ _ _ _ _ (cntB l) (l.all (shownB t name nn)) (goneB t name nn (wrap64 ((sn : Int) + 1)) x d ns) _ (Blk.new (by simp only [World.size_alloc]) _ 35)
    (fun W hW => hist1_any x d sa pa sn sc pl pc l (w.heap.size + 1 + 1) W (hS.below (Below.on ball.out hW)) ((Ka.out.old _).below hW))
    (fun W hW => hist2_any t name x d na sa pa nn nc sn sc pl pc l (w.heap.size) (w.heap.size + 1) (w.heap.size + 1 + 1) W ht (hT.below (Below.on ball.out hW)) (hS.below (Below.on ball.out hW)) (Htab.out.below (Below.on ball.out hW)) ((Kt.out.old _).below hW) ((Kn.out.old _).below hW) ((Ka.out.old _).below hW))
    (fun W hW => hist3_any t name x d na sa pa nn nc sn sc pl pc ns (w.heap.size) (w.heap.size + 1) (w.heap.size + 1 + 1) W ht hx hd (hT.below (Below.on ball.out hW)) (hN.below (Below.on ball.out hW)) (Htab.out.below (Below.on ball.out hW)) ((Kt.out.old _).below hW) ((Kn.out.old _).below hW) ((Ka.out.old _).below hW))).mono ?_
  rintro e w5 ⟨rfl, b5⟩
  have HB5 := hid (Below.on ball.out b5)
  clear b5 ball
  go_wp2_with fail
  go_returns
  exact ⟨by first | rfl | simp, HB5.out⟩
set_option maxHeartbeats 4000000 in
theorem vlookup_any (t name x d : List Int) (na sa pa : Option Addr) (nn nc sn sc pl pc : Nat) (l : List Shn) (ns : List (List Int)) (w : World) (ht : Dg t) (hx : Dg x) (hd : Dg d) (hT : TextAt w na nn nc name) (hS : ShnsAt w sa sn sc l) (hN : DigsAt w pa pl pc ns) (tab : ShaTab w) :
    Calls Tryz.prog 18 #[.agg (t.map (Value.int .u8)).toArray, .slice na nn nc, .agg (ansC (.slice sa sn sc) x d (.slice pa pl pc)).toArray] w fun e w' => e = .returned (.bool (decide ((sn : Int) ≤ 1) && ((l.all (shownB t name nn)) && goneB t name nn (wrap64 (lastV l sn + 1)) x d ns))) ∧ Below w.heap.size w w' := by
  have b1 := (Below.refl w.heap.size w).alloc (Nat.le_refl _) (.cells (t.map (Value.int .u8)).toArray 25 (0, 0))
  have b2 := b1.alloc b1.size (.cells #[.slice na nn nc] 37 (0, 0))
  have b3 := b2.alloc b2.size (.cells (ansC (.slice sa sn sc) x d (.slice pa pl pc)).toArray 49 (0, 0))
  have Kt := hid (((Blk.new (w := w) (n := w.heap.size) rfl (t.map (Value.int .u8)).toArray 25).old (.cells #[.slice na nn nc] 37 (0, 0))).old (.cells (ansC (.slice sa sn sc) x d (.slice pa pl pc)).toArray 49 (0, 0)))
  have Kn := hid ((Blk.new (w := (w.alloc (.cells (t.map (Value.int .u8)).toArray 25 (0, 0)))) (n := w.heap.size + 1) (by simp only [World.size_alloc]) #[.slice na nn nc] 37).old (.cells (ansC (.slice sa sn sc) x d (.slice pa pl pc)).toArray 49 (0, 0)))
  have Ka := hid (Blk.new (w := ((w.alloc (.cells (t.map (Value.int .u8)).toArray 25 (0, 0))).alloc (.cells #[.slice na nn nc] 37 (0, 0)))) (n := w.heap.size + 1 + 1) (by simp only [World.size_alloc]) (ansC (.slice sa sn sc) x d (.slice pa pl pc)).toArray 49)
  have Hb := hid b3
  have hbz := b3.size
  have Hbs := hid (show w.heap.size + 1 + 1 + 1 = (((w.alloc (.cells (t.map (Value.int .u8)).toArray 25 (0, 0))).alloc (.cells #[.slice na nn nc] 37 (0, 0))).alloc (.cells (ansC (.slice sa sn sc) x d (.slice pa pl pc)).toArray 49 (0, 0))).heap.size by simp only [World.size_alloc])
  have Htab := hid tab
  clear b1 b2 b3 tab 
  have HS := hid hS
  have hlen := hS.length
  have hle := hS.le
  have hmx := hS.max
  clear hS
  go_enter Tryz.func18, Tryz.ntmps18
  have Hbl := hid (Hb.out.alloc Hb.out.size (.cells #[.int .i64 0] 3 (0, 0)))
  have Ktl := hid (Kt.out.old (.cells #[.int .i64 0] 3 (0, 0)))
  have Knl := hid (Kn.out.old (.cells #[.int .i64 0] 3 (0, 0)))
  have Kal := hid (Ka.out.old (.cells #[.int .i64 0] 3 (0, 0)))
  have Kll := hid (Blk.new (w := (((w.alloc (.cells (t.map (Value.int .u8)).toArray 25 (0, 0))).alloc (.cells #[.slice na nn nc] 37 (0, 0))).alloc (.cells (ansC (.slice sa sn sc) x d (.slice pa pl pc)).toArray 49 (0, 0)))) (n := w.heap.size + 1 + 1 + 1) Hbs.out.symm #[.int .i64 0] 3)
  have cal := ansC_shown Kal.out
  go_wp2_with fail
  go_loopw [13] (fun iv wr => ∃ k : Nat, k ≤ sn ∧ iv = .int .i64 k ∧ Blk wr (w.heap.size) (t.map (Value.int .u8)).toArray 25 ∧ Blk wr (w.heap.size + 1) #[.slice na nn nc] 37 ∧ Blk wr (w.heap.size + 1 + 1) (ansC (.slice sa sn sc) x d (.slice pa pl pc)).toArray 49 ∧ Blk wr (w.heap.size + 1 + 1 + 1) #[.int .i64 (lastV l k)] 3 ∧ Below w.heap.size w wr) (fun iv _ => sn - (intOf iv).toNat)
  case atStart => exact ⟨0, Nat.zero_le _, rfl, Ktl.out, Knl.out, Kal.out, Kll.out, Hbl.out⟩
  case round =>
    obtain ⟨k, hk, rfl, kt, kn, ka, kl, bel⟩ := hrel
    have Ktwr := hid kt
    have Knwr := hid kn
    have Kawr := hid ka
    have Klwr := hid kl
    have HBwr := hid bel
    have hswr := bel.size
    have hltl := kl.lt
    clear kt kn ka kl bel
    by_cases hlt : k < sn
    · have hc0 : (k : Int) < sn := by omega
      have hok := hid ((HS.out.below HBwr.out).ok hlt)
      obtain ⟨x, o, rfl, hx, hr⟩ := (HS.out.below HBwr.out).at_ hlt
      obtain ⟨q, hq⟩ : ∃ q, l.getD k Shn.zero = q := ⟨_, rfl⟩
      have Hq := hid hq
      rw [hq] at hr hok
      have HR := hid hr
      have hln := hid (shnC_len hok.out.nonce hok.out.salt hok.out.known)
      clear hr hq
      go_wp2_with (first
         | (with_reducible show wpList _ _ _ (⟨some 15, _, _, _, _, _⟩ :: _) _ _; refine wpList_index_s 99 (by first | rfl | go_simp) 45 _ _ rfl Tryz.underlying45 size_shn x o sn sc rfl _ _ rfl k (by omega) (by omega) ?_)
         | (with_reducible show wpList _ _ _ (⟨some 16, _, _, _, _, _⟩ :: _) _ _; refine wpList_load_mid rfl 52 _ rfl x (o + k * 99) rfl _ _ HR.out Tryz.underlying52 rfl (by rw [hln.out]; exact size_shn) ?_)
         | (
            refine wpList_store_blk rfl 52 _ _ rfl (wr.heap.size) (shnC q).toArray rfl rfl _ 52 (Blk.new rfl (shnC Shn.zero).toArray _) 99 size_shn zshn_size (shnC_size hok.out.nonce hok.out.salt hok.out.known) (shn_ones q) ?_
            intro w1 hbw1 hkw1
            have hw1 := hbw1.below ((Below.refl wr.heap.size wr).alloc (Nat.le_refl _) _) (by simp only [World.size_alloc]; omega) (Nat.le_refl _)
            have HBw1 := hid (Below.on HBwr.out hw1)
            have hsw1 := HBw1.out.size
            have Ktw1 := hid (Ktwr.out.below hw1)
            have hltw1 := Ktwr.out.lt
            have Knw1 := hid (Knwr.out.below hw1)
            have hlnw1 := Knwr.out.lt
            have Kaw1 := hid (Kawr.out.below hw1)
            have hlaw1 := Kawr.out.lt
            have Klw1 := hid (Klwr.out.below hw1)
            have hllw1 := Klwr.out.lt
            have Kxw1 := hid hkw1
            have cvx := shn_v (Blk.rng hkw1)
            have hfw1 : w.heap.size ≤ wr.heap.size := HBwr.out.size
            clear hbw1 hkw1 hw1)
         | (
            refine wpList_store_cell rfl 3 _ _ rfl (w.heap.size + 1 + 1 + 1) 0 (.int .i64 q.v) rfl rfl rfl rfl _ 3 Klw1.out (by simp) size_int22 ?_
            intro w2 hb2 hk2
            have hk2 : Blk w2 (w.heap.size + 1 + 1 + 1) #[.int .i64 q.v] 3 := hk2
            have HB2 := hid (hb2.below HBw1.out HBw1.out.size (by omega))
            have Kt2 := hid (hb2.blk Ktw1.out (by omega))
            have Kn2 := hid (hb2.blk Knw1.out (by omega))
            have Ka2 := hid (hb2.blk Kaw1.out (by omega))
            have Kl2 := hid hk2
            clear hb2 hk2))
      exact ⟨⟨k + 1, by omega, by first | rfl | simp, Kt2.out, Kn2.out, Ka2.out, by
        show Blk w2 (w.heap.size + 1 + 1 + 1) #[.int .i64 (l.getD k Shn.zero).v] 3
        rw [Hq.out]
        exact Kl2.out, HB2.out⟩, by simp [intOf]; omega⟩
    · obtain rfl : k = sn := by omega
      have hc0 : ¬ ((k : Int) < k) := by omega
      go_wp2_with fail
      have ball := hid (HBwr.out.alloc HBwr.out.size (.cells #[.func (.func 50) #[] #[.pointer (some ⟨w.heap.size + 1 + 1, 0, none⟩)], .func (.func 51) #[] #[.pointer (some ⟨w.heap.size, 0, none⟩), .pointer (some ⟨w.heap.size + 1, 0, none⟩), .pointer (some ⟨w.heap.size + 1 + 1, 0, none⟩)], .func (.func 53) #[] #[.pointer (some ⟨w.heap.size, 0, none⟩), .pointer (some ⟨w.heap.size + 1, 0, none⟩), .pointer (some ⟨w.heap.size + 1 + 1 + 1, 0, none⟩), .pointer (some ⟨w.heap.size + 1 + 1, 0, none⟩)]] 35 (0, 0)))
      refine (all_lookup wr.heap.size _ _ _ _ _ _ _ _ (decide ((k : Int) ≤ 1)) (l.all (shownB t name nn)) (goneB t name nn (wrap64 (lastV l k + 1)) x d ns) _ (Blk.new (w := wr) rfl _ 35)
        (fun W hW => look1_any x d sa pa k sc pl pc (w.heap.size + 1 + 1) W ((Kawr.out.old _).below hW))
        (fun W hW => look2_any t name x d na sa pa nn nc k sc pl pc l (w.heap.size) (w.heap.size + 1) (w.heap.size + 1 + 1) W ht (hT.below (Below.on ball.out hW)) (HS.out.below (Below.on ball.out hW)) (Htab.out.below (Below.on ball.out hW)) ((Ktwr.out.old _).below hW) ((Knwr.out.old _).below hW) ((Kawr.out.old _).below hW))
        (fun W hW => look3_any t name x d na sa pa nn nc k sc pl pc (lastV l k) ns (w.heap.size) (w.heap.size + 1) (w.heap.size + 1 + 1 + 1) (w.heap.size + 1 + 1) W ht hx hd (hT.below (Below.on ball.out hW)) (hN.below (Below.on ball.out hW)) (Htab.out.below (Below.on ball.out hW)) ((Ktwr.out.old _).below hW) ((Knwr.out.old _).below hW) ((Klwr.out.old _).below hW) ((Kawr.out.old _).below hW))).mono ?_
      rintro e w5 ⟨rfl, b5⟩
      have HB5 := hid (Below.on ball.out b5)
      clear b5 ball
      go_wp2_with fail
      go_returns
      exact ⟨by first | rfl | simp, HB5.out⟩
end Go.Proofs.YtkakoiaahgchmaaGreatDoor
