/-
  Layer 18: ProofClimbs.
-/
import Derived.Test.YthaicocfbmpnmaaDoorPrJ
import Derived.Test.YthaicocfbmpnmaaDoorPrY
namespace Go.Proofs.YthaicocfbmpnmaaDoor
open Go.ChangeShapes Go.WideShapes Go.ChangeAt Go.RowKit Go.Shelf
attribute [local go_sem] Oper.semAt_some

theorem Blk.grownC {W W' : World} {b : Nat} {cs : Array Value} {T : TypeId} {row : Option Nat} (h : Blk W b cs T) (hg : W.grownBy W' row) (hr : ∀ r, row = some r → ∃ o : Obj, W.heap[r]? = some o ∧ o.isCells = false) : Blk W' b cs T :=
  (hg.block b h.lt (fun e => by obtain ⟨o, ho, hc⟩ := hr b e.symm; rw [show W.heap[b]? = _ from h] at ho; cases ho; cases hc)).trans h
theorem bitL_two (d : List Int) (k : Nat) : bitL d k = 0 ∨ bitL d k = 1 := by
  unfold bitL
  omega

set_option maxHeartbeats 4000000 in
set_option maxRecDepth 100000 in
theorem climb_good (x i d : List Int) (ad : Option Addr) (len cap : Nat) (ns : List (List Int)) (w : World) (hx : Dg x) (hi : Dg i) (hd : Dg d) (hn : knN d 256 = len) (hns : DigsAt w ad len cap ns) (tab : ShaTab w) :
    Calls Tryd.prog 29 #[.agg (x.map (Value.int .u8)).toArray, .agg (i.map (Value.int .u8)).toArray, .agg (prC d (.slice ad len cap)).toArray] w fun e w' => e = .returned (.tuple #[.agg ((climbK d i ns x 256).map (Value.int .u8)).toArray, .int .i64 0]) ∧ Below w.heap.size w w' := by
  have b1 := (Below.refl w.heap.size w).alloc (Nat.le_refl _) (.cells (x.map (Value.int .u8)).toArray 23 (0, 0))
  have b2 := b1.alloc b1.size (.cells (i.map (Value.int .u8)).toArray 23 (0, 0))
  have b3 := b2.alloc b2.size (.cells (prC d (.slice ad len cap)).toArray 46 (0, 0))
  have b4 := b3.alloc b3.size (.cells (byteCells 32 []) 23 (0, 0))
  have Kx := hid ((((Blk.new (w := w) (n := w.heap.size) rfl (x.map (Value.int .u8)).toArray 23).old (.cells (i.map (Value.int .u8)).toArray 23 (0, 0))).old (.cells (prC d (.slice ad len cap)).toArray 46 (0, 0))).old (.cells (byteCells 32 []) 23 (0, 0)))
  have Ki := hid (((Blk.new (w := (w.alloc (.cells (x.map (Value.int .u8)).toArray 23 (0, 0)))) (n := w.heap.size + 1) (by simp only [World.size_alloc]) (i.map (Value.int .u8)).toArray 23).old (.cells (prC d (.slice ad len cap)).toArray 46 (0, 0))).old (.cells (byteCells 32 []) 23 (0, 0)))
  have Kp := hid ((Blk.new (w := ((w.alloc (.cells (x.map (Value.int .u8)).toArray 23 (0, 0))).alloc (.cells (i.map (Value.int .u8)).toArray 23 (0, 0)))) (n := w.heap.size + 1 + 1) (by simp only [World.size_alloc]) (prC d (.slice ad len cap)).toArray 46).old (.cells (byteCells 32 []) 23 (0, 0)))
  have Kr := hid (Blk.new (w := (((w.alloc (.cells (x.map (Value.int .u8)).toArray 23 (0, 0))).alloc (.cells (i.map (Value.int .u8)).toArray 23 (0, 0))).alloc (.cells (prC d (.slice ad len cap)).toArray 46 (0, 0)))) (n := w.heap.size + 1 + 1 + 1) (by simp only [World.size_alloc]) (byteCells 32 []) 23)
  have Hb := hid b4
  have hbz := b4.size
  have Hbs := hid (show w.heap.size + 1 + 1 + 1 + 1 = ((((w.alloc (.cells (x.map (Value.int .u8)).toArray 23 (0, 0))).alloc (.cells (i.map (Value.int .u8)).toArray 23 (0, 0))).alloc (.cells (prC d (.slice ad len cap)).toArray 46 (0, 0))).alloc (.cells (byteCells 32 []) 23 (0, 0))).heap.size by simp only [World.size_alloc])
  have Htab := hid tab
  clear b1 b2 b3 b4 tab 
  have CK := hid (fun W : World => complete_any d ad len cap W hd)
  rw [decide_eq_true hn] at CK
  have CS := hid (fun W : World => siblings_any d ad len cap W)
  have CN := hid (fun (a b : List Int) (ha : Dg a) (hb : Dg b) (W : World) (t : ShaTab W) => lonode_any a b W ha hb t)
  have CB := hid (fun (k : Nat) (hk : k < 256) (W : World) => bit_in i k W hi hk)
  refine (callsIn_wide (n := 7)).1 ?_
  refine callsIn_of_wp_marks Tryd.func29 rfl trivial ?_ rfl
  simp only [Tryd.ntmps29, List.size_toArray, List.length_cons, List.length_nil, Nat.reduceAdd, Nat.reduceSub, Array.replicate_succ, Array.replicate_zero, List.push_toArray, List.append_toArray, List.nil_append, List.cons_append]
  apply wpIn_seq_k
  intro _ _
  refine wpIn_region_as rfl rfl ?_
  go_wp2_with fail
  apply wpIn_seq_k
  intro _ _
  apply wpIn_seq_k
  intro _ _
  refine wpIn_region_as rfl rfl ?_
  go_wp2_with (refine wpList_load_blk rfl 46 _ rfl (w.heap.size + 1 + 1) rfl _ 46 Kp.out _ Tryd.underlying46 rfl 33 size_proof (prC_size hd _) ?_)
  refine (CK.out _).mono ?_
  rintro e w1 ⟨rfl, bw1⟩
  have HBw1 := hid (Below.on Hb.out bw1)
  have hsw1 := HBw1.out.size
  have Kxw1 := hid (Kx.out.below bw1)
  have Kiw1 := hid (Ki.out.below bw1)
  have Kpw1 := hid (Kp.out.below bw1)
  have Krw1 := hid (Kr.out.below bw1)
  clear bw1
  go_wp2_with fail
  refine wpIn_cond_false rfl ?_
  apply wpIn_skip
  gi_step
  gi_step
  apply wpIn_seq_k
  intro _ _
  apply wpIn_seq_k
  intro _ _
  refine wpIn_region_as rfl rfl ?_
  go_wp2_with (refine wpList_load_blk rfl 46 _ rfl (w.heap.size + 1 + 1) rfl _ 46 Kpw1.out _ Tryd.underlying46 rfl 33 size_proof (prC_size hd _) ?_)
  refine (CS.out _).mono ?_
  rintro e w2 ⟨rfl, b2, k2⟩
  have KQ := hid k2
  clear k2
  have HBw2 := hid (Below.on HBw1.out b2)
  have hsw2 := HBw2.out.size
  have Kxw2 := hid (Kxw1.out.below b2)
  have Kiw2 := hid (Kiw1.out.below b2)
  have Kpw2 := hid (Kpw1.out.below b2)
  have Krw2 := hid (Krw1.out.below b2)
  clear b2
  go_wp2_with fail
  apply wpIn_block
  have hns2 := hns
  have hsz : w.heap.size + 1 + 1 + 1 + 1 ≤ w1.heap.size := by have := Krw1.out.lt; omega
  have hsy : w1.heap.size < w2.heap.size := KQ.out.lt
  have htb := Htab.out.below HBw2.out
  refine wpIn_rangeFunc_ownH rfl (by omega) (gf := 86) (lb := #[.pointer (some ⟨w1.heap.size, 0, none⟩)]) rfl trivial (enters_of Tryd.func86 (by kernel_rfl) rfl)
    (siblings_stops _ d ad len cap ns w1.heap.size w w2 hd hn hns HBw2.out (by omega) KQ.out htb)
    (fun h k => h.trans k) (fun W l o o' hl h ho _ => KeepC.putObj (n := w2.heap.size) (by omega) W l o o' hl h ho) (Below.refl _ _) (fun _ => rfl)
    (fun pre W => (Blk W w.heap.size ((foldC d i ns x pre).map (Value.int .u8)).toArray 23 ∧ Blk W (w.heap.size + 1) (i.map (Value.int .u8)).toArray 23 ∧ Blk W (w.heap.size + 1 + 1 + 1) (byteCells 32 []) 23) ∧ Below w.heap.size w W)
    (fun _ _ _ => False)
    (OwnFrom.and (Own.from (fun s A B row hs hg hr => ⟨hs.1.grownC hg hr, hs.2.1.grownC hg hr, hs.2.2.grownC hg hr⟩) _) (ownFrom_below (Nat.le_refl _) (by omega)))
    (fun _ _ _ _ _ hs _ _ => hs)
    ⟨⟨Kxw2.out, Kiw2.out, Krw2.out⟩, HBw2.out⟩
    (fun k a' W => ∃ Bx, Blk W Bx ((sibL d ns k.1).map (Value.int .u8)).toArray 23 ∧ a' = { tmps := #[.agg (x.map (Value.int .u8)).toArray, .agg (i.map (Value.int .u8)).toArray, .agg (prC d (.slice ad len cap)).toArray, .pointer (some ⟨w.heap.size, 0, none⟩), .pointer (some ⟨w.heap.size + 1, 0, none⟩), .pointer (some ⟨w.heap.size + 1 + 1, 0, none⟩), .pointer (some ⟨w.heap.size + 1 + 1 + 1, 0, none⟩), .int .i64 0, .int .i64 (k.1 : Int), .pointer (some ⟨Bx, 0, none⟩), .agg (prC d (.slice ad len cap)).toArray, .bool true, .bool false, undef, .agg (prC d (.slice ad len cap)).toArray, .func (.func 86) #[] #[.pointer (some ⟨w1.heap.size, 0, none⟩)], .int .i64 (k.1 : Int), .agg ((sibL d ns k.1).map (Value.int .u8)).toArray, undef, undef, undef, undef, undef, undef, undef, undef, undef, undef, undef], defers := [] })
    (fun k a' => fun _ A B row hs hg hr => by
      obtain ⟨Bx, h2, h3⟩ := hs
      exact ⟨Bx, h2.grownC hg (fun r e => (hr r e).2), h3⟩) ?assign ?body ?done ?stop
  case stop =>
    rintro D c pre W _ _ h _
    exact h.elim
  case assign =>
    rintro l pre k W K hi hK
    apply wpIn_seq_k
    intro _ _
    refine wpIn_region_as rfl rfl ?_
    go_wp2_with fail
    have HSd := hid (Dg.sibL hn hns k.2)
    have HW := hid hi
    clear hi
    refine wpIn_region_as rfl rfl ?_
    go_wp2_with (
          refine wpList_store_blk rfl 23 _ _ rfl (W.heap.size) ((sibL d ns k.1).map (Value.int .u8)).toArray rfl rfl _ 23 (Blk.new rfl (byteCells 32 []) _) 32 size_digest zsize HSd.out.size (ints_one _ _) ?_
          intro w3 hb3 hk3
          have b3 := hb3.below ((Below.refl W.heap.size W).alloc (Nat.le_refl _) _) (by simp only [World.size_alloc]; omega) (Nat.le_refl _)
          have HB3 := hid b3
          have HK3 := hid hk3
          clear hb3 hk3 b3)
    have hWs := HW.out.2.size
    exact hK _ _ (keepsFrom_below HB3.out) (KeepC.of_below (by omega) HB3.out) ⟨⟨HW.out.1.1.below HB3.out, HW.out.1.2.1.below HB3.out, HW.out.1.2.2.below HB3.out⟩, Below.on HW.out.2 HB3.out⟩ ⟨W.heap.size, HK3.out, rfl⟩
  case body =>
    rintro l pre k a' W hl _ ⟨⟨kx, ki, kr⟩, bel⟩ ⟨Bx, kb, rfl⟩ _
    have HX := hid kx
    have HI := hid ki
    have HR := hid kr
    have HS := hid kb
    have HBW := hid bel
    have hbl := bel.size
    have hxl := kx.lt
    have hil := ki.lt
    have hrl := kr.lt
    have hsl := kb.lt
    have htW := hid (Htab.out.below bel)
    clear kx ki kr kb bel
    have HSd := hid (Dg.sibL hn hns k.2)
    have HFd := hid (Dg.foldC hx d i ns pre)
    have HF := hid (foldC_snoc d i ns x pre k)
    have HI0 := hid hi
    obtain ⟨k, hk⟩ := k
    dsimp only at *
    generalize sibL d ns k = Sb at *
    generalize foldC d i ns x pre = X at *
    apply wpIn_block
    apply wpIn_seq_k
    intro _ _
    refine wpIn_region_as rfl rfl ?_
    go_wp2_with (refine wpList_load_blk rfl 23 _ rfl (w.heap.size + 1) rfl _ 23 HI.out _ Tryd.underlying23 rfl 32 size_digest HI0.out.size ?_)
    refine (CB.out k hk _).mono ?_
    rintro e w5 ⟨rfl, b5⟩
    have HX5 := hid (HX.out.below b5)
    have HI5 := hid (HI.out.below b5)
    have HR5 := hid (HR.out.below b5)
    have HS5 := hid (HS.out.below b5)
    have HB5 := hid b5
    have hs5 := b5.size
    have ht5 := hid (htW.out.below b5)
    clear b5
    by_cases hq : bitL i k = 0
    · skip
      have HST : Hid (stepL i k X Sb = nodeL X Sb) := hid (by unfold stepL; rw [if_pos hq])
      rw [hq]
      clear hq
      go_wp2_with fail
      refine wpIn_cond_true rfl ?_
      refine wpIn_region_as rfl rfl ?_
      go_wp2_with (first | (refine wpList_load_blk rfl 23 _ rfl (w.heap.size) rfl _ 23 HX5.out _ Tryd.underlying23 rfl 32 size_digest HFd.out.size ?_) | (refine wpList_load_blk rfl 23 _ rfl (Bx) rfl _ 23 HS5.out _ Tryd.underlying23 rfl 32 size_digest HSd.out.size ?_))
      refine (CN.out X Sb HFd.out HSd.out _ ht5.out).mono ?_
      rintro e w6 ⟨rfl, b6⟩
      have HX6 := hid (HX5.out.below b6)
      have HI6 := hid (HI5.out.below b6)
      have HR6 := hid (HR5.out.below b6)
      have HB6 := hid (Below.on HB5.out b6)
      have HNd := hid (Dg.nodeL X Sb)
      have hs6 := b6.size
      generalize nodeL X Sb = T at *
      clear b6
      go_wp2_with (
         refine wpList_store_blk rfl 23 _ _ rfl (w.heap.size) (T.map (Value.int .u8)).toArray rfl rfl _ 23 HX6.out 32 size_digest HFd.out.size HNd.out.size (ints_one _ _) ?_
         intro w7 hb7 hk7
         have HK7 := hid hk7
         have HN7 := hid hb7
         have HI7 := hid (hb7.blk HI6.out (by omega))
         have HR7 := hid (hb7.blk HR6.out (by omega))
         clear hb7 hk7)
      have h6 := HB6.out
      have h7 := HN7.out
      refine ⟨(keepsFrom_below h6).trans (keepsFrom_but (by omega) h7), (KeepC.of_below (by omega) h6).trans (KeepC.of_but (by omega) h7), ⟨by rw [HF.out, HST.out]; exact HK7.out, HI7.out, HR7.out⟩, h7.below (Below.on HBW.out h6) (by have := h6.size; omega) (Nat.le_refl _)⟩
    · skip
      have HST : Hid (stepL i k X Sb = nodeL Sb X) := hid (by unfold stepL; rw [if_neg hq])
      have hq1 : bitL i k = 1 := by have := bitL_two i k; omega
      rw [hq1]
      clear hq hq1
      go_wp2_with fail
      refine wpIn_cond_false rfl ?_
      refine wpIn_region_as rfl rfl ?_
      go_wp2_with (first | (refine wpList_load_blk rfl 23 _ rfl (w.heap.size) rfl _ 23 HX5.out _ Tryd.underlying23 rfl 32 size_digest HFd.out.size ?_) | (refine wpList_load_blk rfl 23 _ rfl (Bx) rfl _ 23 HS5.out _ Tryd.underlying23 rfl 32 size_digest HSd.out.size ?_))
      refine (CN.out Sb X HSd.out HFd.out _ ht5.out).mono ?_
      rintro e w6 ⟨rfl, b6⟩
      have HX6 := hid (HX5.out.below b6)
      have HI6 := hid (HI5.out.below b6)
      have HR6 := hid (HR5.out.below b6)
      have HB6 := hid (Below.on HB5.out b6)
      have HNd := hid (Dg.nodeL Sb X)
      have hs6 := b6.size
      generalize nodeL Sb X = T at *
      clear b6
      go_wp2_with (
         refine wpList_store_blk rfl 23 _ _ rfl (w.heap.size) (T.map (Value.int .u8)).toArray rfl rfl _ 23 HX6.out 32 size_digest HFd.out.size HNd.out.size (ints_one _ _) ?_
         intro w7 hb7 hk7
         have HK7 := hid hk7
         have HN7 := hid hb7
         have HI7 := hid (hb7.blk HI6.out (by omega))
         have HR7 := hid (hb7.blk HR6.out (by omega))
         clear hb7 hk7)
      have h6 := HB6.out
      have h7 := HN7.out
      refine ⟨(keepsFrom_below h6).trans (keepsFrom_but (by omega) h7), (KeepC.of_below (by omega) h6).trans (KeepC.of_but (by omega) h7), ⟨by rw [HF.out, HST.out]; exact HK7.out, HI7.out, HR7.out⟩, h7.below (Below.on HBW.out h6) (by have := h6.size; omega) (Nat.le_refl _)⟩
  case done =>
    rintro D ys W hD rfl ⟨⟨kx, ki, kr⟩, bel⟩ hK
    rw [foldC_up d i ns x (Nat.le_refl _)] at kx
    have HX := hid kx
    have HR := hid kr
    have HBW := hid bel
    have HCd := hid (Dg.climbK hx d i ns 256)
    generalize climbK d i ns x 256 = T at *
    have HKD := hid hK
    have hbl := bel.size
    have hrl := kr.lt
    have hKl : D < W.heap.size := (Array.getElem?_eq_some_iff.1 hK).1
    clear kx ki kr bel hK
    gi_step
    gi_step
    apply wpIn_seq_k
    intro _ _
    refine wpIn_region_as rfl rfl ?_
    go_wp2_with (first
             | (refine wpList_load_blk rfl 23 _ rfl (w.heap.size) rfl _ 23 HX.out _ Tryd.underlying23 rfl 32 size_digest HCd.out.size ?_)
             | (
                refine wpList_store_blk rfl 23 _ _ rfl (w.heap.size + 1 + 1 + 1) (T.map (Value.int .u8)).toArray rfl rfl _ 23 HR.out 32 size_digest zsize HCd.out.size (ints_one _ _) ?_
                intro w9 hb9 hk9
                have HB9 := hid (hb9.below HBW.out HBW.out.size (by omega))
                have HK9 := hid hk9
                have HD9 := hid ((hb9.block D hKl (by omega)).trans HKD.out)
                clear hb9 hk9))
    apply wpIn_ret
    refine ⟨by simp, .inl ⟨_, _, rfl, run_takeDeferred HD9.out, ?_⟩⟩
    have g9 := grownBy_putObj' w9 D (.deferred none)
    have n9 : ∀ r, some D = some r → ∃ o : Obj, w9.heap[r]? = some o ∧ o.isCells = false := fun r e => by cases e; exact ⟨_, HD9.out, rfl⟩
    refine ⟨_, results_blk_tmp Tryd.results29 _ (w.heap.size + 1 + 1 + 1) rfl _ rfl _ 23 (HK9.out.grownC g9 n9) _ Tryd.underlying23 rfl 32 size_digest HCd.out.size, rfl, HB9.out.trans (belowK_b (w := w) (Nat.le_refl _) w9 D _ _ (by omega) HD9.out rfl rfl)⟩
end Go.Proofs.YthaicocfbmpnmaaDoor

namespace Go.Proofs.YthaicocfbmpnmaaDoor
open Go.ChangeShapes Go.WideShapes Go.ChangeAt Go.RowKit

/-- A digest that begins with 1, and with 9. -/
def oneD : List Int := 1 :: List.replicate 31 0
def nineD : List Int := 9 :: List.replicate 31 0
theorem Dg.oneD : Dg oneD := ⟨by decide +kernel, by decide +kernel⟩
theorem Dg.nineD : Dg nineD := ⟨by decide +kernel, by decide +kernel⟩
theorem cells_one : (prC oneD (.slice none 0 0)).toArray = #[.int .u8 1, .int .u8 0, .int .u8 0, .int .u8 0, .int .u8 0, .int .u8 0, .int .u8 0, .int .u8 0, .int .u8 0, .int .u8 0, .int .u8 0, .int .u8 0, .int .u8 0, .int .u8 0, .int .u8 0, .int .u8 0, .int .u8 0, .int .u8 0, .int .u8 0, .int .u8 0, .int .u8 0, .int .u8 0, .int .u8 0, .int .u8 0, .int .u8 0, .int .u8 0, .int .u8 0, .int .u8 0, .int .u8 0, .int .u8 0, .int .u8 0, .int .u8 0, .slice none 0 0] := by rfl
theorem cells_zero : (prC zD (.slice none 0 0)).toArray = #[.int .u8 0, .int .u8 0, .int .u8 0, .int .u8 0, .int .u8 0, .int .u8 0, .int .u8 0, .int .u8 0, .int .u8 0, .int .u8 0, .int .u8 0, .int .u8 0, .int .u8 0, .int .u8 0, .int .u8 0, .int .u8 0, .int .u8 0, .int .u8 0, .int .u8 0, .int .u8 0, .int .u8 0, .int .u8 0, .int .u8 0, .int .u8 0, .int .u8 0, .int .u8 0, .int .u8 0, .int .u8 0, .int .u8 0, .int .u8 0, .int .u8 0, .int .u8 0, .slice none 0 0] := by rfl
theorem cells_nine : (nineD.map (Value.int .u8)).toArray = #[.int .u8 9, .int .u8 0, .int .u8 0, .int .u8 0, .int .u8 0, .int .u8 0, .int .u8 0, .int .u8 0, .int .u8 0, .int .u8 0, .int .u8 0, .int .u8 0, .int .u8 0, .int .u8 0, .int .u8 0, .int .u8 0, .int .u8 0, .int .u8 0, .int .u8 0, .int .u8 0, .int .u8 0, .int .u8 0, .int .u8 0, .int .u8 0, .int .u8 0, .int .u8 0, .int .u8 0, .int .u8 0, .int .u8 0, .int .u8 0, .int .u8 0, .int .u8 0] := by rfl
theorem one_known : ¬ knN oneD 256 = 0 := by decide +kernel

set_option maxHeartbeats 4000000 in
set_option maxRecDepth 100000 in
theorem knows18 (w : World) (tab : ShaTab w) :
    Calls Tryd.prog 28 #[] w fun e w' => e = .returned (.bool true) ∧ Below w.heap.size w w' := by
  have CR := hid (fun (W : World) (t : ShaTab W) => root_none W t)
  have CC := hid (fun (W : World) => climb_bad (emptyL 256) (emptyL 256) oneD none 0 0 W Dg.oneD one_known)
  have HX := hid (Dg.emptyL 256)
  have CA := hid (fun (W : World) (t : ShaTab W) => absent_any (emptyL 256) nineD zD none 0 0 [] true W HX.out Dg.nineD Dg.zero (DigsAt.nil W) t (fun W2 hW2 t2 => by
    have h := leads_ok (emptyL 0) (emptyL 256) nineD zD (emptyL 256) none 0 0 [] W2 (Dg.emptyL 0) HX.out Dg.nineD Dg.zero HX.out hW2 t2 (fun W3 hW3 t3 => by
      have h3 := climb_good (emptyL 0) nineD zD none 0 0 [] W3 (Dg.emptyL 0) Dg.nineD Dg.zero (knN_zero 256) hW3 t3
      rw [climb_zero] at h3
      exact h3)
    rw [decide_eq_true rfl] at h
    exact h))
  rw [cells_one] at CC
  rw [cells_zero, cells_nine] at CA
  generalize emptyL 256 = X at *
  have Hb := hid (Below.refl w.heap.size w)
  have Htab := hid tab
  clear tab
  go_enter Tryd.func28, Tryd.ntmps28
  go_wp2_with fail
  refine (CR.out _ Htab.out).mono ?_
  rintro e w1 ⟨rfl, bw1⟩
  have HBw1 := hid (Below.on Hb.out bw1)
  have hsw1 := HBw1.out.size
  clear bw1
  go_wp2_with (first
     | (
        refine wpList_store_blk rfl 23 _ _ rfl (w1.heap.size) (X.map (Value.int .u8)).toArray rfl rfl _ 23 (Blk.new rfl (byteCells 32 []) _) 32 size_digest zsize HX.out.size (ints_one _ _) ?_
        intro w2 hbw2 hkw2
        have hw2 := hbw2.below ((Below.refl w1.heap.size w1).alloc (Nat.le_refl _) _) (by simp only [World.size_alloc]; omega) (Nat.le_refl _)
        have HBw2 := hid (Below.on HBw1.out hw2)
        have hsw2 := HBw2.out.size
        have Kxw2 := hid hkw2
        have hfw2 : w.heap.size ≤ w1.heap.size := HBw1.out.size
        clear hbw2 hkw2 hw2)
     | (refine wpList_load_blk rfl 23 _ rfl (w1.heap.size) rfl _ 23 Kxw2.out _ Tryd.underlying23 rfl 32 size_digest HX.out.size ?_))
  refine (CC.out _).mono ?_
  rintro e w3 ⟨rfl, bw3⟩
  have HBw3 := hid (Below.on HBw2.out bw3)
  have hsw3 := HBw3.out.size
  have Kxw3 := hid (Kxw2.out.below bw3)
  clear bw3
  go_wp2_with (first
     | (
        refine wpList_store_blk rfl 23 _ _ rfl (w3.heap.size) (byteCells 32 []) rfl rfl _ 23 (Blk.new rfl (byteCells 32 []) _) 32 size_digest zsize zsize (by decide +kernel) ?_
        intro w4 hbw4 hkw4
        have hw4 := hbw4.below ((Below.refl w3.heap.size w3).alloc (Nat.le_refl _) _) (by simp only [World.size_alloc]; omega) (Nat.le_refl _)
        have HBw4 := hid (Below.on HBw3.out hw4)
        have hsw4 := HBw4.out.size
        have Kxw4 := hid (Kxw3.out.below hw4)
        have hlxw4 := Kxw3.out.lt
        have Kyw4 := hid hkw4
        have hfw4 : w.heap.size ≤ w3.heap.size := HBw3.out.size
        clear hbw4 hkw4 hw4)
     | (refine wpList_load_blk_if (by first | rfl | go_simp) 23 _ rfl (w1.heap.size) rfl _ 23 Kxw4.out _ Tryd.underlying23 rfl 32 size_digest HX.out.size ?_))
  refine (CA.out _ (Htab.out.below HBw4.out)).mono ?_
  rintro e w5 ⟨rfl, bw5⟩
  have HBw5 := hid (Below.on HBw4.out bw5)
  have hsw5 := HBw5.out.size
  have Kxw5 := hid (Kxw4.out.below bw5)
  have Kyw5 := hid (Kyw4.out.below bw5)
  clear bw5
  go_wp2_with fail
  go_returns
  exact ⟨by first | rfl | simp, HBw5.out⟩
end Go.Proofs.YthaicocfbmpnmaaDoor

namespace Go.Proofs.YthaicocfbmpnmaaDoor
open Go.ChangeShapes Go.WideShapes Go.ChangeAt Go.RowKit

theorem wpList_build_at {P : Program} {ops : Array Oper} {rest : List Oper} {op : Oper} {a : Act} {w : World} {Q : Exit → Act → World → Prop} (hgd : op.guard = none) (T : TypeId) (x y : Operand) (ho : op.op = .build T #[(0, x), (1, y)]) (u v r : Value) (hx : a.eval x = u) (hy : a.eval y = v) (hr : ∀ w', (Instr.build T #[(0, u), (1, v)]).run P w' = .ok r w') (h : wpList P ops Q rest (a.put op.dst r) w) : wpList P ops Q (op :: rest) a w :=
  wpList_plain hgd fun K hK => by
    unfold Oper.wp execOp
    simp only [ho, List.map_toArray, List.map_cons, List.map_nil, hx, hy, Sem.run_bind, hr w, Result.andThen_ok, Sem.run_pure, Oper.upon_value]
    exact hK _ _ h

set_option maxHeartbeats 4000000 in
set_option maxRecDepth 100000 in
theorem climbs_big (x i o d : List Int) (ad : Option Addr) (len cap : Nat) (w : World) (hd : Dg d) (tab : ShaTab w) (h3 : 300 < len) :
    Calls Tryd.prog 7 #[.agg (x.map (Value.int .u8)).toArray, .agg (i.map (Value.int .u8)).toArray, .agg (o.map (Value.int .u8)).toArray, .agg (prC d (.slice ad len cap)).toArray] w fun e w' => e = .returned (.bool true) ∧ Below w.heap.size w w' := by
  have b1 := (Below.refl w.heap.size w).alloc (Nat.le_refl _) (.cells (x.map (Value.int .u8)).toArray 23 (0, 0))
  have b2 := b1.alloc b1.size (.cells (i.map (Value.int .u8)).toArray 23 (0, 0))
  have b3 := b2.alloc b2.size (.cells (o.map (Value.int .u8)).toArray 23 (0, 0))
  have b4 := b3.alloc b3.size (.cells (prC d (.slice ad len cap)).toArray 46 (0, 0))
  have Kx := hid ((((Blk.new (w := w) (n := w.heap.size) rfl (x.map (Value.int .u8)).toArray 23).old (.cells (i.map (Value.int .u8)).toArray 23 (0, 0))).old (.cells (o.map (Value.int .u8)).toArray 23 (0, 0))).old (.cells (prC d (.slice ad len cap)).toArray 46 (0, 0)))
  have Ki := hid (((Blk.new (w := (w.alloc (.cells (x.map (Value.int .u8)).toArray 23 (0, 0)))) (n := w.heap.size + 1) (by simp only [World.size_alloc]) (i.map (Value.int .u8)).toArray 23).old (.cells (o.map (Value.int .u8)).toArray 23 (0, 0))).old (.cells (prC d (.slice ad len cap)).toArray 46 (0, 0)))
  have Ko := hid ((Blk.new (w := ((w.alloc (.cells (x.map (Value.int .u8)).toArray 23 (0, 0))).alloc (.cells (i.map (Value.int .u8)).toArray 23 (0, 0)))) (n := w.heap.size + 1 + 1) (by simp only [World.size_alloc]) (o.map (Value.int .u8)).toArray 23).old (.cells (prC d (.slice ad len cap)).toArray 46 (0, 0)))
  have Kp := hid (Blk.new (w := (((w.alloc (.cells (x.map (Value.int .u8)).toArray 23 (0, 0))).alloc (.cells (i.map (Value.int .u8)).toArray 23 (0, 0))).alloc (.cells (o.map (Value.int .u8)).toArray 23 (0, 0)))) (n := w.heap.size + 1 + 1 + 1) (by simp only [World.size_alloc]) (prC d (.slice ad len cap)).toArray 46)
  have Hb := hid b4
  have hbz := b4.size
  have Hbs := hid (show w.heap.size + 1 + 1 + 1 + 1 = ((((w.alloc (.cells (x.map (Value.int .u8)).toArray 23 (0, 0))).alloc (.cells (i.map (Value.int .u8)).toArray 23 (0, 0))).alloc (.cells (o.map (Value.int .u8)).toArray 23 (0, 0))).alloc (.cells (prC d (.slice ad len cap)).toArray 46 (0, 0))).heap.size by simp only [World.size_alloc])
  have Htab := hid tab
  clear b1 b2 b3 b4 tab 
  go_enter Tryd.func7, Tryd.ntmps7
  have cp0 : ((((w.alloc (.cells (x.map (Value.int .u8)).toArray 23 (0, 0))).alloc (.cells (i.map (Value.int .u8)).toArray 23 (0, 0))).alloc (.cells (o.map (Value.int .u8)).toArray 23 (0, 0))).alloc (.cells (prC d (.slice ad len cap)).toArray 46 (0, 0))).cell? ⟨w.heap.size + 1 + 1 + 1, 32, none⟩ = some (.slice ad len cap) := prC_nodes hd Kp.out
  have hc : (300 : Int) < (len : Int) := by omega
  go_wp2_with fail
  refine (knows18 _ (Htab.out.below Hb.out)).mono ?_
  rintro e w1 ⟨rfl, bw1⟩
  have HBw1 := hid (Below.on Hb.out bw1)
  have hsw1 := HBw1.out.size
  have Kxw1 := hid (Kx.out.below bw1)
  have Kiw1 := hid (Ki.out.below bw1)
  have Kow1 := hid (Ko.out.below bw1)
  have Kpw1 := hid (Kp.out.below bw1)
  clear bw1
  go_wp2_with fail
  go_returns
  exact ⟨by first | rfl | simp, HBw1.out⟩

set_option maxHeartbeats 4000000 in
set_option maxRecDepth 100000 in
theorem climbs_bad (x i o d : List Int) (ad : Option Addr) (len cap : Nat) (ns : List (List Int)) (w : World) (hx : Dg x) (hi : Dg i) (ho : Dg o) (hd : Dg d) (hns : DigsAt w ad len cap ns) (tab : ShaTab w) (h3 : ¬ 300 < len) (hn : ¬ knN d 256 = len) :
    Calls Tryd.prog 7 #[.agg (x.map (Value.int .u8)).toArray, .agg (i.map (Value.int .u8)).toArray, .agg (o.map (Value.int .u8)).toArray, .agg (prC d (.slice ad len cap)).toArray] w fun e w' => e = .returned (.bool true) ∧ Below w.heap.size w w' := by
  have q0 : ∀ W : World, (binOp .eql 23 (.agg (byteCells 32 [])) (.agg #[.int .u8 0, .int .u8 0, .int .u8 0, .int .u8 0, .int .u8 0, .int .u8 0, .int .u8 0, .int .u8 0, .int .u8 0, .int .u8 0, .int .u8 0, .int .u8 0, .int .u8 0, .int .u8 0, .int .u8 0, .int .u8 0, .int .u8 0, .int .u8 0, .int .u8 0, .int .u8 0, .int .u8 0, .int .u8 0, .int .u8 0, .int .u8 0, .int .u8 0, .int .u8 0, .int .u8 0, .int .u8 0, .int .u8 0, .int .u8 0, .int .u8 0, .int .u8 0])).run Tryd.prog W = .ok (.bool true) W := fun W => eqD_self zD Dg.zero.len W
  have CC := hid (fun W : World => climb_bad x i d ad len cap W hd hn)
  have CW := hid (fun W : World => refwhole_any d ad len cap W hd)
  rw [decide_eq_false hn] at CW
  have CP := hid (fun (W : World) (h : DigsAt W ad len cap ns) (t : ShaTab W) => present_any o i x d ad len cap ns false W ho hi hx hd h t (fun W2 h2 t2 => leads_no (leafE i x) o i d zD ad len cap ns W2 (Dg.leafE i x) hi hd Dg.zero h2 t2 (fun W3 _ _ => climb_bad (leafE i x) i d ad len cap W3 hd hn)))
  have CA := hid (fun (W : World) (h : DigsAt W ad len cap ns) (t : ShaTab W) => absent_any o i d ad len cap ns false W ho hi hd h t (fun W2 h2 t2 => leads_no (emptyL 0) o i d zD ad len cap ns W2 (Dg.emptyL 0) hi hd Dg.zero h2 t2 (fun W3 _ _ => climb_bad (emptyL 0) i d ad len cap W3 hd hn)))
  have b1 := (Below.refl w.heap.size w).alloc (Nat.le_refl _) (.cells (x.map (Value.int .u8)).toArray 23 (0, 0))
  have b2 := b1.alloc b1.size (.cells (i.map (Value.int .u8)).toArray 23 (0, 0))
  have b3 := b2.alloc b2.size (.cells (o.map (Value.int .u8)).toArray 23 (0, 0))
  have b4 := b3.alloc b3.size (.cells (prC d (.slice ad len cap)).toArray 46 (0, 0))
  have Kx := hid ((((Blk.new (w := w) (n := w.heap.size) rfl (x.map (Value.int .u8)).toArray 23).old (.cells (i.map (Value.int .u8)).toArray 23 (0, 0))).old (.cells (o.map (Value.int .u8)).toArray 23 (0, 0))).old (.cells (prC d (.slice ad len cap)).toArray 46 (0, 0)))
  have Ki := hid (((Blk.new (w := (w.alloc (.cells (x.map (Value.int .u8)).toArray 23 (0, 0)))) (n := w.heap.size + 1) (by simp only [World.size_alloc]) (i.map (Value.int .u8)).toArray 23).old (.cells (o.map (Value.int .u8)).toArray 23 (0, 0))).old (.cells (prC d (.slice ad len cap)).toArray 46 (0, 0)))
  have Ko := hid ((Blk.new (w := ((w.alloc (.cells (x.map (Value.int .u8)).toArray 23 (0, 0))).alloc (.cells (i.map (Value.int .u8)).toArray 23 (0, 0)))) (n := w.heap.size + 1 + 1) (by simp only [World.size_alloc]) (o.map (Value.int .u8)).toArray 23).old (.cells (prC d (.slice ad len cap)).toArray 46 (0, 0)))
  have Kp := hid (Blk.new (w := (((w.alloc (.cells (x.map (Value.int .u8)).toArray 23 (0, 0))).alloc (.cells (i.map (Value.int .u8)).toArray 23 (0, 0))).alloc (.cells (o.map (Value.int .u8)).toArray 23 (0, 0)))) (n := w.heap.size + 1 + 1 + 1) (by simp only [World.size_alloc]) (prC d (.slice ad len cap)).toArray 46)
  have Hb := hid b4
  have hbz := b4.size
  have Hbs := hid (show w.heap.size + 1 + 1 + 1 + 1 = ((((w.alloc (.cells (x.map (Value.int .u8)).toArray 23 (0, 0))).alloc (.cells (i.map (Value.int .u8)).toArray 23 (0, 0))).alloc (.cells (o.map (Value.int .u8)).toArray 23 (0, 0))).alloc (.cells (prC d (.slice ad len cap)).toArray 46 (0, 0))).heap.size by simp only [World.size_alloc])
  have Htab := hid tab
  clear b1 b2 b3 b4 tab 
  go_enter Tryd.func7, Tryd.ntmps7
  have HNS := hid hns
  clear hns
  have cp0 : ((((w.alloc (.cells (x.map (Value.int .u8)).toArray 23 (0, 0))).alloc (.cells (i.map (Value.int .u8)).toArray 23 (0, 0))).alloc (.cells (o.map (Value.int .u8)).toArray 23 (0, 0))).alloc (.cells (prC d (.slice ad len cap)).toArray 46 (0, 0))).cell? ⟨w.heap.size + 1 + 1 + 1, 32, none⟩ = some (.slice ad len cap) := prC_nodes hd Kp.out
  have hc : ¬ (300 : Int) < (len : Int) := by omega
  go_wp2_with (first
     | (refine wpList_load_blk rfl 23 _ rfl (w.heap.size) rfl _ 23 Kx.out _ Tryd.underlying23 rfl 32 size_digest hx.size ?_)
     | (refine wpList_load_blk rfl 23 _ rfl (w.heap.size + 1) rfl _ 23 Ki.out _ Tryd.underlying23 rfl 32 size_digest hi.size ?_)
     | (refine wpList_load_blk rfl 46 _ rfl (w.heap.size + 1 + 1 + 1) rfl _ 46 Kp.out _ Tryd.underlying46 rfl 33 size_proof (prC_size hd _) ?_))
  refine (CC.out _).mono ?_
  rintro e w1 ⟨rfl, bw1⟩
  have HBw1 := hid (Below.on Hb.out bw1)
  have hsw1 := HBw1.out.size
  have Kxw1 := hid (Kx.out.below bw1)
  have Kiw1 := hid (Ki.out.below bw1)
  have Kow1 := hid (Ko.out.below bw1)
  have Kpw1 := hid (Kp.out.below bw1)
  clear bw1
  clear cp0
  go_wp2_with (first
     | (
        refine wpList_store_blk rfl 23 _ _ rfl (w1.heap.size) (byteCells 32 []) rfl rfl _ 23 (Blk.new rfl (byteCells 32 []) _) 32 size_digest zsize zsize (by decide +kernel) ?_
        intro w2 hbw2 hkw2
        have hw2 := hbw2.below ((Below.refl w1.heap.size w1).alloc (Nat.le_refl _) _) (by simp only [World.size_alloc]; omega) (Nat.le_refl _)
        have HBw2 := hid (Below.on HBw1.out hw2)
        have hsw2 := HBw2.out.size
        have Kxw2 := hid (Kxw1.out.below hw2)
        have hlxw2 := Kxw1.out.lt
        have Kiw2 := hid (Kiw1.out.below hw2)
        have hliw2 := Kiw1.out.lt
        have Kow2 := hid (Kow1.out.below hw2)
        have hlow2 := Kow1.out.lt
        have Kpw2 := hid (Kpw1.out.below hw2)
        have hlpw2 := Kpw1.out.lt
        have Kyw2 := hid hkw2
        have hfw2 : w.heap.size ≤ w1.heap.size := HBw1.out.size
        clear hbw2 hkw2 hw2
        have cp1 : w2.cell? ⟨w.heap.size + 1 + 1 + 1, 32, none⟩ = some (.slice ad len cap) := prC_nodes hd Kpw2.out)
     | (refine wpList_load_mid rfl 23 _ rfl (w.heap.size + 1 + 1 + 1) 0 rfl _ _ (prC_known Kpw2.out) Tryd.underlying23 rfl (by rw [List.length_map, hd.len]; exact size_digest) ?_))
  refine (CW.out _).mono ?_
  rintro e w3 ⟨rfl, bw3⟩
  have HBw3 := hid (Below.on HBw2.out bw3)
  have hsw3 := HBw3.out.size
  have Kxw3 := hid (Kxw2.out.below bw3)
  have Kiw3 := hid (Kiw2.out.below bw3)
  have Kow3 := hid (Kow2.out.below bw3)
  have Kpw3 := hid (Kpw2.out.below bw3)
  have Kyw3 := hid (Kyw2.out.below bw3)
  clear bw3
  clear cp1
  go_wp2_with (first
     | (refine wpList_load_blk rfl 23 _ rfl (w1.heap.size) rfl _ 23 Kyw3.out _ Tryd.underlying23 rfl 32 size_digest zsize ?_)
     | (refine wpList_load_blk_if (by first | rfl | go_simp) 23 _ rfl (w.heap.size + 1 + 1) rfl _ 23 Kow3.out _ Tryd.underlying23 rfl 32 size_digest ho.size ?_)
     | (refine wpList_load_blk_if (by first | rfl | go_simp) 23 _ rfl (w.heap.size + 1) rfl _ 23 Kiw3.out _ Tryd.underlying23 rfl 32 size_digest hi.size ?_)
     | (refine wpList_load_blk_if (by first | rfl | go_simp) 23 _ rfl (w.heap.size) rfl _ 23 Kxw3.out _ Tryd.underlying23 rfl 32 size_digest hx.size ?_)
     | (refine wpList_load_blk_if (by first | rfl | go_simp) 46 _ rfl (w.heap.size + 1 + 1 + 1) rfl _ 46 Kpw3.out _ Tryd.underlying46 rfl 33 size_proof (prC_size hd _) ?_))
  refine (CP.out _ (HNS.out.below HBw3.out) (Htab.out.below HBw3.out)).mono ?_
  rintro e w4 ⟨rfl, bw4⟩
  have HBw4 := hid (Below.on HBw3.out bw4)
  have hsw4 := HBw4.out.size
  have Kxw4 := hid (Kxw3.out.below bw4)
  have Kiw4 := hid (Kiw3.out.below bw4)
  have Kow4 := hid (Kow3.out.below bw4)
  have Kpw4 := hid (Kpw3.out.below bw4)
  have Kyw4 := hid (Kyw3.out.below bw4)
  clear bw4
  go_wp2_with (first
     | (refine wpList_load_blk_if (by first | rfl | go_simp) 23 _ rfl (w.heap.size + 1 + 1) rfl _ 23 Kow4.out _ Tryd.underlying23 rfl 32 size_digest ho.size ?_)
     | (refine wpList_load_blk_if (by first | rfl | go_simp) 23 _ rfl (w.heap.size + 1) rfl _ 23 Kiw4.out _ Tryd.underlying23 rfl 32 size_digest hi.size ?_)
     | (refine wpList_load_blk_if (by first | rfl | go_simp) 46 _ rfl (w.heap.size + 1 + 1 + 1) rfl _ 46 Kpw4.out _ Tryd.underlying46 rfl 33 size_proof (prC_size hd _) ?_))
  refine (CA.out _ (HNS.out.below HBw4.out) (Htab.out.below HBw4.out)).mono ?_
  rintro e w5 ⟨rfl, bw5⟩
  have HBw5 := hid (Below.on HBw4.out bw5)
  have hsw5 := HBw5.out.size
  have Kxw5 := hid (Kxw4.out.below bw5)
  have Kiw5 := hid (Kiw4.out.below bw5)
  have Kow5 := hid (Kow4.out.below bw5)
  have Kpw5 := hid (Kpw4.out.below bw5)
  have Kyw5 := hid (Kyw4.out.below bw5)
  clear bw5
  go_wp2_with fail
  refine (knows18 _ (Htab.out.below HBw5.out)).mono ?_
  rintro e w6 ⟨rfl, bw6⟩
  have HBw6 := hid (Below.on HBw5.out bw6)
  have hsw6 := HBw6.out.size
  have Kxw6 := hid (Kxw5.out.below bw6)
  have Kiw6 := hid (Kiw5.out.below bw6)
  have Kow6 := hid (Kow5.out.below bw6)
  have Kpw6 := hid (Kpw5.out.below bw6)
  have Kyw6 := hid (Kyw5.out.below bw6)
  clear bw6
  go_wp2_with fail
  go_returns
  exact ⟨by first | rfl | simp, HBw6.out⟩

set_option maxHeartbeats 4000000 in
set_option maxRecDepth 100000 in
theorem climbs_good (x i o d : List Int) (ad : Option Addr) (len cap : Nat) (ns : List (List Int)) (w : World) (hx : Dg x) (hi : Dg i) (ho : Dg o) (hd : Dg d) (hns : DigsAt w ad len cap ns) (tab : ShaTab w) (h3 : ¬ 300 < len) (hn : knN d 256 = len) :
    Calls Tryd.prog 7 #[.agg (x.map (Value.int .u8)).toArray, .agg (i.map (Value.int .u8)).toArray, .agg (o.map (Value.int .u8)).toArray, .agg (prC d (.slice ad len cap)).toArray] w fun e w' => e = .returned (.bool true) ∧ Below w.heap.size w w' := by
  have hl := Dg.leafE i x
  have h0 := Dg.emptyL 0
  have hA := Dg.climbK hl d i ns 256
  have hB := Dg.climbK h0 d i ns 256
  have hC := Dg.climbK hx d i ns 256
  have CC := hid (fun (W : World) (h : DigsAt W ad len cap ns) (t : ShaTab W) => climb_good x i d ad len cap ns W hx hi hd hn h t)
  have CX := hid (fun (W : World) (h : DigsAt W ad len cap ns) => refclimb_any x i d ad len cap ns W hx hi hd hn h)
  have CY := hid (fun (W : World) (h : DigsAt W ad len cap ns) => refclimb_any (leafE i x) i d ad len cap ns W hl hi hd hn h)
  have CZ := hid (fun (W : World) (h : DigsAt W ad len cap ns) => refclimb_any (emptyL 0) i d ad len cap ns W h0 hi hd hn h)
  have CW := hid (fun W : World => refwhole_any d ad len cap W hd)
  rw [decide_eq_true hn] at CW
  have CL := hid (fun W : World => refleafE_any i x W hi hx)
  have CP := hid (fun (o : List Int) (ho : Dg o) (W : World) (h : DigsAt W ad len cap ns) (t : ShaTab W) => present_any o i x d ad len cap ns (decide (climbK d i ns (leafE i x) 256 = o)) W ho hi hx hd h t (fun W2 h2 t2 => leads_ok (leafE i x) o i d (climbK d i ns (leafE i x) 256) ad len cap ns W2 hl ho hi hd hA h2 t2 (fun W3 h3 t3 => climb_good (leafE i x) i d ad len cap ns W3 hl hi hd hn h3 t3)))
  have CA := hid (fun (o : List Int) (ho : Dg o) (W : World) (h : DigsAt W ad len cap ns) (t : ShaTab W) => absent_any o i d ad len cap ns (decide (climbK d i ns (emptyL 0) 256 = o)) W ho hi hd h t (fun W2 h2 t2 => leads_ok (emptyL 0) o i d (climbK d i ns (emptyL 0) 256) ad len cap ns W2 h0 ho hi hd hB h2 t2 (fun W3 h3 t3 => climb_good (emptyL 0) i d ad len cap ns W3 h0 hi hd hn h3 t3)))
  have CRE := hid (fun (W : World) => refempty_any W)
  have Hds := hid (empN_each 257)
  have Hlen := hid (empN_length 257)
  have Hget := hid (empN_get (n := 257) (k := 0) (by omega))
  generalize climbK d i ns (leafE i x) 256 = A at *
  generalize climbK d i ns (emptyL 0) 256 = B at *
  generalize climbK d i ns x 256 = C at *
  generalize leafE i x = Lf at *
  generalize emptyL 0 = E at *
  generalize empN 257 = ds at *
  have HL := hid hl
  have HE := hid h0
  have HA := hid hA
  have HB := hid hB
  have HC := hid hC
  have CPo := hid (CP.out o ho)
  have CPa := hid (CP.out A hA)
  have CAo := hid (CA.out o ho)
  have CAb := hid (CA.out B hB)
  rw [decide_eq_true rfl] at CPa CAb
  have qA := hid (fun W => eqD A o hA.len ho.len W)
  have qB := hid (fun W => eqD B o hB.len ho.len W)
  have qC := hid (fun W => eqD_self C hC.len W)
  generalize decide (A = o) = u at *
  generalize decide (B = o) = v at *
  have HBE := hid (fun W => build_ent hi hx W)
  clear hl h0 hA hB hC CP CA
  have b1 := (Below.refl w.heap.size w).alloc (Nat.le_refl _) (.cells (x.map (Value.int .u8)).toArray 23 (0, 0))
  have b2 := b1.alloc b1.size (.cells (i.map (Value.int .u8)).toArray 23 (0, 0))
  have b3 := b2.alloc b2.size (.cells (o.map (Value.int .u8)).toArray 23 (0, 0))
  have b4 := b3.alloc b3.size (.cells (prC d (.slice ad len cap)).toArray 46 (0, 0))
  have Kx := hid ((((Blk.new (w := w) (n := w.heap.size) rfl (x.map (Value.int .u8)).toArray 23).old (.cells (i.map (Value.int .u8)).toArray 23 (0, 0))).old (.cells (o.map (Value.int .u8)).toArray 23 (0, 0))).old (.cells (prC d (.slice ad len cap)).toArray 46 (0, 0)))
  have Ki := hid (((Blk.new (w := (w.alloc (.cells (x.map (Value.int .u8)).toArray 23 (0, 0)))) (n := w.heap.size + 1) (by simp only [World.size_alloc]) (i.map (Value.int .u8)).toArray 23).old (.cells (o.map (Value.int .u8)).toArray 23 (0, 0))).old (.cells (prC d (.slice ad len cap)).toArray 46 (0, 0)))
  have Ko := hid ((Blk.new (w := ((w.alloc (.cells (x.map (Value.int .u8)).toArray 23 (0, 0))).alloc (.cells (i.map (Value.int .u8)).toArray 23 (0, 0)))) (n := w.heap.size + 1 + 1) (by simp only [World.size_alloc]) (o.map (Value.int .u8)).toArray 23).old (.cells (prC d (.slice ad len cap)).toArray 46 (0, 0)))
  have Kp := hid (Blk.new (w := (((w.alloc (.cells (x.map (Value.int .u8)).toArray 23 (0, 0))).alloc (.cells (i.map (Value.int .u8)).toArray 23 (0, 0))).alloc (.cells (o.map (Value.int .u8)).toArray 23 (0, 0)))) (n := w.heap.size + 1 + 1 + 1) (by simp only [World.size_alloc]) (prC d (.slice ad len cap)).toArray 46)
  have Hb := hid b4
  have hbz := b4.size
  have Hbs := hid (show w.heap.size + 1 + 1 + 1 + 1 = ((((w.alloc (.cells (x.map (Value.int .u8)).toArray 23 (0, 0))).alloc (.cells (i.map (Value.int .u8)).toArray 23 (0, 0))).alloc (.cells (o.map (Value.int .u8)).toArray 23 (0, 0))).alloc (.cells (prC d (.slice ad len cap)).toArray 46 (0, 0))).heap.size by simp only [World.size_alloc])
  have Htab := hid tab
  clear b1 b2 b3 b4 tab 
  go_enter Tryd.func7, Tryd.ntmps7
  have HNS := hid hns
  clear hns
  have cp0 : ((((w.alloc (.cells (x.map (Value.int .u8)).toArray 23 (0, 0))).alloc (.cells (i.map (Value.int .u8)).toArray 23 (0, 0))).alloc (.cells (o.map (Value.int .u8)).toArray 23 (0, 0))).alloc (.cells (prC d (.slice ad len cap)).toArray 46 (0, 0))).cell? ⟨w.heap.size + 1 + 1 + 1, 32, none⟩ = some (.slice ad len cap) := prC_nodes hd Kp.out
  have hc : ¬ (300 : Int) < (len : Int) := by omega
  go_wp2_with (first
     | (refine wpList_load_blk rfl 23 _ rfl (w.heap.size) rfl _ 23 Kx.out _ Tryd.underlying23 rfl 32 size_digest hx.size ?_)
     | (refine wpList_load_blk rfl 23 _ rfl (w.heap.size + 1) rfl _ 23 Ki.out _ Tryd.underlying23 rfl 32 size_digest hi.size ?_)
     | (refine wpList_load_blk rfl 46 _ rfl (w.heap.size + 1 + 1 + 1) rfl _ 46 Kp.out _ Tryd.underlying46 rfl 33 size_proof (prC_size hd _) ?_))
  refine (CC.out _ (HNS.out.below Hb.out) (Htab.out.below Hb.out)).mono ?_
  rintro e w1 ⟨rfl, bw1⟩
  have HBw1 := hid (Below.on Hb.out bw1)
  have hsw1 := HBw1.out.size
  have Kxw1 := hid (Kx.out.below bw1)
  have Kiw1 := hid (Ki.out.below bw1)
  have Kow1 := hid (Ko.out.below bw1)
  have Kpw1 := hid (Kp.out.below bw1)
  clear bw1
  clear cp0
  go_wp2_with (first
     | (
        refine wpList_store_blk rfl 23 _ _ rfl (w1.heap.size) (C.map (Value.int .u8)).toArray rfl rfl _ 23 (Blk.new rfl (byteCells 32 []) _) 32 size_digest zsize HC.out.size (ints_one _ _) ?_
        intro w2 hbw2 hkw2
        have hw2 := hbw2.below ((Below.refl w1.heap.size w1).alloc (Nat.le_refl _) _) (by simp only [World.size_alloc]; omega) (Nat.le_refl _)
        have HBw2 := hid (Below.on HBw1.out hw2)
        have hsw2 := HBw2.out.size
        have Kxw2 := hid (Kxw1.out.below hw2)
        have hlxw2 := Kxw1.out.lt
        have Kiw2 := hid (Kiw1.out.below hw2)
        have hliw2 := Kiw1.out.lt
        have Kow2 := hid (Kow1.out.below hw2)
        have hlow2 := Kow1.out.lt
        have Kpw2 := hid (Kpw1.out.below hw2)
        have hlpw2 := Kpw1.out.lt
        have Kyw2 := hid hkw2
        have hfw2 : w.heap.size ≤ w1.heap.size := HBw1.out.size
        clear hbw2 hkw2 hw2
        have cp1 : w2.cell? ⟨w.heap.size + 1 + 1 + 1, 32, none⟩ = some (.slice ad len cap) := prC_nodes hd Kpw2.out)
     | (refine wpList_load_mid rfl 23 _ rfl (w.heap.size + 1 + 1 + 1) 0 rfl _ _ (prC_known Kpw2.out) Tryd.underlying23 rfl (by rw [List.length_map, hd.len]; exact size_digest) ?_))
  refine (CW.out _).mono ?_
  rintro e w3 ⟨rfl, bw3⟩
  have HBw3 := hid (Below.on HBw2.out bw3)
  have hsw3 := HBw3.out.size
  have Kxw3 := hid (Kxw2.out.below bw3)
  have Kiw3 := hid (Kiw2.out.below bw3)
  have Kow3 := hid (Kow2.out.below bw3)
  have Kpw3 := hid (Kpw2.out.below bw3)
  have Kyw3 := hid (Kyw2.out.below bw3)
  clear bw3
  clear cp1
  go_wp2_with (first
     | (refine wpList_load_blk rfl 23 _ rfl (w.heap.size + 1) rfl _ 23 Kiw3.out _ Tryd.underlying23 rfl 32 size_digest hi.size ?_)
     | (refine wpList_load_blk rfl 23 _ rfl (w.heap.size) rfl _ 23 Kxw3.out _ Tryd.underlying23 rfl 32 size_digest hx.size ?_)
     | (refine wpList_build_at rfl 31 _ _ rfl (.agg (i.map (Value.int .u8)).toArray) (.agg (x.map (Value.int .u8)).toArray) (.agg ((entL i x).map (Value.int .u8)).toArray) rfl rfl HBE.out ?_))
  refine (CL.out _).mono ?_
  rintro e w4 ⟨rfl, bw4⟩
  have HBw4 := hid (Below.on HBw3.out bw4)
  have hsw4 := HBw4.out.size
  have Kxw4 := hid (Kxw3.out.below bw4)
  have Kiw4 := hid (Kiw3.out.below bw4)
  have Kow4 := hid (Kow3.out.below bw4)
  have Kpw4 := hid (Kpw3.out.below bw4)
  have Kyw4 := hid (Kyw3.out.below bw4)
  clear bw4
  go_wp2_with (first
     | (
        refine wpList_store_blk rfl 23 _ _ rfl (w4.heap.size) (Lf.map (Value.int .u8)).toArray rfl rfl _ 23 (Blk.new rfl (byteCells 32 []) _) 32 size_digest zsize HL.out.size (ints_one _ _) ?_
        intro w5 hbw5 hkw5
        have hw5 := hbw5.below ((Below.refl w4.heap.size w4).alloc (Nat.le_refl _) _) (by simp only [World.size_alloc]; omega) (Nat.le_refl _)
        have HBw5 := hid (Below.on HBw4.out hw5)
        have hsw5 := HBw5.out.size
        have Kxw5 := hid (Kxw4.out.below hw5)
        have hlxw5 := Kxw4.out.lt
        have Kiw5 := hid (Kiw4.out.below hw5)
        have hliw5 := Kiw4.out.lt
        have Kow5 := hid (Kow4.out.below hw5)
        have hlow5 := Kow4.out.lt
        have Kpw5 := hid (Kpw4.out.below hw5)
        have hlpw5 := Kpw4.out.lt
        have Kyw5 := hid (Kyw4.out.below hw5)
        have hlyw5 := Kyw4.out.lt
        have Klw5 := hid hkw5
        have hfw5 : w.heap.size ≤ w4.heap.size := HBw4.out.size
        clear hbw5 hkw5 hw5
        have cp2 : w5.cell? ⟨w.heap.size + 1 + 1 + 1, 32, none⟩ = some (.slice ad len cap) := prC_nodes hd Kpw5.out)
     | (refine wpList_load_blk rfl 23 _ rfl (w4.heap.size) rfl _ 23 Klw5.out _ Tryd.underlying23 rfl 32 size_digest HL.out.size ?_)
     | (refine wpList_load_blk rfl 23 _ rfl (w.heap.size + 1) rfl _ 23 Kiw5.out _ Tryd.underlying23 rfl 32 size_digest hi.size ?_)
     | (refine wpList_load_mid rfl 23 _ rfl (w.heap.size + 1 + 1 + 1) 0 rfl _ _ (prC_known Kpw5.out) Tryd.underlying23 rfl (by rw [List.length_map, hd.len]; exact size_digest) ?_))
  refine (CY.out _ (HNS.out.below HBw5.out)).mono ?_
  rintro e w6 ⟨rfl, bw6⟩
  have HBw6 := hid (Below.on HBw5.out bw6)
  have hsw6 := HBw6.out.size
  have Kxw6 := hid (Kxw5.out.below bw6)
  have Kiw6 := hid (Kiw5.out.below bw6)
  have Kow6 := hid (Kow5.out.below bw6)
  have Kpw6 := hid (Kpw5.out.below bw6)
  have Kyw6 := hid (Kyw5.out.below bw6)
  have Klw6 := hid (Klw5.out.below bw6)
  clear bw6
  clear cp2
  go_wp2_with (
        refine wpList_store_blk rfl 23 _ _ rfl (w6.heap.size) (A.map (Value.int .u8)).toArray rfl rfl _ 23 (Blk.new rfl (byteCells 32 []) _) 32 size_digest zsize HA.out.size (ints_one _ _) ?_
        intro w7 hbw7 hkw7
        have hw7 := hbw7.below ((Below.refl w6.heap.size w6).alloc (Nat.le_refl _) _) (by simp only [World.size_alloc]; omega) (Nat.le_refl _)
        have HBw7 := hid (Below.on HBw6.out hw7)
        have hsw7 := HBw7.out.size
        have Kxw7 := hid (Kxw6.out.below hw7)
        have hlxw7 := Kxw6.out.lt
        have Kiw7 := hid (Kiw6.out.below hw7)
        have hliw7 := Kiw6.out.lt
        have Kow7 := hid (Kow6.out.below hw7)
        have hlow7 := Kow6.out.lt
        have Kpw7 := hid (Kpw6.out.below hw7)
        have hlpw7 := Kpw6.out.lt
        have Kyw7 := hid (Kyw6.out.below hw7)
        have hlyw7 := Kyw6.out.lt
        have Klw7 := hid (Klw6.out.below hw7)
        have hllw7 := Klw6.out.lt
        have Kaw7 := hid hkw7
        have hfw7 : w.heap.size ≤ w6.heap.size := HBw6.out.size
        clear hbw7 hkw7 hw7)
  simp only [Act.put]
  refine wp_region_flow 10 [3, 4, 5, 6, 7] [9] [(.c 0, [1, 2, 8], []), (.b 9, [], [])] (by kernel_rfl) (by kernel_rfl) ?_
  apply Exists.intro
  refine ⟨fun w0 hb0 hF0 => ?_, ?_⟩
  · skip
    have xi : ∀ w', (∃ x : Ext w0, w' = x.at_) → ∃ T, Blk w' (w.heap.size + 1) (i.map (Value.int .u8)).toArray T := fun w' ⟨x, hx⟩ => ⟨_, hx ▸ (Kiw7.out.below hb0).below x.same⟩
    have xk : ∀ w', (∃ x : Ext w0, w' = x.at_) → w'.rangeAt (w.heap.size + 1 + 1 + 1) 0 (d.map (Value.int .u8)) := fun w' ⟨x, hx⟩ => hx ▸ prC_known ((Kpw7.out.below hb0).below x.same)
    have xn : ∀ w', (∃ x : Ext w0, w' = x.at_) → w'.cell? ⟨w.heap.size + 1 + 1 + 1, 32, none⟩ = some (.slice ad len cap) := fun w' ⟨x, hx⟩ => hx ▸ prC_nodes hd ((Kpw7.out.below hb0).below x.same)
    simp only [pick, List.getElem?_toArray, List.getElem?_cons_succ, List.getElem?_cons_zero, Option.toList_some, List.cons_append, List.nil_append]
    repeat (first | (go_big_quiet_want; refine quiet_load_blk 23 _ rfl (w.heap.size + 1) rfl _ xi _ Tryd.underlying23 rfl 32 size_digest hi.size ?_; go_big_quiet_on; simp only [Act.put, List.setIfInBounds_toArray, List.set_cons_zero, List.set_cons_succ]) | (go_big_quiet_want; refine quiet_load_mid 23 _ rfl (w.heap.size + 1 + 1 + 1) 0 rfl _ xk _ Tryd.underlying23 rfl (by rw [List.length_map, hd.len]; exact size_digest) ?_; go_big_quiet_on; simp only [Act.put, List.setIfInBounds_toArray, List.set_cons_zero, List.set_cons_succ]) | (go_big_quiet_want; refine quiet_load_one 27 _ rfl ⟨w.heap.size + 1 + 1 + 1, 32, none⟩ rfl _ xn _ Tryd.underlying27 rfl ?_; go_big_quiet_on; simp only [Act.put, List.setIfInBounds_toArray, List.set_cons_zero, List.set_cons_succ]) | go_big_quiet_step (fail))
    exact wpQuiet_nil rfl
  refine AlChk.one rfl (fun b => .pointer (some ⟨b, 0, none⟩)) (.cells (byteCells 32 []) 23 (0, 0)) rfl (fun w3 hb3 hF3 => by go_simp; rfl) ?_
  refine AlChk.nil ?_
  refine Walk.call rfl 14 #[] (fun v w' => ∃ a c, v = .slice a 257 c ∧ DigsAt w' a 257 c ds) (fun v w' w'' h k => by obtain ⟨a, c, h1, h2⟩ := h; exact ⟨a, c, h1, h2.below k⟩) rfl (fun q1 hb1 hF1 => ⟨by go_simp, ?_⟩) ?_
  · refine (CRE.out q1).mono ?_
    rintro e q2 ⟨v, rfl, b2, o2⟩
    obtain ⟨a, c', rfl, hd, _⟩ := OwnD.digs o2
    rw [Hlen.out] at hd ⊢
    exact ⟨_, rfl, b2, a, c', rfl, hd⟩
  rintro v0 q1 hb1 hF1 ⟨a2, c2, rfl, hd0⟩
  obtain ⟨g2, o2, rfl, -, -⟩ := hd0.at_ (by omega)
  clear hd0
  apply Exists.intro
  refine ⟨fun w0 hb0 hF0 => ?_, ?_⟩
  · skip
    obtain ⟨_, a3, c3, he3, hd3⟩ := hF0
    cases he3
    have yr : ∀ w', (∃ x : Ext w0, w' = x.at_) → w'.rangeAt g2 (o2 + 0 * 32) (E.map (Value.int .u8)) := fun w' ⟨x, hx⟩ => by
      obtain ⟨g4, o4, h4, -, h5⟩ := (hd3.below x.same).at_ (by omega)
      cases h4
      have h6 := h5 0 (by omega)
      rw [Hget.out] at h6
      rw [hx]
      exact h6
    have c0 := fun e : Ext w0 => CZ.out e.at_ (HNS.out.below (Below.on (Below.on HBw7.out hb0) e.same))
    simp only [pick, List.getElem?_toArray, List.getElem?_cons_succ, List.getElem?_cons_zero, Option.toList_some, List.cons_append, List.nil_append, Act.put, List.setIfInBounds_toArray, List.set_cons_zero, List.set_cons_succ]
    repeat (first | (go_big_quiet_want; refine quiet_index_digs 27 _ _ rfl Tryd.underlying27 size_digest g2 o2 257 c2 rfl _ _ rfl 0 rfl (by omega) ?_; go_big_quiet_on; simp only [Act.put, List.setIfInBounds_toArray, List.set_cons_zero, List.set_cons_succ]) | (go_big_quiet_want; refine quiet_load_mid 23 _ rfl g2 (o2 + 0 * 32) rfl _ yr _ Tryd.underlying23 rfl (by rw [List.length_map, HE.out.len]; exact size_digest) ?_; go_big_quiet_on; simp only [Act.put, List.setIfInBounds_toArray, List.set_cons_zero, List.set_cons_succ]) | go_big_quiet_step (first | (go_at_call 33; with_reducible exact Calls.ext (c0 _))))
    exact wpQuiet_nil rfl
  refine AlChk.nil ?_
  refine Walk.blk rfl (fun b => .pointer (some ⟨b, 0, none⟩)) (.cells (byteCells 32 []) 23 (0, 0)) (by simp) ?_
  intro bw8 wz hbz_ hFz hgew8 _
  apply Exists.intro
  refine ⟨fun w4 hb4 hF4 => wpQuiet_nil rfl, ?_⟩
  refine AlChk.nil ?_
  refine Walk.fin fun w8 hw8 hFw8 _ => ?_
  simp only [List.drop_succ_cons, List.drop_zero]
  have kbw8 : Blk w8 bw8 (byteCells 32 []) 23 := hFw8.2
  have Kzw8 := hid kbw8
  have hgww8 : w.heap.size ≤ bw8 := Nat.le_trans HBw7.out.size hgew8
  clear hbz_ hFz hFw8 kbw8
  have hnxw8 : w.heap.size ≠ bw8 := by have := Kxw7.out.lt; omega
  have hniw8 : w.heap.size + 1 ≠ bw8 := by have := Kiw7.out.lt; omega
  have hnow8 : w.heap.size + 1 + 1 ≠ bw8 := by have := Kow7.out.lt; omega
  have hnpw8 : w.heap.size + 1 + 1 + 1 ≠ bw8 := by have := Kpw7.out.lt; omega
  have hnyw8 : w1.heap.size ≠ bw8 := by have := Kyw7.out.lt; omega
  have hnlw8 : w4.heap.size ≠ bw8 := by have := Klw7.out.lt; omega
  have hnaw8 : w6.heap.size ≠ bw8 := by have := Kaw7.out.lt; omega
  have HBw8 := hid (Below.on HBw7.out hw8)
  have hsw8 := HBw8.out.size
  have Kxw8 := hid (Kxw7.out.below hw8)
  have Kiw8 := hid (Kiw7.out.below hw8)
  have Kow8 := hid (Kow7.out.below hw8)
  have Kpw8 := hid (Kpw7.out.below hw8)
  have Kyw8 := hid (Kyw7.out.below hw8)
  have Klw8 := hid (Klw7.out.below hw8)
  have Kaw8 := hid (Kaw7.out.below hw8)
  clear hw8
  go_wp2_with (
      refine wpList_store_blk rfl 23 _ _ rfl bw8 (B.map (Value.int .u8)).toArray rfl rfl _ 23 Kzw8.out 32 size_digest zsize HB.out.size (ints_one _ _) ?_
      intro w9 hbw9 hkw9
      have HBw9 := hid (hbw9.below HBw8.out HBw8.out.size hgww8)
      have hsw9 := HBw9.out.size
      have Kbw9 := hid hkw9
      have Kxw9 := hid (hbw9.blk Kxw8.out hnxw8)
      have Kiw9 := hid (hbw9.blk Kiw8.out hniw8)
      have Kow9 := hid (hbw9.blk Kow8.out hnow8)
      have Kpw9 := hid (hbw9.blk Kpw8.out hnpw8)
      have Kyw9 := hid (hbw9.blk Kyw8.out hnyw8)
      have Klw9 := hid (hbw9.blk Klw8.out hnlw8)
      have Kaw9 := hid (hbw9.blk Kaw8.out hnaw8)
      clear hbw9 hkw9)
  simp only [Act.put, List.setIfInBounds_toArray, List.set_cons_zero, List.set_cons_succ]
  refine wp_region_flow 33 (List.range 33) [] [] (by kernel_rfl) (by kernel_rfl) ?_
  apply Exists.intro
  refine ⟨fun w0 hb0 hF0 => ?_, ?_⟩
  · skip
    have x0 : ∀ w', (∃ x : Ext w0, w' = x.at_) → ∃ T, Blk w' (w.heap.size + 1 + 1) (o.map (Value.int .u8)).toArray T := fun w' ⟨x, hx⟩ => ⟨_, hx ▸ (Kow9.out.below hb0).below x.same⟩
    have x1 : ∀ w', (∃ x : Ext w0, w' = x.at_) → ∃ T, Blk w' (w.heap.size + 1) (i.map (Value.int .u8)).toArray T := fun w' ⟨x, hx⟩ => ⟨_, hx ▸ (Kiw9.out.below hb0).below x.same⟩
    have x2 : ∀ w', (∃ x : Ext w0, w' = x.at_) → ∃ T, Blk w' (w.heap.size) (x.map (Value.int .u8)).toArray T := fun w' ⟨x, hx⟩ => ⟨_, hx ▸ (Kxw9.out.below hb0).below x.same⟩
    have x3 : ∀ w', (∃ x : Ext w0, w' = x.at_) → ∃ T, Blk w' (w.heap.size + 1 + 1 + 1) (prC d (.slice ad len cap)).toArray T := fun w' ⟨x, hx⟩ => ⟨_, hx ▸ (Kpw9.out.below hb0).below x.same⟩
    have x4 : ∀ w', (∃ x : Ext w0, w' = x.at_) → ∃ T, Blk w' (w6.heap.size) (A.map (Value.int .u8)).toArray T := fun w' ⟨x, hx⟩ => ⟨_, hx ▸ (Kaw9.out.below hb0).below x.same⟩
    have x5 : ∀ w', (∃ x : Ext w0, w' = x.at_) → ∃ T, Blk w' (bw8) (B.map (Value.int .u8)).toArray T := fun w' ⟨x, hx⟩ => ⟨_, hx ▸ (Kbw9.out.below hb0).below x.same⟩
    have c0 := fun e : Ext w0 => CPo.out e.at_ (HNS.out.below (Below.on (Below.on HBw9.out hb0) e.same)) (Htab.out.below (Below.on (Below.on HBw9.out hb0) e.same))
    have c1 := fun e : Ext w0 => CAo.out e.at_ (HNS.out.below (Below.on (Below.on HBw9.out hb0) e.same)) (Htab.out.below (Below.on (Below.on HBw9.out hb0) e.same))
    have c2 := fun e : Ext w0 => CPa.out e.at_ (HNS.out.below (Below.on (Below.on HBw9.out hb0) e.same)) (Htab.out.below (Below.on (Below.on HBw9.out hb0) e.same))
    have c3 := fun e : Ext w0 => CAb.out e.at_ (HNS.out.below (Below.on (Below.on HBw9.out hb0) e.same)) (Htab.out.below (Below.on (Below.on HBw9.out hb0) e.same))
    simp only [pick, List.range, List.range.loop, List.getElem?_toArray, List.getElem?_cons_succ, List.getElem?_cons_zero, Option.toList_some, List.cons_append, List.nil_append]
    repeat (first | (go_big_quiet_want; refine quiet_load_blk 23 _ rfl (w.heap.size + 1 + 1) rfl _ x0 _ Tryd.underlying23 rfl 32 size_digest ho.size ?_; go_big_quiet_on; simp only [Act.put, List.setIfInBounds_toArray, List.set_cons_zero, List.set_cons_succ]) | (go_big_quiet_want; refine quiet_load_blk 23 _ rfl (w.heap.size + 1) rfl _ x1 _ Tryd.underlying23 rfl 32 size_digest hi.size ?_; go_big_quiet_on; simp only [Act.put, List.setIfInBounds_toArray, List.set_cons_zero, List.set_cons_succ]) | (go_big_quiet_want; refine quiet_load_blk 23 _ rfl (w.heap.size) rfl _ x2 _ Tryd.underlying23 rfl 32 size_digest hx.size ?_; go_big_quiet_on; simp only [Act.put, List.setIfInBounds_toArray, List.set_cons_zero, List.set_cons_succ]) | (go_big_quiet_want; refine quiet_load_blk 46 _ rfl (w.heap.size + 1 + 1 + 1) rfl _ x3 _ Tryd.underlying46 rfl 33 size_proof (prC_size hd _) ?_; go_big_quiet_on; simp only [Act.put, List.setIfInBounds_toArray, List.set_cons_zero, List.set_cons_succ]) | (go_big_quiet_want; refine quiet_load_blk 23 _ rfl (w6.heap.size) rfl _ x4 _ Tryd.underlying23 rfl 32 size_digest HA.out.size ?_; go_big_quiet_on; simp only [Act.put, List.setIfInBounds_toArray, List.set_cons_zero, List.set_cons_succ]) | (go_big_quiet_want; refine quiet_load_blk 23 _ rfl (bw8) rfl _ x5 _ Tryd.underlying23 rfl 32 size_digest HB.out.size ?_; go_big_quiet_on; simp only [Act.put, List.setIfInBounds_toArray, List.set_cons_zero, List.set_cons_succ]) | (go_big_quiet_want; refine quiet_cmp _ _ rfl _ _ _ rfl rfl qA.out ?_; go_big_quiet_on; simp only [Act.put, List.setIfInBounds_toArray, List.set_cons_zero, List.set_cons_succ]) | (go_big_quiet_want; refine quiet_cmp _ _ rfl _ _ _ rfl rfl qB.out ?_; go_big_quiet_on; simp only [Act.put, List.setIfInBounds_toArray, List.set_cons_zero, List.set_cons_succ]) | go_big_quiet_step (first | (go_at_call 31; with_reducible exact Calls.ext (c0 _)) | (go_at_call 32; with_reducible exact Calls.ext (c1 _)) | (go_at_call 31; with_reducible exact Calls.ext (c2 _)) | (go_at_call 32; with_reducible exact Calls.ext (c3 _))))
    exact wpQuiet_nil rfl
  refine AlChk.nil ?_
  refine Walk.fin fun w10 hw10 _ _ => ?_
  simp only [List.drop_succ_cons, List.drop_zero]
  have HBw10 := hid (Below.on HBw9.out hw10)
  have hsw10 := HBw10.out.size
  have Kxw10 := hid (Kxw9.out.below hw10)
  have Kiw10 := hid (Kiw9.out.below hw10)
  have Kow10 := hid (Kow9.out.below hw10)
  have Kpw10 := hid (Kpw9.out.below hw10)
  have Kyw10 := hid (Kyw9.out.below hw10)
  have Klw10 := hid (Klw9.out.below hw10)
  have Kaw10 := hid (Kaw9.out.below hw10)
  have Kbw10 := hid (Kbw9.out.below hw10)
  clear hw10
  go_wp2_with fail
  refine wp_region_flow 20 (List.range 20) [] [] (by kernel_rfl) (by kernel_rfl) ?_
  apply Exists.intro
  refine ⟨fun w0 hb0 hF0 => ?_, ?_⟩
  · skip
    have x0 : ∀ w', (∃ x : Ext w0, w' = x.at_) → ∃ T, Blk w' (w1.heap.size) (C.map (Value.int .u8)).toArray T := fun w' ⟨x, hx⟩ => ⟨_, hx ▸ (Kyw10.out.below hb0).below x.same⟩
    have x1 : ∀ w', (∃ x : Ext w0, w' = x.at_) → ∃ T, Blk w' (w.heap.size) (x.map (Value.int .u8)).toArray T := fun w' ⟨x, hx⟩ => ⟨_, hx ▸ (Kxw10.out.below hb0).below x.same⟩
    have x2 : ∀ w', (∃ x : Ext w0, w' = x.at_) → ∃ T, Blk w' (w.heap.size + 1) (i.map (Value.int .u8)).toArray T := fun w' ⟨x, hx⟩ => ⟨_, hx ▸ (Kiw10.out.below hb0).below x.same⟩
    have z0 : ∀ w', (∃ x : Ext w0, w' = x.at_) → w'.rangeAt (w.heap.size + 1 + 1 + 1) 0 (d.map (Value.int .u8)) := fun w' ⟨x, hx⟩ => hx ▸ (prC_known ((Kpw10.out.below hb0).below x.same))
    have c0 := fun e : Ext w0 => CX.out e.at_ (HNS.out.below (Below.on (Below.on HBw10.out hb0) e.same))
    have c1 := fun e : Ext w0 => knows18 e.at_ (Htab.out.below (Below.on (Below.on HBw10.out hb0) e.same))
    have yn : ∀ w', (∃ x : Ext w0, w' = x.at_) → w'.cell? ⟨w.heap.size + 1 + 1 + 1, 32, none⟩ = some (.slice ad len cap) := fun w' ⟨x, hx⟩ => hx ▸ prC_nodes hd ((Kpw10.out.below hb0).below x.same)
    simp only [pick, List.range, List.range.loop, List.getElem?_toArray, List.getElem?_cons_succ, List.getElem?_cons_zero, Option.toList_some, List.cons_append, List.nil_append]
    repeat (first | (go_big_quiet_want; refine quiet_load_blk 23 _ rfl (w1.heap.size) rfl _ x0 _ Tryd.underlying23 rfl 32 size_digest HC.out.size ?_; go_big_quiet_on; simp only [Act.put, List.setIfInBounds_toArray, List.set_cons_zero, List.set_cons_succ]) | (go_big_quiet_want; refine quiet_load_blk 23 _ rfl (w.heap.size) rfl _ x1 _ Tryd.underlying23 rfl 32 size_digest hx.size ?_; go_big_quiet_on; simp only [Act.put, List.setIfInBounds_toArray, List.set_cons_zero, List.set_cons_succ]) | (go_big_quiet_want; refine quiet_load_blk 23 _ rfl (w.heap.size + 1) rfl _ x2 _ Tryd.underlying23 rfl 32 size_digest hi.size ?_; go_big_quiet_on; simp only [Act.put, List.setIfInBounds_toArray, List.set_cons_zero, List.set_cons_succ]) | (go_big_quiet_want; refine quiet_load_mid 23 _ rfl (w.heap.size + 1 + 1 + 1) 0 rfl _ z0 _ Tryd.underlying23 rfl (by rw [List.length_map, hd.len]; exact size_digest) ?_; go_big_quiet_on; simp only [Act.put, List.setIfInBounds_toArray, List.set_cons_zero, List.set_cons_succ]) | (go_big_quiet_want; refine quiet_cmp _ _ rfl _ _ _ rfl rfl qC.out ?_; go_big_quiet_on; simp only [Act.put, List.setIfInBounds_toArray, List.set_cons_zero, List.set_cons_succ]) | (go_big_quiet_want; refine quiet_load_one 27 _ rfl ⟨w.heap.size + 1 + 1 + 1, 32, none⟩ rfl _ yn _ Tryd.underlying27 rfl ?_; go_big_quiet_on; simp only [Act.put, List.setIfInBounds_toArray, List.set_cons_zero, List.set_cons_succ]) | go_big_quiet_step (first | (go_at_call 33; with_reducible exact Calls.ext (c0 _)) | (go_at_call 28; with_reducible exact Calls.ext (c1 _))))
    exact wpQuiet_nil rfl
  refine AlChk.nil ?_
  refine Walk.fin fun w11 hw11 _ _ => ?_
  simp only [List.drop_succ_cons, List.drop_zero]
  have HBw11 := hid (Below.on HBw10.out hw11)
  have hsw11 := HBw11.out.size
  have Kxw11 := hid (Kxw10.out.below hw11)
  have Kiw11 := hid (Kiw10.out.below hw11)
  have Kow11 := hid (Kow10.out.below hw11)
  have Kpw11 := hid (Kpw10.out.below hw11)
  have Kyw11 := hid (Kyw10.out.below hw11)
  have Klw11 := hid (Klw10.out.below hw11)
  have Kaw11 := hid (Kaw10.out.below hw11)
  have Kbw11 := hid (Kbw10.out.below hw11)
  clear hw11
  go_wp2_with fail
  go_returns
  exact ⟨by first | rfl | simp, HBw11.out⟩

theorem proofClimbs_any (x i o d : List Int) (ad : Option Addr) (len cap : Nat) (ns : List (List Int)) (w : World) (hx : Dg x) (hi : Dg i) (ho : Dg o) (hd : Dg d) (hns : DigsAt w ad len cap ns) (tab : ShaTab w) :
    Calls Tryd.prog 7 #[.agg (x.map (Value.int .u8)).toArray, .agg (i.map (Value.int .u8)).toArray, .agg (o.map (Value.int .u8)).toArray, .agg (prC d (.slice ad len cap)).toArray] w fun e w' => e = .returned (.bool true) ∧ Below w.heap.size w w' := by
  by_cases h3 : 300 < len
  · exact climbs_big x i o d ad len cap w hd tab h3
  · by_cases hn : knN d 256 = len
    · exact climbs_good x i o d ad len cap ns w hx hi ho hd hns tab h3 hn
    · exact climbs_bad x i o d ad len cap ns w hx hi ho hd hns tab h3 hn
end Go.Proofs.YthaicocfbmpnmaaDoor
