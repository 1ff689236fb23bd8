/-
  Layer 10: climbing, the program's own way.
-/
import Derived.Test.YtjkfbeillmeomaaDoorClimb
import Derived.Test.YtjkfbeillmeomaaDoorNPair
namespace Go.Proofs.YtjkfbeillmeomaaDoor
open Go.ChangeShapes Go.WideShapes Go.ChangeAt Go.RowKit

theorem tright_b (n i : Int) (b : Bool) (hb : rightZ n i = b) (w : World) : Calls Tryd.prog 87 #[.int .i64 n, .int .i64 i] w fun e w' => e = .returned (.bool b) ∧ Below w.heap.size w w' :=
  (tright_any n i w).mono fun e w' h => by
    obtain ⟨rfl, rfl⟩ := h
    exact ⟨by rw [hb], Below.refl _ _⟩
/-- One step up. -/
def climbS (pub ad : List Int) (i : Int) (lev : Nat) (x s : List Int) : List Int :=
  if i / 2 ^ lev % 2 = 1 then joinZ s x pub (setAd ad lev (i / 2 ^ lev / 2) 0) else joinZ x s pub (setAd ad lev (i / 2 ^ lev / 2) 0)
def climbZ (pub ad : List Int) (i : Int) (way : List (List Int)) (x : List Int) : Nat → List Int
  | 0 => x
  | k + 1 => climbS pub ad i k (climbZ pub ad i way x k) (way.getD k [])
theorem Dg.climb {pub ad : List Int} {i : Int} {way : List (List Int)} {x : List Int} (hx : Dg x) : ∀ k, Dg (climbZ pub ad i way x k)
  | 0 => hx
  | k + 1 => by
    unfold climbZ climbS
    split
    · exact Dg.join _ _ _ _
    · exact Dg.join _ _ _ _

set_option maxHeartbeats 4000000 in
set_option maxRecDepth 100000 in
theorem climb_bad (dx pub : List Int) (na : Option Addr) (n nc : Nat) (i la tr : Int) (w : World) (hr : rightZ n i = false) :
    Calls Tryd.prog 39 #[(.agg (dx.map (Value.int .u8)).toArray), .slice na n nc, .int .i64 i, (.agg (pub.map (Value.int .u8)).toArray), .int .u32 la, .int .u64 tr] w fun e w' => e = .returned (.tuple #[(.agg (zD.map (Value.int .u8)).toArray), .int .i64 1]) ∧ Below w.heap.size w w' := by
  have b1 := (Below.refl w.heap.size w).alloc (Nat.le_refl _) (.cells (dx.map (Value.int .u8)).toArray 23 (0, 0))
  have b2 := b1.alloc b1.size (.cells (pub.map (Value.int .u8)).toArray 23 (0, 0))
  have b3 := b2.alloc b2.size (.cells (byteCells 32 []) 23 (0, 0))
  have Kx := hid (((Blk.new (w := w) (n := w.heap.size) rfl (dx.map (Value.int .u8)).toArray 23).old (.cells (pub.map (Value.int .u8)).toArray 23 (0, 0))).old (.cells (byteCells 32 []) 23 (0, 0)))
  have Kp := hid ((Blk.new (w := (w.alloc (.cells (dx.map (Value.int .u8)).toArray 23 (0, 0)))) (n := w.heap.size + 1) (by simp only [World.size_alloc]) (pub.map (Value.int .u8)).toArray 23).old (.cells (byteCells 32 []) 23 (0, 0)))
  have Kr0 := hid (Blk.new (w := ((w.alloc (.cells (dx.map (Value.int .u8)).toArray 23 (0, 0))).alloc (.cells (pub.map (Value.int .u8)).toArray 23 (0, 0)))) (n := w.heap.size + 1 + 1) (by simp only [World.size_alloc]) (byteCells 32 []) 23)
  have Hb := hid b3
  have HzA := hid zsize
  have hbz := b3.size
  have Hbs := hid (show w.heap.size + 1 + 1 + 1 = (((w.alloc (.cells (dx.map (Value.int .u8)).toArray 23 (0, 0))).alloc (.cells (pub.map (Value.int .u8)).toArray 23 (0, 0))).alloc (.cells (byteCells 32 []) 23 (0, 0))).heap.size by simp only [World.size_alloc])
  clear b1 b2 b3
  go_enter Tryd.func39, Tryd.ntmps39
  go_wp2_with fail
  refine (tright_b (n : Int) i false hr _).mono ?_
  rintro e w1 ⟨rfl, bw1⟩
  have HBw1 := hid (Below.on Hb.out bw1)
  have hsw1 := HBw1.out.size
  have Kxw1 := hid (Kx.out.below bw1)
  have Kpw1 := hid (Kp.out.below bw1)
  have Kr0w1 := hid (Kr0.out.below bw1)
  clear bw1
  go_wp2_with (
      refine wpList_store_blk rfl 23 _ _ rfl (w.heap.size + 1 + 1) (zD.map (Value.int .u8)).toArray rfl rfl _ 23 Kr0w1.out 32 size_digest HzA.out Dg.zero.size (ints_one _ _) ?_
      intro w9 hb9 hk9
      have HB9 := hid (hb9.below HBw1.out HBw1.out.size (by omega))
      have HK9 := hid hk9
      clear hb9 hk9)
  exact bodyPost_ret (v := .tuple #[(.agg (zD.map (Value.int .u8)).toArray), .int .i64 1]) (results_blk_tmp Tryd.results39 _ (w.heap.size + 1 + 1) rfl _ rfl _ 23 HK9.out _ Tryd.underlying23 rfl 32 size_digest Dg.zero.size) rfl ⟨rfl, HB9.out⟩

set_option maxHeartbeats 4000000 in
set_option maxRecDepth 100000 in
theorem climb_good (dx pub : List Int) (na : Option Addr) (n nc : Nat) (way : List (List Int)) (i la tr : Int) (w : World) (hx : Dg dx) (hpub : Dg pub) (hN : DigsAt w na n nc way) (hla : 0 ≤ la ∧ la < 4294967296) (htr : 0 ≤ tr ∧ tr < 18446744073709551616) (hr : rightZ n i = true) (tab : ShaTab w) :
    Calls Tryd.prog 39 #[(.agg (dx.map (Value.int .u8)).toArray), .slice na n nc, .int .i64 i, (.agg (pub.map (Value.int .u8)).toArray), .int .u32 la, .int .u64 tr] w fun e w' => e = .returned (.tuple #[(.agg ((climbZ pub (treeZ la tr) i way dx n).map (Value.int .u8)).toArray), .int .i64 0]) ∧ Below w.heap.size w w' := by
  have HAd := hid (Aw.tree hla htr)
  have HN := hid hN
  have hle := hN.le
  have hmx := hN.max
  have hr2 := hr
  simp only [rightZ, decide_eq_true_eq] at hr2
  have b1 := (Below.refl w.heap.size w).alloc (Nat.le_refl _) (.cells (dx.map (Value.int .u8)).toArray 23 (0, 0))
  have b2 := b1.alloc b1.size (.cells (pub.map (Value.int .u8)).toArray 23 (0, 0))
  have b3 := b2.alloc b2.size (.cells (byteCells 32 []) 23 (0, 0))
  have Kx := hid (((Blk.new (w := w) (n := w.heap.size) rfl (dx.map (Value.int .u8)).toArray 23).old (.cells (pub.map (Value.int .u8)).toArray 23 (0, 0))).old (.cells (byteCells 32 []) 23 (0, 0)))
  have Kp := hid ((Blk.new (w := (w.alloc (.cells (dx.map (Value.int .u8)).toArray 23 (0, 0)))) (n := w.heap.size + 1) (by simp only [World.size_alloc]) (pub.map (Value.int .u8)).toArray 23).old (.cells (byteCells 32 []) 23 (0, 0)))
  have Kr0 := hid (Blk.new (w := ((w.alloc (.cells (dx.map (Value.int .u8)).toArray 23 (0, 0))).alloc (.cells (pub.map (Value.int .u8)).toArray 23 (0, 0)))) (n := w.heap.size + 1 + 1) (by simp only [World.size_alloc]) (byteCells 32 []) 23)
  have Hb := hid b3
  have HzA := hid zsize
  have hbz := b3.size
  have Hbs := hid (show w.heap.size + 1 + 1 + 1 = (((w.alloc (.cells (dx.map (Value.int .u8)).toArray 23 (0, 0))).alloc (.cells (pub.map (Value.int .u8)).toArray 23 (0, 0))).alloc (.cells (byteCells 32 []) 23 (0, 0))).heap.size by simp only [World.size_alloc])
  have Htab := hid tab
  clear b1 b2 b3 tab
  go_enter Tryd.func39, Tryd.ntmps39
  go_wp2_with fail
  refine (tright_b (n : Int) i true hr _).mono ?_
  rintro e w1 ⟨rfl, bw1⟩
  have HBw1 := hid (Below.on Hb.out bw1)
  have hsw1 := HBw1.out.size
  have Kxw1 := hid (Kx.out.below bw1)
  have Kpw1 := hid (Kp.out.below bw1)
  have Kr0w1 := hid (Kr0.out.below bw1)
  clear bw1
  go_wp2_with fail
  refine (tree_list la tr _ htr.1 htr.2).mono ?_
  rintro e w2 ⟨rfl, bw2⟩
  have HBw2 := hid (Below.on HBw1.out bw2)
  have hsw2 := HBw2.out.size
  have Kxw2 := hid (Kxw1.out.below bw2)
  have Kpw2 := hid (Kpw1.out.below bw2)
  have Kr0w2 := hid (Kr0w1.out.below bw2)
  clear bw2
  go_wp2_with (
      refine wpList_store_blk rfl 26 _ _ rfl (w2.heap.size) ((treeZ la tr).map (Value.int .u32)).toArray rfl rfl _ 26 (Blk.new rfl #[.int .u32 0, .int .u32 0, .int .u32 0, .int .u32 0, .int .u32 0, .int .u32 0, .int .u32 0, .int .u32 0] _) 8 sizeAdrs rfl HAd.out.size (ints_one _ _) ?_
      intro w3 hbw3 hkw3
      have HBw3 := hid (hbw3.below (HBw2.out.alloc HBw2.out.size _) (by simp only [World.size_alloc]; omega) (by have := HBw2.out.size; omega))
      have hsw3 := HBw3.out.size
      have Kadw3 := hid hkw3
      have Kxw3 := hid (hbw3.blk (Kxw2.out.old _) (by have := Kxw2.out.lt; omega))
      have Kpw3 := hid (hbw3.blk (Kpw2.out.old _) (by have := Kpw2.out.lt; omega))
      have Kr0w3 := hid (hbw3.blk (Kr0w2.out.old _) (by have := Kr0w2.out.lt; omega))
      clear hbw3 hkw3)
  have Hga := hid (show w.heap.size + 1 + 1 < w2.heap.size from Kr0w2.out.lt)
  have hga := Hga.out
  generalize w2.heap.size = ga at *
  go_loopw [31] (fun c wr => ∃ k : Nat, k ≤ n ∧ c = .int .i64 k ∧ Blk wr (w.heap.size) ((climbZ pub (treeZ la tr) i way dx k).map (Value.int .u8)).toArray 23 ∧ Blk wr (w.heap.size + 1) (pub.map (Value.int .u8)).toArray 23 ∧ Blk wr (w.heap.size + 1 + 1) (byteCells 32 []) 23 ∧ Blk wr ga ((treeZ la tr).map (Value.int .u32)).toArray 26 ∧ Below w.heap.size w wr) (fun c _ => n - (intOf c).toNat)
  case atStart => exact ⟨0, Nat.zero_le _, rfl, Kxw3.out, Kpw3.out, Kr0w3.out, Kadw3.out, HBw3.out⟩
  case round =>
    obtain ⟨k, hk, rfl, kx, kp, kr, ka, bel⟩ := hrel
    have Kxwr := hid kx
    have Kpwr := hid kp
    have Kr0wr := hid kr
    have Kadwr := hid ka
    have HBwr := hid bel
    have hswr := bel.size
    clear kx kp kr ka bel
    by_cases hlt : k < n
    · skip
      have HX := hid (Dg.climb (pub := pub) (ad := treeZ la tr) (i := i) (way := way) hx k)
      have HS := hid (HN.out.get hlt)
      have hc0 : (k : Int) < n := by omega
      have hk16 : (k : Int) ≤ 64 := by omega
      have HNr := HN.out.below HBwr.out
      obtain ⟨xs, xo, rfl, hxs, hcell⟩ := HNr.at_ (by omega)
      have Hc := hid (hcell k hlt)
      have Hst := hid (show (climbZ pub (treeZ la tr) i way dx (k + 1)) = climbS pub (treeZ la tr) i k (climbZ pub (treeZ la tr) i way dx k) (way.getD k []) from rfl)
      clear hcell HNr
      generalize way.getD k [] = s at *
      generalize hX2 : (climbZ pub (treeZ la tr) i way dx (k + 1)) = x2 at *
      generalize (climbZ pub (treeZ la tr) i way dx k) = x1 at *
      go_wp2_with (first
         | (refine wpList_index_digs rfl 28 _ _ rfl Tryd.underlying28 size_digest xs xo n nc rfl _ _ rfl k rfl hlt ?_)
         | (refine wpList_load_mid rfl 23 _ rfl xs (xo + k * 32) rfl _ _ Hc.out Tryd.underlying23 rfl (by rw [List.length_map, HS.out.len]; exact size_digest) ?_)
         | (
            refine wpList_store_blk rfl 23 _ _ rfl (wr.heap.size) (s.map (Value.int .u8)).toArray rfl rfl _ 23 (Blk.new rfl (byteCells 32 []) _) 32 size_digest HzA.out HS.out.size (ints_one _ _) ?_
            intro w21 hbw21 hkw21
            have HBw21 := hid (hbw21.below (HBwr.out.alloc HBwr.out.size _) (by simp only [World.size_alloc]; omega) (by have := HBwr.out.size; omega))
            have hsw21 := HBw21.out.size
            have Ksw21 := hid hkw21
            have Kxw21 := hid (hbw21.blk (Kxwr.out.old _) (by have := Kxwr.out.lt; omega))
            have Kpw21 := hid (hbw21.blk (Kpwr.out.old _) (by have := Kpwr.out.lt; omega))
            have Kr0w21 := hid (hbw21.blk (Kr0wr.out.old _) (by have := Kr0wr.out.lt; omega))
            have Kadw21 := hid (hbw21.blk (Kadwr.out.old _) (by have := Kadwr.out.lt; omega))
            clear hbw21 hkw21))
      have hlx := Kxw21.out.lt
      have hlp := Kpw21.out.lt
      have hlr0 := Kr0w21.out.lt
      have hlad := Kadw21.out.lt
      have hls := Ksw21.out.lt
      have hq16 : 0 ≤ i / 2 ^ k ∧ i / 2 ^ k < 16 := by
        have hp : (0 : Int) < 2 ^ k := Int.pow_pos (by omega)
        have h16 : i < 16 := by
          rcases (show n = 1 ∨ n = 2 ∨ n = 3 ∨ n = 4 by omega) with rfl | rfl | rfl | rfl <;> simp at hr2 <;> omega
        exact ⟨Int.ediv_nonneg (by omega) (by omega), Int.lt_of_le_of_lt (Int.ediv_le_self _ (by omega)) h16⟩
      generalize hq : i / 2 ^ k = q at *
      refine wp_pair (by kernel_rfl) (by kernel_rfl) (fun _ _ d _ _ h => by cases d <;> exact h) _ _ _ _ _ _ rfl rfl rfl rfl rfl rfl 23 _ _ _ _ _ _ rfl rfl rfl rfl rfl rfl rfl rfl rfl rfl rfl rfl (by simp) (w.heap.size) (wr.heap.size) (x1.map (Value.int .u8)).toArray (s.map (Value.int .u8)).toArray rfl rfl _ _ Kxw21.out Ksw21.out _ Tryd.underlying23 rfl 32 size_digest HX.out.size HS.out.size (ints_one _ _) (ints_one _ _) (byteCells 32 []) HzA.out (fun A W => by go_simp; rfl) (fun A W => by go_simp; rfl) (fun b c => ⟨rfl, rfl, rfl, rfl⟩) ?_
      intro gb gc w22 hb22 hgb hgc hbc kb kc
      simp only [pairF, Act.put, List.setIfInBounds_toArray, List.set_cons_zero, List.set_cons_succ]
      have HBw22 := hid (Below.on HBw21.out hb22)
      have hsw22 := HBw22.out.size
      have Kxw22 := hid (Kxw21.out.below hb22)
      have Kpw22 := hid (Kpw21.out.below hb22)
      have Kr0w22 := hid (Kr0w21.out.below hb22)
      have Kadw22 := hid (Kadw21.out.below hb22)
      have Ksw22 := hid (Ksw21.out.below hb22)
      have Klw22 := hid kb
      have Krw22 := hid kc
      clear hb22 kb kc
      by_cases hodd : q % 2 = 1
      · skip
        go_wp2_with fail
        refine FlowB.wp_region_butIn [gb, gc] (fun wz => Blk wz (gb) (x1.map (Value.int .u8)).toArray 23 ∧ Blk wz (gc) (s.map (Value.int .u8)).toArray 23) 4 [0, 1] [] [(.c 2, [], []), (.c 3, [], [])] (by kernel_rfl) (by kernel_rfl) ⟨Klw22.out, Krw22.out⟩ (fun _ _ h hb => ⟨h.1.below hb, h.2.below hb⟩) ?_
        apply Exists.intro
        refine ⟨fun w0 hb0 hF0 => ?_, ?_⟩
        · skip
          have x0 : ∀ w', (∃ x : Ext w0, w' = x.at_) → ∃ T, Blk w' (wr.heap.size) (s.map (Value.int .u8)).toArray T := fun w' ⟨x, hx⟩ => ⟨_, hx ▸ (hb0.blk Ksw22.out (by simp only [List.mem_cons, List.not_mem_nil, or_false]; omega)).below x.same⟩
          have x1 : ∀ w', (∃ x : Ext w0, w' = x.at_) → ∃ T, Blk w' (w.heap.size) (x1.map (Value.int .u8)).toArray T := fun w' ⟨x, hx⟩ => ⟨_, hx ▸ (hb0.blk Kxw22.out (by simp only [List.mem_cons, List.not_mem_nil, or_false]; omega)).below x.same⟩
          simp only [pick, List.getElem?_toArray, List.getElem?_cons_succ, List.getElem?_cons_zero, Option.toList_some, List.cons_append, List.nil_append]
          repeat (first | (go_big_quiet_want; refine quiet_load_blk 23 _ rfl (wr.heap.size) rfl _ x0 _ Tryd.underlying23 rfl 32 size_digest HS.out.size ?_; go_big_quiet_on; simp only [Act.put, List.setIfInBounds_toArray, List.set_cons_zero, List.set_cons_succ]) | (go_big_quiet_want; refine quiet_load_blk 23 _ rfl (w.heap.size) rfl _ x1 _ Tryd.underlying23 rfl 32 size_digest HX.out.size ?_; go_big_quiet_on; simp only [Act.put, List.setIfInBounds_toArray, List.set_cons_zero, List.set_cons_succ]) | go_big_quiet_step (fail))
          exact wpQuiet_nil rfl
        refine FlowB.AlChk.nil ?_
        refine FlowB.Walk.skips rfl (fun wz => Blk wz (gb) (s.map (Value.int .u8)).toArray 23 ∧ Blk wz (gc) (s.map (Value.int .u8)).toArray 23) (fun _ _ h hb => ⟨h.1.below hb, h.2.below hb⟩) rfl (fun w1 hb1 hF1 hG1 => ?_) ?_
        · exact FlowB.store_skips 23 _ _ rfl (gb) (s.map (Value.int .u8)).toArray rfl rfl _ 23 hG1.1 32 size_digest HX.out.size HS.out.size (ints_one _ _) (by simp) (fun w2 h2 h3 => ⟨h3, h2.blk hG1.2 (by omega)⟩)
        intro w1 hb1 hF1
        apply Exists.intro
        refine ⟨fun w2 hb2 hF2 => wpQuiet_nil rfl, ?_⟩
        refine FlowB.AlChk.nil ?_
        refine FlowB.Walk.skips rfl (fun wz => Blk wz (gb) (s.map (Value.int .u8)).toArray 23 ∧ Blk wz (gc) (x1.map (Value.int .u8)).toArray 23) (fun _ _ h hb => ⟨h.1.below hb, h.2.below hb⟩) rfl (fun w1 hb1 hF1 hG1 => ?_) ?_
        · exact FlowB.store_skips 23 _ _ rfl (gc) (x1.map (Value.int .u8)).toArray rfl rfl _ 23 hG1.2 32 size_digest HS.out.size HX.out.size (ints_one _ _) (by simp) (fun w2 h2 h3 => ⟨h2.blk hG1.1 (by omega), h3⟩)
        intro w1 hb1 hF1
        apply Exists.intro
        refine ⟨fun w2 hb2 hF2 => wpQuiet_nil rfl, ?_⟩
        refine FlowB.AlChk.nil ?_
        refine FlowB.Walk.fin fun w22 hw22 _ hGw22 => ?_
        simp only [List.drop_succ_cons, List.drop_zero]
        have HBw22 := hid (hw22.below HBw22.out HBw22.out.size (by simp only [List.mem_cons, List.not_mem_nil, or_false, forall_eq_or_imp, forall_eq]; omega))
        have HGw22 := hid hGw22
        have Kxw22 := hid (hw22.blk Kxw22.out (by simp only [List.mem_cons, List.not_mem_nil, or_false]; have := Kxw22.out.lt; omega))
        have Kpw22 := hid (hw22.blk Kpw22.out (by simp only [List.mem_cons, List.not_mem_nil, or_false]; have := Kpw22.out.lt; omega))
        have Kr0w22 := hid (hw22.blk Kr0w22.out (by simp only [List.mem_cons, List.not_mem_nil, or_false]; have := Kr0w22.out.lt; omega))
        have Kadw22 := hid (hw22.blk Kadw22.out (by simp only [List.mem_cons, List.not_mem_nil, or_false]; have := Kadw22.out.lt; omega))
        have Ksw22 := hid (hw22.blk Ksw22.out (by simp only [List.mem_cons, List.not_mem_nil, or_false]; have := Ksw22.out.lt; omega))
        have Klw22 := hid HGw22.out.1
        have Krw22 := hid HGw22.out.2
        clear hw22 hGw22
        simp only [Act.put]
        have hx2 : x2 = joinZ s x1 pub (setAd (treeZ la tr) k (q / 2) 0) := by
          rw [Hst.out]
          unfold climbS
          rw [hq, if_pos hodd]
        have HX2 := hid (show Dg x2 by rw [hx2]; exact Dg.join _ _ _ _)
        have C := hid (show ∀ W : World, ShaTab W → Calls Tryd.prog 96 #[(.agg (s.map (Value.int .u8)).toArray), (.agg (x1.map (Value.int .u8)).toArray), (.agg (pub.map (Value.int .u8)).toArray), (.agg ((treeZ la tr).map (Value.int .u32)).toArray), .int .i64 k, .int .i64 (q / 2)] W (fun e w' => e = .returned (.agg (x2.map (Value.int .u8)).toArray) ∧ Below W.heap.size W w') from fun W t => by
          rw [hx2]
          exact tjoin_any s x1 pub (treeZ la tr) k (q / 2) W HS.out HX.out hpub HAd.out (by omega) (by omega) t)
        clear hx2
        go_wp2_with (first
           | (refine wpList_load_blk rfl 23 _ rfl (gb) rfl _ 23 Klw22.out _ Tryd.underlying23 rfl 32 size_digest HS.out.size ?_)
           | (refine wpList_load_blk rfl 23 _ rfl (gc) rfl _ 23 Krw22.out _ Tryd.underlying23 rfl 32 size_digest HX.out.size ?_)
           | (refine wpList_load_blk rfl 23 _ rfl (w.heap.size + 1) rfl _ 23 Kpw22.out _ Tryd.underlying23 rfl 32 size_digest hpub.size ?_)
           | (refine wpList_load_blk rfl 26 _ rfl (ga) rfl _ 26 Kadw22.out _ Tryd.underlying26 rfl 8 sizeAdrs HAd.out.size ?_))
        refine (C.out _ (Htab.out.below HBw22.out)).mono ?_
        rintro e w23 ⟨rfl, bw23⟩
        have HBw23 := hid (Below.on HBw22.out bw23)
        have hsw23 := HBw23.out.size
        have Kxw23 := hid (Kxw22.out.below bw23)
        have Kpw23 := hid (Kpw22.out.below bw23)
        have Kr0w23 := hid (Kr0w22.out.below bw23)
        have Kadw23 := hid (Kadw22.out.below bw23)
        have Ksw23 := hid (Ksw22.out.below bw23)
        have Klw23 := hid (Klw22.out.below bw23)
        have Krw23 := hid (Krw22.out.below bw23)
        clear bw23
        go_wp2_with (
            refine wpList_store_blk rfl 23 _ _ rfl (w.heap.size) (x2.map (Value.int .u8)).toArray rfl rfl _ 23 Kxw23.out 32 size_digest HX.out.size HX2.out.size (ints_one _ _) ?_
            intro w30 hb30 hk30
            have HBw30 := hid (hb30.below HBw23.out HBw23.out.size (by omega))
            have Kxw30 := hid hk30
            have Kpw30 := hid (hb30.blk Kpw23.out (by omega))
            have Kr0w30 := hid (hb30.blk Kr0w23.out (by omega))
            have Kadw30 := hid (hb30.blk Kadw23.out (by omega))
            clear hb30 hk30)
        exact ⟨⟨k + 1, by omega, by first | rfl | simp, by rw [hX2]; exact Kxw30.out, Kpw30.out, Kr0w30.out, Kadw30.out, HBw30.out⟩, by simp [intOf]; omega⟩
      · skip
        have hx2 : x2 = joinZ x1 s pub (setAd (treeZ la tr) k (q / 2) 0) := by
          rw [Hst.out]
          unfold climbS
          rw [hq, if_neg hodd]
        have HX2 := hid (show Dg x2 by rw [hx2]; exact Dg.join _ _ _ _)
        have C := hid (show ∀ W : World, ShaTab W → Calls Tryd.prog 96 #[(.agg (x1.map (Value.int .u8)).toArray), (.agg (s.map (Value.int .u8)).toArray), (.agg (pub.map (Value.int .u8)).toArray), (.agg ((treeZ la tr).map (Value.int .u32)).toArray), .int .i64 k, .int .i64 (q / 2)] W (fun e w' => e = .returned (.agg (x2.map (Value.int .u8)).toArray) ∧ Below W.heap.size W w') from fun W t => by
          rw [hx2]
          exact tjoin_any x1 s pub (treeZ la tr) k (q / 2) W HX.out HS.out hpub HAd.out (by omega) (by omega) t)
        clear hx2
        go_wp2_with (first
           | (refine wpList_load_blk rfl 23 _ rfl (gb) rfl _ 23 Klw22.out _ Tryd.underlying23 rfl 32 size_digest HX.out.size ?_)
           | (refine wpList_load_blk rfl 23 _ rfl (gc) rfl _ 23 Krw22.out _ Tryd.underlying23 rfl 32 size_digest HS.out.size ?_)
           | (refine wpList_load_blk rfl 23 _ rfl (w.heap.size + 1) rfl _ 23 Kpw22.out _ Tryd.underlying23 rfl 32 size_digest hpub.size ?_)
           | (refine wpList_load_blk rfl 26 _ rfl (ga) rfl _ 26 Kadw22.out _ Tryd.underlying26 rfl 8 sizeAdrs HAd.out.size ?_))
        refine (C.out _ (Htab.out.below HBw22.out)).mono ?_
        rintro e w22 ⟨rfl, bw22⟩
        have HBw22 := hid (Below.on HBw22.out bw22)
        have hsw22 := HBw22.out.size
        have Kxw22 := hid (Kxw22.out.below bw22)
        have Kpw22 := hid (Kpw22.out.below bw22)
        have Kr0w22 := hid (Kr0w22.out.below bw22)
        have Kadw22 := hid (Kadw22.out.below bw22)
        have Ksw22 := hid (Ksw22.out.below bw22)
        have Klw22 := hid (Klw22.out.below bw22)
        have Krw22 := hid (Krw22.out.below bw22)
        clear bw22
        go_wp2_with (
            refine wpList_store_blk rfl 23 _ _ rfl (w.heap.size) (x2.map (Value.int .u8)).toArray rfl rfl _ 23 Kxw22.out 32 size_digest HX.out.size HX2.out.size (ints_one _ _) ?_
            intro w30 hb30 hk30
            have HBw30 := hid (hb30.below HBw22.out HBw22.out.size (by omega))
            have Kxw30 := hid hk30
            have Kpw30 := hid (hb30.blk Kpw22.out (by omega))
            have Kr0w30 := hid (hb30.blk Kr0w22.out (by omega))
            have Kadw30 := hid (hb30.blk Kadw22.out (by omega))
            clear hb30 hk30)
        exact ⟨⟨k + 1, by omega, by first | rfl | simp, by rw [hX2]; exact Kxw30.out, Kpw30.out, Kr0w30.out, Kadw30.out, HBw30.out⟩, by simp [intOf]; omega⟩
    · skip
      have hkn : k = n := by omega
      subst hkn
      have HX := hid (Dg.climb (pub := pub) (ad := treeZ la tr) (i := i) (way := way) hx k)
      generalize hX1 : (climbZ pub (treeZ la tr) i way dx k) = x1 at *
      go_wp2_with (first
         | (refine wpList_load_blk rfl 23 _ rfl (w.heap.size) rfl _ 23 Kxwr.out _ Tryd.underlying23 rfl 32 size_digest HX.out.size ?_)
         | (
          refine wpList_store_blk rfl 23 _ _ rfl (w.heap.size + 1 + 1) (x1.map (Value.int .u8)).toArray rfl rfl _ 23 Kr0wr.out 32 size_digest HzA.out HX.out.size (ints_one _ _) ?_
          intro w9 hb9 hk9
          have HB9 := hid (hb9.below HBwr.out HBwr.out.size (by omega))
          have HK9 := hid hk9
          clear hb9 hk9))
      exact bodyPost_ret (v := .tuple #[(.agg (x1.map (Value.int .u8)).toArray), .int .i64 0]) (results_blk_tmp Tryd.results39 _ (w.heap.size + 1 + 1) rfl _ rfl _ 23 HK9.out _ Tryd.underlying23 rfl 32 size_digest HX.out.size) rfl ⟨by rw [hX1], HB9.out⟩
end Go.Proofs.YtjkfbeillmeomaaDoor
