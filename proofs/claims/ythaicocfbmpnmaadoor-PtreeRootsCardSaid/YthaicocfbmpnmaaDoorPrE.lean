/-
  Layer 18: where one comes to, by the reference.
-/
import Derived.Test.YthaicocfbmpnmaaDoorPrD
namespace Go.Proofs.YthaicocfbmpnmaaDoor
open Go.ChangeShapes Go.WideShapes Go.ChangeAt Go.RowKit

/-- The sibling of a level. -/
def sibL (d : List Int) (ns : List (List Int)) (k : Nat) : List Int := if knB d k then ns.getD (knN d k) [] else emptyL k
/-- A step up. -/
def stepL (i : List Int) (k : Nat) (x s : List Int) : List Int := if bitL i k = 0 then nodeL x s else nodeL s x
/-- Where one comes to. -/
def climbK (d i : List Int) (ns : List (List Int)) (x : List Int) : Nat → List Int
  | 0 => x
  | k + 1 => stepL i k (climbK d i ns x k) (sibL d ns k)
theorem Dg.stepL (i : List Int) (k : Nat) (x s : List Int) : Dg (stepL i k x s) := by
  unfold Go.Proofs.YthaicocfbmpnmaaDoor.stepL
  split
  · exact Dg.nodeL _ _
  · exact Dg.nodeL _ _
theorem Dg.climbK {x : List Int} (hx : Dg x) (d i : List Int) (ns : List (List Int)) (k : Nat) : Dg (climbK d i ns x k) := by
  cases k with
  | zero => exact hx
  | succ k => exact Dg.stepL _ _ _ _
theorem own_at {w : World} {base : Nat} {e : TypeId} {ea : Option Addr} {en ec k : Nat} {ds : List (List Int)} (h : OwnD w base e (.slice ea en ec) ds) (hk : k < ds.length) :
    ∃ g o, ea = some ⟨g, o, none⟩ ∧ (base ≤ g ∧ g < w.heap.size) ∧ w.rangeAt g (o + k * 32) ((ds.getD k []).map (Value.int .u8)) := by
  obtain ⟨a, cap, hv, hd, ha⟩ := h.digs
  cases hv
  obtain ⟨g, o, rfl, hg, hr⟩ := hd.at_ (by omega)
  refine ⟨g, o, rfl, ⟨?_, hg⟩, hr k hk⟩
  rcases ha with ha | ⟨g', ha, hb⟩
  · cases ha
  · cases ha; exact hb
theorem But.ownD2 {b base g o n c : Nat} {w w' : World} {ds : List (List Int)} (hb : But b w w') (h : OwnD w base 23 (.slice (some ⟨g, o, none⟩) n c) ds) (hne : g ≠ b) : OwnD w' base 23 (.slice (some ⟨g, o, none⟩) n c) ds := by
  obtain ⟨⟨h1, h2⟩, h3⟩ := h
  refine ⟨⟨h1, h2.imp id ?_⟩, h3⟩
  rintro ⟨g, cap, cur, hv, hg, hh, hle, hmx, hsz, htk⟩
  cases hv
  have hk : Blk w _ cur 23 := hh
  exact ⟨_, _, cur, rfl, hg, hb.blk hk hne, hle, hmx, hsz, htk⟩

set_option maxHeartbeats 4000000 in
set_option maxRecDepth 100000 in
theorem refclimb_any (x i d : List Int) (ad : Option Addr) (len cap : Nat) (ns : List (List Int)) (w : World) (hx : Dg x) (hi : Dg i) (hd : Dg d) (hn : knN d 256 = len) (hns : DigsAt w ad len cap ns) :
    Calls Tryd.prog 33 #[.agg (x.map (Value.int .u8)).toArray, .agg (i.map (Value.int .u8)).toArray, .agg (d.map (Value.int .u8)).toArray, .slice ad len cap] w fun e w' => e = .returned (.agg ((climbK d i ns x 256).map (Value.int .u8)).toArray) ∧ Below w.heap.size w w' := by
  have b1 := (Below.refl w.heap.size w).alloc (Nat.le_refl _) (.cells (x.map (Value.int .u8)).toArray 23 (0, 0))
  have b2 := b1.alloc b1.size (.cells (i.map (Value.int .u8)).toArray 23 (0, 0))
  have b3 := b2.alloc b2.size (.cells (d.map (Value.int .u8)).toArray 23 (0, 0))
  have b4 := b3.alloc b3.size (.cells (byteCells 32 []) 23 (0, 0))
  have Kx := hid ((((Blk.new (w := w) (n := w.heap.size) rfl (x.map (Value.int .u8)).toArray 23).old (.cells (i.map (Value.int .u8)).toArray 23 (0, 0))).old (.cells (d.map (Value.int .u8)).toArray 23 (0, 0))).old (.cells (byteCells 32 []) 23 (0, 0)))
  have Ki := hid (((Blk.new (w := (w.alloc (.cells (x.map (Value.int .u8)).toArray 23 (0, 0)))) (n := w.heap.size + 1) (by simp only [World.size_alloc]) (i.map (Value.int .u8)).toArray 23).old (.cells (d.map (Value.int .u8)).toArray 23 (0, 0))).old (.cells (byteCells 32 []) 23 (0, 0)))
  have Kd := hid ((Blk.new (w := ((w.alloc (.cells (x.map (Value.int .u8)).toArray 23 (0, 0))).alloc (.cells (i.map (Value.int .u8)).toArray 23 (0, 0)))) (n := w.heap.size + 1 + 1) (by simp only [World.size_alloc]) (d.map (Value.int .u8)).toArray 23).old (.cells (byteCells 32 []) 23 (0, 0)))
  have Kr := hid (Blk.new (w := (((w.alloc (.cells (x.map (Value.int .u8)).toArray 23 (0, 0))).alloc (.cells (i.map (Value.int .u8)).toArray 23 (0, 0))).alloc (.cells (d.map (Value.int .u8)).toArray 23 (0, 0)))) (n := w.heap.size + 1 + 1 + 1) (by simp only [World.size_alloc]) (byteCells 32 []) 23)
  have Hb := hid b4
  have hbz := b4.size
  have Hbs := hid (show w.heap.size + 1 + 1 + 1 + 1 = ((((w.alloc (.cells (x.map (Value.int .u8)).toArray 23 (0, 0))).alloc (.cells (i.map (Value.int .u8)).toArray 23 (0, 0))).alloc (.cells (d.map (Value.int .u8)).toArray 23 (0, 0))).alloc (.cells (byteCells 32 []) 23 (0, 0))).heap.size by simp only [World.size_alloc])
  clear b1 b2 b3 b4 
  go_enter Tryd.func33, Tryd.ntmps33
  go_wp2_with fail
  refine (refempty_any _).mono ?_
  rintro e w1 ⟨v, rfl, b1, ho⟩
  have HB1 := hid (Below.on Hb.out b1)
  have hs1 := HB1.out.size
  have Kx1 := hid (Kx.out.below b1)
  have Ki1 := hid (Ki.out.below b1)
  have Kd1 := hid (Kd.out.below b1)
  have Kr1 := hid (Kr.out.below b1)
  have ho := ho.re (base' := w.heap.size + 1 + 1 + 1 + 1) (Nat.le_of_eq Hbs.out)
  obtain ⟨ea, ec, rfl, -, -⟩ := ho.digs
  rw [empN_length] at ho ⊢
  have HO1 := hid ho
  clear b1 ho
  go_wp2_with fail
  go_loopw [10, 11, 12] (fun av kv _ wr => ∃ k : Nat, k ≤ 256 ∧ kv = .int .i64 k ∧ av = .int .i64 (knN d k : Nat) ∧ Blk wr w.heap.size ((climbK d i ns x k).map (Value.int .u8)).toArray 23 ∧ Blk wr (w.heap.size + 1) (i.map (Value.int .u8)).toArray 23 ∧ Blk wr (w.heap.size + 1 + 1) (d.map (Value.int .u8)).toArray 23 ∧ Blk wr (w.heap.size + 1 + 1 + 1) (byteCells 32 []) 23 ∧ OwnD wr (w.heap.size + 1 + 1 + 1 + 1) 23 (.slice ea 257 ec) (empN 257) ∧ Below w.heap.size w wr) (fun _ kv _ _ => 256 - (intOf kv).toNat)
  case atStart => exact ⟨0, Nat.zero_le _, rfl, rfl, Kx1.out, Ki1.out, Kd1.out, Kr1.out, HO1.out, HB1.out⟩
  case round =>
    obtain ⟨k, hk, rfl, rfl, kx, ki, kd, kr, ho, bel⟩ := hrel
    have Kxwr := hid kx
    have Kiwr := hid ki
    have Kdwr := hid kd
    have Krwr := hid kr
    have HBwr := hid bel
    have KOwr := hid ho
    have hswr := bel.size
    have hrl := kr.lt
    have hnk := knN_le d k
    clear kx ki kd kr bel
    by_cases hlt : k < 256
    · skip
      have hc0 : (k : Int) < 256 := by omega
      obtain ⟨g, o, rfl, ⟨hgb, hgl⟩, hr0⟩ := own_at ho (show k < (empN 257).length by rw [empN_length]; omega)
      rw [empN_get (by omega)] at hr0
      have Hr0 := hid hr0
      have HE := hid (Dg.emptyL k)
      have HI0 := hid hi
      have HD0 := hid hd
      have HX0 := hid (Dg.climbK hx d i ns k)
      have CK := hid (fun W : World => refkn_any d k W hd hlt)
      have CB := hid (fun W : World => refbit_in i k W hi hlt)
      have HN := hid (show knN d (k + 1) = knN d k + (if knB d k then 1 else 0) from rfl)
      have HS := hid (show climbK d i ns x (k + 1) = stepL i k (climbK d i ns x k) (sibL d ns k) from rfl)
      have HSB := hid (show sibL d ns k = if knB d k then ns.getD (knN d k) [] else emptyL k from rfl)
      generalize climbK d i ns x k = X at *
      generalize emptyL k = E at *
      clear ho hr0
      go_wp2_with (first
         | (refine wpList_index_digs rfl 27 _ _ rfl Tryd.underlying27 size_digest g o 257 ec rfl _ _ rfl k rfl (by omega) ?_)
         | (refine wpList_load_mid rfl 23 _ rfl g (o + k * 32) rfl _ _ Hr0.out Tryd.underlying23 rfl (by rw [List.length_map, HE.out.len]; exact size_digest) ?_)
         | (
            refine wpList_store_blk rfl 23 _ _ rfl (wr.heap.size) (E.map (Value.int .u8)).toArray rfl rfl _ 23 (Blk.new rfl (byteCells 32 []) _) 32 size_digest zsize HE.out.size (ints_one _ _) ?_
            intro w21 hbw21 hkw21
            have hw21 := hbw21.below ((Below.refl wr.heap.size wr).alloc (Nat.le_refl _) _) (by simp only [World.size_alloc]; omega) (Nat.le_refl _)
            have HBw21 := hid (Below.on HBwr.out hw21)
            have hsw21 := HBw21.out.size
            have Kxw21 := hid (Kxwr.out.below hw21)
            have hlxw21 := Kxwr.out.lt
            have Kiw21 := hid (Kiwr.out.below hw21)
            have hliw21 := Kiwr.out.lt
            have Kdw21 := hid (Kdwr.out.below hw21)
            have hldw21 := Kdwr.out.lt
            have Krw21 := hid (Krwr.out.below hw21)
            have hlrw21 := Krwr.out.lt
            have KOw21 := hid (KOwr.out.below hw21)
            have hlOw21 := KOwr.out.lt
            have Ksw21 := hid hkw21
            have hfw21 : w.heap.size ≤ wr.heap.size := HBwr.out.size
            clear hbw21 hkw21 hw21)
         | (refine wpList_load_blk rfl 23 _ rfl ((w.heap.size + 1 + 1)) rfl _ 23 Kdw21.out _ Tryd.underlying23 rfl 32 size_digest HD0.out.size ?_))

      refine (CK.out _).mono ?_
      rintro e w22 ⟨rfl, bw22⟩
      have HBw22 := hid (Below.on HBw21.out bw22)
      have hsw22 := HBw22.out.size
      have Kxw22 := hid (Kxw21.out.below bw22)
      have Kiw22 := hid (Kiw21.out.below bw22)
      have Kdw22 := hid (Kdw21.out.below bw22)
      have Krw22 := hid (Krw21.out.below bw22)
      have KOw22 := hid (KOw21.out.below bw22)
      have Ksw22 := hid (Ksw21.out.below bw22)
      clear bw22
      have HK8 := hid hnk
      clear hnk
      cases hB : knB d k
      · skip
        rw [hB] at HN HSB
        clear hB
        rw [if_neg (by simp)] at HSB
        generalize hQ : knN d k = q at *
        clear hQ
        go_wp2_with (refine wpList_load_blk rfl 23 _ rfl ((w.heap.size + 1)) rfl _ 23 Kiw22.out _ Tryd.underlying23 rfl 32 size_digest HI0.out.size ?_)
        refine (CB.out _).mono ?_
        rintro e w23 ⟨rfl, bw23⟩
        have HBw23 := hid (Below.on HBw22.out bw23)
        have hsw23 := HBw23.out.size
        have Kxw23 := hid (Kxw22.out.below bw23)
        have Kiw23 := hid (Kiw22.out.below bw23)
        have Kdw23 := hid (Kdw22.out.below bw23)
        have Krw23 := hid (Krw22.out.below bw23)
        have KOw23 := hid (KOw22.out.below bw23)
        have Ksw23 := hid (Ksw22.out.below bw23)
        clear bw23
        by_cases hb : bitL i k = 0
        · skip
          have HS2 := hid (show stepL i k X E = nodeL X E by unfold Go.Proofs.YthaicocfbmpnmaaDoor.stepL; rw [if_pos hb])
          have CN := hid (fun W : World => refnode_any X E W HX0.out HE.out)
          have HX9 := hid (Dg.nodeL X E)
          generalize hX9 : nodeL X E = X9 at *
          have HE9 := hid hX9
          clear hX9
          generalize bitL i k = bv at *
          go_wp2_with (first
             | (refine wpList_load_blk rfl 23 _ rfl (w.heap.size) rfl _ 23 Kxw23.out _ Tryd.underlying23 rfl 32 size_digest HX0.out.size ?_)
             | (refine wpList_load_blk rfl 23 _ rfl (wr.heap.size) rfl _ 23 Ksw23.out _ Tryd.underlying23 rfl 32 size_digest HE.out.size ?_))
          refine (CN.out _).mono ?_
          rintro e w24 ⟨rfl, bw24⟩
          have HBw24 := hid (Below.on HBw23.out bw24)
          have hsw24 := HBw24.out.size
          have Kxw24 := hid (Kxw23.out.below bw24)
          have Kiw24 := hid (Kiw23.out.below bw24)
          have Kdw24 := hid (Kdw23.out.below bw24)
          have Krw24 := hid (Krw23.out.below bw24)
          have KOw24 := hid (KOw23.out.below bw24)
          have Ksw24 := hid (Ksw23.out.below bw24)
          clear bw24
          go_wp2_with (
                refine wpList_store_blk rfl 23 _ _ rfl (w.heap.size) (X9.map (Value.int .u8)).toArray rfl rfl _ 23 Kxw24.out 32 size_digest HX0.out.size HX9.out.size (ints_one _ _) ?_
                intro w25 hbw25 hkw25
                have HBw25 := hid (hbw25.below HBw24.out HBw24.out.size (by omega))
                have hsw25 := HBw25.out.size
                have Kiw25 := hid (hbw25.blk Kiw24.out (by have := Kiw24.out.lt; omega))
                have Kdw25 := hid (hbw25.blk Kdw24.out (by have := Kdw24.out.lt; omega))
                have Krw25 := hid (hbw25.blk Krw24.out (by have := Krw24.out.lt; omega))
                have KOw25 := hid (hbw25.ownD2 KOw24.out (by omega))
                have Ksw25 := hid (hbw25.blk Ksw24.out (by have := Ksw24.out.lt; omega))
                have Kxw25 := hid hkw25
                clear hbw25 hkw25)
          exact ⟨⟨k + 1, by omega, by first | rfl | simp, by rw [HN.out]; first | rfl | (rw [show wrap64 ((q : Int) + 1) = (q : Int) + 1 by have := HK8.out; unfold wrap64; omega]; simp), by rw [HS.out, HSB.out, HS2.out]; exact Kxw25.out, Kiw25.out, Kdw25.out, Krw25.out, KOw25.out, HBw25.out⟩, by simp [intOf]; omega⟩
        · skip
          have HS2 := hid (show stepL i k X E = nodeL E X by unfold Go.Proofs.YthaicocfbmpnmaaDoor.stepL; rw [if_neg hb])
          have CN := hid (fun W : World => refnode_any E X W HE.out HX0.out)
          have HX9 := hid (Dg.nodeL E X)
          generalize hX9 : nodeL E X = X9 at *
          have HE9 := hid hX9
          clear hX9
          generalize bitL i k = bv at *
          go_wp2_with (first
             | (refine wpList_load_blk rfl 23 _ rfl (w.heap.size) rfl _ 23 Kxw23.out _ Tryd.underlying23 rfl 32 size_digest HX0.out.size ?_)
             | (refine wpList_load_blk rfl 23 _ rfl (wr.heap.size) rfl _ 23 Ksw23.out _ Tryd.underlying23 rfl 32 size_digest HE.out.size ?_))
          refine (CN.out _).mono ?_
          rintro e w24 ⟨rfl, bw24⟩
          have HBw24 := hid (Below.on HBw23.out bw24)
          have hsw24 := HBw24.out.size
          have Kxw24 := hid (Kxw23.out.below bw24)
          have Kiw24 := hid (Kiw23.out.below bw24)
          have Kdw24 := hid (Kdw23.out.below bw24)
          have Krw24 := hid (Krw23.out.below bw24)
          have KOw24 := hid (KOw23.out.below bw24)
          have Ksw24 := hid (Ksw23.out.below bw24)
          clear bw24
          go_wp2_with (
                refine wpList_store_blk rfl 23 _ _ rfl (w.heap.size) (X9.map (Value.int .u8)).toArray rfl rfl _ 23 Kxw24.out 32 size_digest HX0.out.size HX9.out.size (ints_one _ _) ?_
                intro w25 hbw25 hkw25
                have HBw25 := hid (hbw25.below HBw24.out HBw24.out.size (by omega))
                have hsw25 := HBw25.out.size
                have Kiw25 := hid (hbw25.blk Kiw24.out (by have := Kiw24.out.lt; omega))
                have Kdw25 := hid (hbw25.blk Kdw24.out (by have := Kdw24.out.lt; omega))
                have Krw25 := hid (hbw25.blk Krw24.out (by have := Krw24.out.lt; omega))
                have KOw25 := hid (hbw25.ownD2 KOw24.out (by omega))
                have Ksw25 := hid (hbw25.blk Ksw24.out (by have := Ksw24.out.lt; omega))
                have Kxw25 := hid hkw25
                clear hbw25 hkw25)
          exact ⟨⟨k + 1, by omega, by first | rfl | simp, by rw [HN.out]; first | rfl | (rw [show wrap64 ((q : Int) + 1) = (q : Int) + 1 by have := HK8.out; unfold wrap64; omega]; simp), by rw [HS.out, HSB.out, HS2.out]; exact Kxw25.out, Kiw25.out, Kdw25.out, Krw25.out, KOw25.out, HBw25.out⟩, by simp [intOf]; omega⟩
      · skip
        rw [hB] at HN HSB
        clear hB
        have hkl : knN d k < len := by
          have h1 := knN_mono d (show k + 1 ≤ 256 by omega)
          rw [HN.out, if_pos rfl] at h1
          omega
        obtain ⟨g2, o2, rfl, -, hr2⟩ := (hns.below HBw22.out).at_ (by omega)
        have Hr2 := hid (hr2 _ hkl)
        have HY := hid (hns.get hkl)
        rw [if_pos rfl] at HSB
        generalize ns.getD (knN d k) [] = Y at *
        generalize hQ : knN d k = q at *
        clear hQ hr2
        go_wp2_with (first
           | (refine wpList_index_digs rfl 27 _ _ rfl Tryd.underlying27 size_digest g2 o2 len cap rfl _ _ rfl q rfl hkl ?_)
           | (refine wpList_load_mid rfl 23 _ rfl g2 (o2 + q * 32) rfl _ _ Hr2.out Tryd.underlying23 rfl (by rw [List.length_map, HY.out.len]; exact size_digest) ?_)
           | (
              refine wpList_store_blk rfl 23 _ _ rfl (wr.heap.size) (Y.map (Value.int .u8)).toArray rfl rfl _ 23 Ksw22.out 32 size_digest HE.out.size HY.out.size (ints_one _ _) ?_
              intro w23 hbw23 hkw23
              have HBw23 := hid (hbw23.below HBw22.out HBw22.out.size (by omega))
              have hsw23 := HBw23.out.size
              have Kxw23 := hid (hbw23.blk Kxw22.out (by have := Kxw22.out.lt; omega))
              have Kiw23 := hid (hbw23.blk Kiw22.out (by have := Kiw22.out.lt; omega))
              have Kdw23 := hid (hbw23.blk Kdw22.out (by have := Kdw22.out.lt; omega))
              have Krw23 := hid (hbw23.blk Krw22.out (by have := Krw22.out.lt; omega))
              have KOw23 := hid (hbw23.ownD2 KOw22.out (by omega))
              have Ksw23 := hid hkw23
              clear hbw23 hkw23)
           | (refine wpList_load_blk rfl 23 _ rfl ((w.heap.size + 1)) rfl _ 23 Kiw23.out _ Tryd.underlying23 rfl 32 size_digest HI0.out.size ?_))
        refine (CB.out _).mono ?_
        rintro e w24 ⟨rfl, bw24⟩
        have HBw24 := hid (Below.on HBw23.out bw24)
        have hsw24 := HBw24.out.size
        have Kxw24 := hid (Kxw23.out.below bw24)
        have Kiw24 := hid (Kiw23.out.below bw24)
        have Kdw24 := hid (Kdw23.out.below bw24)
        have Krw24 := hid (Krw23.out.below bw24)
        have KOw24 := hid (KOw23.out.below bw24)
        have Ksw24 := hid (Ksw23.out.below bw24)
        clear bw24
        by_cases hb : bitL i k = 0
        · skip
          have HS2 := hid (show stepL i k X Y = nodeL X Y by unfold Go.Proofs.YthaicocfbmpnmaaDoor.stepL; rw [if_pos hb])
          have CN := hid (fun W : World => refnode_any X Y W HX0.out HY.out)
          have HX9 := hid (Dg.nodeL X Y)
          generalize hX9 : nodeL X Y = X9 at *
          have HE9 := hid hX9
          clear hX9
          generalize bitL i k = bv at *
          go_wp2_with (first
             | (refine wpList_load_blk rfl 23 _ rfl (w.heap.size) rfl _ 23 Kxw24.out _ Tryd.underlying23 rfl 32 size_digest HX0.out.size ?_)
             | (refine wpList_load_blk rfl 23 _ rfl (wr.heap.size) rfl _ 23 Ksw24.out _ Tryd.underlying23 rfl 32 size_digest HY.out.size ?_))
          refine (CN.out _).mono ?_
          rintro e w25 ⟨rfl, bw25⟩
          have HBw25 := hid (Below.on HBw24.out bw25)
          have hsw25 := HBw25.out.size
          have Kxw25 := hid (Kxw24.out.below bw25)
          have Kiw25 := hid (Kiw24.out.below bw25)
          have Kdw25 := hid (Kdw24.out.below bw25)
          have Krw25 := hid (Krw24.out.below bw25)
          have KOw25 := hid (KOw24.out.below bw25)
          have Ksw25 := hid (Ksw24.out.below bw25)
          clear bw25
          go_wp2_with (
                refine wpList_store_blk rfl 23 _ _ rfl (w.heap.size) (X9.map (Value.int .u8)).toArray rfl rfl _ 23 Kxw25.out 32 size_digest HX0.out.size HX9.out.size (ints_one _ _) ?_
                intro w26 hbw26 hkw26
                have HBw26 := hid (hbw26.below HBw25.out HBw25.out.size (by omega))
                have hsw26 := HBw26.out.size
                have Kiw26 := hid (hbw26.blk Kiw25.out (by have := Kiw25.out.lt; omega))
                have Kdw26 := hid (hbw26.blk Kdw25.out (by have := Kdw25.out.lt; omega))
                have Krw26 := hid (hbw26.blk Krw25.out (by have := Krw25.out.lt; omega))
                have KOw26 := hid (hbw26.ownD2 KOw25.out (by omega))
                have Ksw26 := hid (hbw26.blk Ksw25.out (by have := Ksw25.out.lt; omega))
                have Kxw26 := hid hkw26
                clear hbw26 hkw26)
          exact ⟨⟨k + 1, by omega, by first | rfl | simp, by rw [HN.out]; first | rfl | (rw [show wrap64 ((q : Int) + 1) = (q : Int) + 1 by have := HK8.out; unfold wrap64; omega]; simp), by rw [HS.out, HSB.out, HS2.out]; exact Kxw26.out, Kiw26.out, Kdw26.out, Krw26.out, KOw26.out, HBw26.out⟩, by simp [intOf]; omega⟩
        · skip
          have HS2 := hid (show stepL i k X Y = nodeL Y X by unfold Go.Proofs.YthaicocfbmpnmaaDoor.stepL; rw [if_neg hb])
          have CN := hid (fun W : World => refnode_any Y X W HY.out HX0.out)
          have HX9 := hid (Dg.nodeL Y X)
          generalize hX9 : nodeL Y X = X9 at *
          have HE9 := hid hX9
          clear hX9
          generalize bitL i k = bv at *
          go_wp2_with (first
             | (refine wpList_load_blk rfl 23 _ rfl (w.heap.size) rfl _ 23 Kxw24.out _ Tryd.underlying23 rfl 32 size_digest HX0.out.size ?_)
             | (refine wpList_load_blk rfl 23 _ rfl (wr.heap.size) rfl _ 23 Ksw24.out _ Tryd.underlying23 rfl 32 size_digest HY.out.size ?_))
          refine (CN.out _).mono ?_
          rintro e w25 ⟨rfl, bw25⟩
          have HBw25 := hid (Below.on HBw24.out bw25)
          have hsw25 := HBw25.out.size
          have Kxw25 := hid (Kxw24.out.below bw25)
          have Kiw25 := hid (Kiw24.out.below bw25)
          have Kdw25 := hid (Kdw24.out.below bw25)
          have Krw25 := hid (Krw24.out.below bw25)
          have KOw25 := hid (KOw24.out.below bw25)
          have Ksw25 := hid (Ksw24.out.below bw25)
          clear bw25
          go_wp2_with (
                refine wpList_store_blk rfl 23 _ _ rfl (w.heap.size) (X9.map (Value.int .u8)).toArray rfl rfl _ 23 Kxw25.out 32 size_digest HX0.out.size HX9.out.size (ints_one _ _) ?_
                intro w26 hbw26 hkw26
                have HBw26 := hid (hbw26.below HBw25.out HBw25.out.size (by omega))
                have hsw26 := HBw26.out.size
                have Kiw26 := hid (hbw26.blk Kiw25.out (by have := Kiw25.out.lt; omega))
                have Kdw26 := hid (hbw26.blk Kdw25.out (by have := Kdw25.out.lt; omega))
                have Krw26 := hid (hbw26.blk Krw25.out (by have := Krw25.out.lt; omega))
                have KOw26 := hid (hbw26.ownD2 KOw25.out (by omega))
                have Ksw26 := hid (hbw26.blk Ksw25.out (by have := Ksw25.out.lt; omega))
                have Kxw26 := hid hkw26
                clear hbw26 hkw26)
          exact ⟨⟨k + 1, by omega, by first | rfl | simp, by rw [HN.out]; first | rfl | (rw [show wrap64 ((q : Int) + 1) = (q : Int) + 1 by have := HK8.out; unfold wrap64; omega]; simp), by rw [HS.out, HSB.out, HS2.out]; exact Kxw26.out, Kiw26.out, Kdw26.out, Krw26.out, KOw26.out, HBw26.out⟩, by simp [intOf]; omega⟩
    · skip
      have hk7 : k = 256 := by omega
      subst hk7
      have hc0 : ¬ ((256 : Int) < 256) := by omega
      have HX0 := hid (Dg.climbK hx d i ns 256)
      generalize hX : climbK d i ns x 256 = X at *
      have HE9 := hid hX
      clear hX ho
      go_wp2_with (first
         | (refine wpList_load_blk rfl 23 _ rfl (w.heap.size) rfl _ 23 Kxwr.out _ Tryd.underlying23 rfl 32 size_digest HX0.out.size ?_)
         | (
            refine wpList_store_blk rfl 23 _ _ rfl (w.heap.size + 1 + 1 + 1) (X.map (Value.int .u8)).toArray rfl rfl _ 23 Krwr.out 32 size_digest zsize HX0.out.size (ints_one _ _) ?_
            intro w9 hb9 hk9
            have HB9 := hid (hb9.below HBwr.out HBwr.out.size (by omega))
            have HK9 := hid hk9
            clear hb9 hk9))
      exact bodyPost_ret (v := .agg (X.map (Value.int .u8)).toArray) (results_blk Tryd.results33 _ (w.heap.size + 1 + 1 + 1) rfl _ 23 HK9.out _ Tryd.underlying23 rfl 32 size_digest HX0.out.size) rfl ⟨by first | rfl | rw [HE9.out], HB9.out⟩
end Go.Proofs.YthaicocfbmpnmaaDoor
