/-
  Put together, as far as wanted: ExW ExX ExY ExZ ExZA.
-/
import Derived.Test.YtkakoiaahgchmaaDoorPX3
namespace Go.Proofs.YtkakoiaahgchmaaDoor
set_option maxRecDepth 100000
open Go.ChangeShapes Go.WideShapes Go.ChangeAt Go.RowKit
/-- The siblings, from the lowest on, with the sides. -/
def treeS (i d : List Int) (ns : List (List Int)) (k : Nat) : List StepT := (List.range k).map fun j => (sibL d ns j, decide (bitL i j = 1))
theorem treeS_succ (i d : List Int) (ns : List (List Int)) (k : Nat) : treeS i d ns (k + 1) = treeS i d ns k ++ [(sibL d ns k, decide (bitL i k = 1))] := by simp [treeS, List.range_succ]
theorem treeS_length (i d : List Int) (ns : List (List Int)) (k : Nat) : (treeS i d ns k).length = k := by simp [treeS]
theorem topF_tree (i d : List Int) (ns : List (List Int)) (x : List Int) (k : Nat) : topF x (treeS i d ns k) = climbK d i ns x k := by
  induction k with
  | zero => rfl
  | succ k ih =>
    rw [treeS_succ, topF_snoc, ih]
    show _ = stepL i k (climbK d i ns x k) (sibL d ns k)
    unfold stepL
    rcases bitL_two i k with h | h
    · rw [h]; simp
    · rw [h]; simp
theorem up_both (b : Bool) (x s : List Int) (bx bt base : Nat) (v : Value) (ts : List (List Int)) (w : World) (hX : Dg x) (hs : Dg s) (kx : Blk w bx (x.map (Value.int .u8)).toArray 23) (kt : Blk w bt #[v] 31) (ho : OwnR w [bx, bt] base v ts) (hbx : bx < base) (hbt : bt < base) (hne : bx ≠ bt) (hbase : base ≤ w.heap.size) (hl : ts.length ≤ 1000) (hgx : tabLow bx) (hgt : tabLow bt) (hgb_ : tabLow base) (tab : ShaTab w) :
    Calls Tryd.prog 63 #[.agg (s.map (Value.int .u8)).toArray, .bool b, .pointer (some ⟨bx, 0, none⟩), .pointer (some ⟨bt, 0, none⟩)] w fun e w' => e = .returned (.tuple #[]) ∧ ∃ v', Blk w' bx ((if b then nodeL s x else nodeL x s).map (Value.int .u8)).toArray 23 ∧ Blk w' bt #[v'] 31 ∧ OwnR w' [bx, bt] base v' (ts ++ [if b then nodeX s x else nodeX x s]) ∧ FlowB.ButIn (bx :: bt :: v.ownBlock.toList) w w' := by
  cases b with
  | false => exact up_l x s bx bt base v ts w hX hs kx kt ho hbx hbt hne hbase hl hgx hgt hgb_ tab
  | true => exact up_r x s bx bt base v ts w hX hs kx kt ho hbx hbt hne hbase hl hgx hgt hgb_ tab
theorem OwnR.not_dig {w : World} {S : List Nat} {base g : Nat} {v : Value} {ts : List (List Int)} {cs : Array Value} (h : OwnR w S base v ts) (k : Blk w g cs 23) : g ∉ v.ownBlock.toList := fun hm => by
  obtain ⟨xs, ⟨⟨-, ⟨rfl, -⟩ | ⟨g', cap, cur, rfl, -, hh, -⟩⟩, -⟩, -⟩ := h
  · simp [Value.ownBlock] at hm
  · have e : g = g' := by simpa [Value.ownBlock] using hm
    subst e
    have h1 : w.heap[g]? = some (.cells cur 29 (0, 0)) := hh
    have h2 : w.heap[g]? = some (.cells cs 23 (0, 0)) := k
    rw [h1] at h2
    exact absurd (Obj.cells.inj (Option.some.inj h2)).2.1 (by decide)
set_option maxHeartbeats 4000000 in
theorem treeTrail_good_true (i c d : List Int) (ad : Option Addr) (len cap : Nat) (ns : List (List Int)) (w : World) (hi : Dg i) (hc : Dg c) (hd : Dg d) (hns : DigsAt w ad len cap ns) (tab : ShaTab w) (hn : knN d 256 = len) :
    Calls Tryd.prog 10 #[.agg (i.map (Value.int .u8)).toArray, .agg (sideC true c d (.slice ad len cap)).toArray] w fun e w' => ∃ v, e = .returned v ∧ ∃ Sx base, w.heap.size ≤ base ∧ OwnR w' Sx base v ((lastX true i c) :: trailF (lastD true i c) (treeS i d ns 256)).reverse ∧ Below w.heap.size w w' := by
  have b1 := (Below.refl w.heap.size w).alloc (Nat.le_refl _) (.cells (i.map (Value.int .u8)).toArray 23 (0, 0))
  have HN := hid hns
  have CG := hid (fun (W : World) (h1 : DigsAt W ad len cap ns) (h2 : ShaTab W) => climb_good (leafE i c) i d ad len cap ns W (Dg.leafE i c) hi hd hn h1 h2)
  have HT0 := hid (Dg.climbK (Dg.leafE i c) d i ns 256)
  generalize climbK d i ns (leafE i c) 256 = T0 at CG HT0
  have b2 := b1.alloc b1.size (.cells (sideC true c d (.slice ad len cap)).toArray 28 (0, 0))
  have Ki := hid ((Blk.new (w := w) (n := w.heap.size) rfl (i.map (Value.int .u8)).toArray 23).old (.cells (sideC true c d (.slice ad len cap)).toArray 28 (0, 0)))
  have Ks := hid (Blk.new (w := (w.alloc (.cells (i.map (Value.int .u8)).toArray 23 (0, 0)))) (n := w.heap.size + 1) (by simp only [World.size_alloc]) (sideC true c d (.slice ad len cap)).toArray 28)
  have Hb := hid b2
  have hbz := b2.size
  have Hbs := hid (show w.heap.size + 1 + 1 = ((w.alloc (.cells (i.map (Value.int .u8)).toArray 23 (0, 0))).alloc (.cells (sideC true c d (.slice ad len cap)).toArray 28 (0, 0))).heap.size by simp only [World.size_alloc])
  have Htab := hid tab
  clear b1 b2 tab 
  have HI := hid hi
  have HC := hid hc
  have HDd := hid hd
  have HE0 := hid (Dg.emptyL 0)
  have cp : ((w.alloc (.cells (i.map (Value.int .u8)).toArray 23 (0, 0))).alloc (.cells (sideC true c d (.slice ad len cap)).toArray 28 (0, 0))).cell? ⟨w.heap.size + 1, 0, none⟩ = some (.bool true) := by rw [Ks.out.cell]; rfl
  go_enter Tryd.func10, Tryd.ntmps10
  go_wp2_with fail
  refine (empty_any _ (Htab.out.below Hb.out)).mono ?_
  rintro e wa ⟨rfl, b1, kg⟩
  obtain ⟨g, hg⟩ : ∃ g, g = ((w.alloc (.cells (i.map (Value.int .u8)).toArray 23 (0, 0))).alloc (.cells (sideC true c d (.slice ad len cap)).toArray 28 (0, 0))).heap.size := ⟨_, rfl⟩
  rw [← hg] at kg ⊢
  have hgl := kg.lt
  have HG := hid (dig_rng kg (empN_each 257) (show 0 < (empN 257).length by rw [empN_length]; omega))
  rw [empN_get (show 0 < 257 by omega)] at HG
  clear kg hg
  have HBwa := hid (Below.on Hb.out b1)
  have hswa := HBwa.out.size
  have Kiwa := hid (Ki.out.below b1)
  have Kswa := hid (Ks.out.below b1)
  clear b1
  go_wp2_with (first
     | (refine wpList_index_digs rfl 24 _ _ rfl Tryd.underlying24 size_digest g 0 257 257 rfl _ _ rfl 0 rfl (by omega) ?_)
     | (refine wpList_load_mid rfl 23 _ rfl g (0 + 0 * 32) rfl _ _ HG.out Tryd.underlying23 rfl (by rw [List.length_map, HE0.out.len]; exact size_digest) ?_)
     | (
      refine wpList_store_blk rfl 23 _ _ rfl (wa.heap.size + 1) ((emptyL 0).map (Value.int .u8)).toArray rfl rfl _ 23 (Blk.new (w := (wa.alloc (.cells #[.int .u8 2] 5 (0, 0)))) (n := wa.heap.size + 1) (by simp only [World.size_alloc]) (byteCells 32 []) 23) 32 size_digest zsize HE0.out.size (ints_one _ _) ?_
      intro w2 hb2 hk2
      have hb2b := hb2.below (((Below.refl wa.heap.size wa).alloc (Nat.le_refl _) (.cells #[.int .u8 2] 5 (0, 0))).alloc (by simp only [World.size_alloc]; omega) (.cells (byteCells 32 []) 23 (0, 0))) (by simp only [World.size_alloc]; omega) (by omega)
      have HBw2 := hid (Below.on HBwa.out hb2b)
      have hsw2 := HBw2.out.size
      have hs12 : wa.heap.size + 1 + 1 ≤ w2.heap.size := by have := hb2.size; simp only [World.size_alloc] at this; omega
      have Kiw2 := hid (Kiwa.out.below hb2b)
      have Ksw2 := hid (Kswa.out.below hb2b)
      have Ktw2 := hid (hb2.blk ((Blk.new (w := wa) (n := wa.heap.size) rfl #[.int .u8 2] 5).old (.cells (byteCells 32 []) 23 (0, 0))) (by omega))
      have Kxw2 := hid hk2
      have hw1l : w.heap.size + 1 < wa.heap.size := Kswa.out.lt
      have cp2 : w2.cell? ⟨w.heap.size + 1, 0, none⟩ = some (.bool true) := by rw [Ksw2.out.cell]; rfl
      clear hb2 hk2 hb2b)
     | (refine wpList_load_blk rfl 23 _ rfl (w.heap.size) rfl _ 23 Kiw2.out _ Tryd.underlying23 rfl 32 size_digest hi.size ?_)
     | (refine wpList_load_mid rfl 23 _ rfl (w.heap.size + 1) 1 rfl _ _ (sideC_com Ksw2.out) Tryd.underlying23 rfl (by rw [List.length_map, hc.len]; exact size_digest) ?_)
     | (refine wpList_buildv rfl 64 _ rfl [(0, (.agg (i.map (Value.int .u8)).toArray)), (1, (.agg (c.map (Value.int .u8)).toArray))] rfl _ (run_build_ent hi hc) ?_))
  have HLf := hid (Dg.leafE i c)
  refine (leaf_any i c _ hi hc (Htab.out.below HBw2.out)).mono ?_
  rintro e w3 ⟨rfl, bw3⟩
  have HBw3 := hid (Below.on HBw2.out bw3)
  have hsw3 := HBw3.out.size
  have Kiw3 := hid (Kiw2.out.below bw3)
  have Ksw3 := hid (Ksw2.out.below bw3)
  have Ktw3 := hid (Ktw2.out.below bw3)
  have Kxw3 := hid (Kxw2.out.below bw3)
  clear bw3
  go_wp2_with (
        refine wpList_store_blk rfl 23 _ _ rfl (wa.heap.size + 1) ((leafE i c).map (Value.int .u8)).toArray rfl rfl _ 23 Kxw3.out 32 size_digest HE0.out.size HLf.out.size (ints_one _ _) ?_
        intro w4 hbw4 hkw4
        have HBw4 := hid (hbw4.below HBw3.out HBw3.out.size (by omega))
        have hsw4 := HBw4.out.size
        have Kiw4 := hid (hbw4.blk Kiw3.out (by have := Kiw3.out.lt; omega))
        have Ksw4 := hid (hbw4.blk Ksw3.out (by have := Ksw3.out.lt; omega))
        have Ktw4 := hid (hbw4.blk Ktw3.out (by have := Ktw3.out.lt; omega))
        have Kxw4 := hid hkw4
        clear hbw4 hkw4)
  simp only [Act.put]
  refine wp_region_flow 5 [0, 1, 2] [3] [(.b 3, [], []), (.c 4, [], [])] (by kernel_rfl) (by kernel_rfl) ?_
  apply Exists.intro
  refine ⟨fun w0 hb0 hF0 => ?_, ?_⟩
  · skip
    simp only [pick, List.getElem?_toArray, List.getElem?_cons_succ, List.getElem?_cons_zero, Option.toList_some, List.cons_append, List.nil_append]
    repeat (first | go_big_quiet_step (fail))
    exact wpQuiet_nil rfl
  refine AlChk.one rfl (fun b => .slice (some ⟨b, 0, none⟩) 2 2) (.cells #[.slice (some ⟨w.heap.size, 0, none⟩) 32 32, .slice (some ⟨w.heap.size + 1, 1, none⟩) 32 32] 29 (0, 0)) rfl (fun w3 hb3 hF3 => by go_simp) ?_
  refine AlChk.nil ?_
  refine Walk.blk rfl (fun b => .slice (some ⟨b, 0, none⟩) 2 2) (.cells #[.slice (some ⟨w.heap.size, 0, none⟩) 32 32, .slice (some ⟨w.heap.size + 1, 1, none⟩) 32 32] 29 (0, 0)) (by simp) ?_
  intro b9 wz hbz_ hFz hge9 _
  apply Exists.intro
  refine ⟨fun w4 hb4 hF4 => wpQuiet_nil rfl, ?_⟩
  refine AlChk.nil ?_
  refine Walk.call rfl 34 #[.int .u8 0, .slice (some ⟨b9, 0, none⟩) 2 2] (TextV (0 :: (i ++ c))) (fun v w' w'' h k => h.below k) rfl (fun w1 hb1 hF1 => ⟨by go_simp, ?_⟩) ?_
  · have k9 : Blk w1 b9 #[.slice (some ⟨w.heap.size, 0, none⟩) 32 32, .slice (some ⟨w.heap.size + 1, 1, none⟩) 32 32] 29 := hF1.2
    have ki := Kiw4.out.below hb1
    have ks := Ksw4.out.below hb1
    have kc := sideC_com ks
    have hs := joined_any 0 (some ⟨b9, 0, none⟩) 2 2 [i, c] w1 (by omega) (TextsAt.of_blk k9 rfl (Nat.le_refl _) (by omega) fun j hj => by
      match j, hj with
      | 0, _ => exact ⟨_, _, _, rfl, HI.out.text ki⟩
      | 1, _ => exact ⟨_, _, _, rfl, TextAt.of_rng kc ks.lt HC.out.len (by omega) HC.out.small⟩) (by simp only [sumLen, List.map_cons, List.map_nil, List.sum_cons, List.sum_nil, HI.out.len, HC.out.len]; omega)
    refine hs.mono ?_
    rintro e w' ⟨v', rfl, b', ho'⟩
    rw [show ([0] : List Int) ++ ([i, c] : List (List Int)).flatten = 0 :: (i ++ c) by simp] at ho'
    obtain ⟨ta, tc, rfl, q1, -⟩ := ho'.text2
    exact ⟨_, rfl, b', ta, _, tc, rfl, q1⟩
  rintro v1 w1 hb1 hF1 ⟨p6, m6, q6, rfl, _⟩
  apply Exists.intro
  refine ⟨fun w0 hb0 hF0 => wpQuiet_nil rfl, ?_⟩
  refine AlChk.nil ?_
  refine Walk.fin fun w9 h9 hF9 _ => ?_
  simp only [List.drop_succ_cons, List.drop_zero]
  have HF9 := hid hF9
  have HBw9 := hid (Below.on HBw4.out h9)
  have hsw9 := HBw9.out.size
  have Kiw9 := hid (Kiw4.out.below h9)
  have Ksw9 := hid (Ksw4.out.below h9)
  have Ktw9 := hid (Ktw4.out.below h9)
  have Kxw9 := hid (Kxw4.out.below h9)
  clear h9 hF9
  go_wp2_with (first
     | (refine wpList_load_blk rfl 23 _ rfl (wa.heap.size + 1) rfl _ 23 Kxw9.out _ Tryd.underlying23 rfl 32 size_digest HLf.out.size ?_)
     | (refine wpList_load_blk rfl 23 _ rfl (w.heap.size) rfl _ 23 Kiw9.out _ Tryd.underlying23 rfl 32 size_digest hi.size ?_)
     | (refine wpList_load_mid rfl 26 _ rfl (w.heap.size + 1) 33 rfl _ _ (sideC_proof hc Ksw9.out) Tryd.underlying26 rfl (by rw [show (prC d (.slice ad len cap)).length = 33 by simp [prC, hd.len]]; exact size_proof) ?_))
  obtain ⟨at9, nt9, ct9, he9, ht9⟩ := HF9.out.2
  cases he9
  obtain ⟨tp, rfl, htp9⟩ := ht9.some_ (by rw [← ht9.length]; simp)
  have HTx := hid ht9
  have htp := htp9
  clear ht9 htp9
  refine (CG.out _ (HN.out.below HBw9.out) (Htab.out.below HBw9.out)).mono ?_
  rintro e w5 ⟨rfl, bw5⟩
  have HTxw5 := hid (HTx.out.below bw5)
  have htpw5 := Nat.lt_of_lt_of_le htp bw5.size
  have HBw5 := hid (Below.on HBw9.out bw5)
  have hsw5 := HBw5.out.size
  have Kiw5 := hid (Kiw9.out.below bw5)
  have Ksw5 := hid (Ksw9.out.below bw5)
  have Ktw5 := hid (Ktw9.out.below bw5)
  have Kxw5 := hid (Kxw9.out.below bw5)
  clear bw5
  go_wp2_with (first
     | (
        refine wpList_store_blk rfl 23 _ _ rfl (w5.heap.size) (T0.map (Value.int .u8)).toArray rfl rfl _ 23 (Blk.new rfl (byteCells 32 []) _) 32 size_digest zsize HT0.out.size (ints_one _ _) ?_
        intro w6 hbw6 hkw6
        have hw6 := hbw6.below ((Below.refl w5.heap.size w5).alloc (Nat.le_refl _) _) (by simp only [World.size_alloc]; omega) (Nat.le_refl _)
        have HBw6 := hid (Below.on HBw5.out hw6)
        have hsw6 := HBw6.out.size
        have Kiw6 := hid (Kiw5.out.below hw6)
        have hliw6 := Kiw5.out.lt
        have Ksw6 := hid (Ksw5.out.below hw6)
        have hlsw6 := Ksw5.out.lt
        have Ktw6 := hid (Ktw5.out.below hw6)
        have hltw6 := Ktw5.out.lt
        have Kxw6 := hid (Kxw5.out.below hw6)
        have hlxw6 := Kxw5.out.lt
        have Kyw6 := hid hkw6
        have hfw6 : w.heap.size ≤ w5.heap.size := HBw5.out.size
        have HTxw6 := hid (HTxw5.out.below hw6)
        have htpw6 := Nat.lt_of_lt_of_le htpw5 hw6.size
        clear hbw6 hkw6 hw6)
     | (refine wpList_load_blk rfl 23 _ rfl (wa.heap.size + 1) rfl _ 23 Kxw6.out _ Tryd.underlying23 rfl 32 size_digest HLf.out.size ?_))
  refine (climber_text (leafE i c) (tp) m6 q6 (0 :: (i ++ c)) w6 HTxw6.out htpw6).mono ?_
  rintro e wc ⟨a1, c1, rfl, kx, kt, ho, b1⟩
  obtain ⟨bx, hbx⟩ : ∃ b, b = w6.heap.size := ⟨_, rfl⟩
  obtain ⟨bt, hbt⟩ : ∃ b, b = w6.heap.size + 1 := ⟨_, rfl⟩
  obtain ⟨base, hbase⟩ : ∃ b, b = w6.heap.size + 1 + 1 := ⟨_, rfl⟩
  rw [← hbt, ← hbx]
  rw [← hbase, ← hbt, ← hbx] at ho
  rw [← hbx] at kx
  rw [← hbt] at kt
  have hlt0 : w.heap.size ≤ bx := by have := HBw6.out.size; omega
  have hlt2 : bx < bt := by omega
  have hlt3 : bt < base := by omega
  have hb1 : base ≤ wc.heap.size := by have := kt.lt; omega
  have hlsx : w.heap.size + 1 < bx := by have := Ksw6.out.lt; omega
  clear hbx hbt hbase
  have HBwc := hid (Below.on HBw6.out b1)
  have Kiwc := hid (Kiw6.out.below b1)
  have Kswc := hid (Ksw6.out.below b1)
  have Kx1 := hid kx
  have Kt1 := hid kt
  have HO1 := hid ho
  have hsz1 := ho.size
  have cnn : wc.cell? ⟨w.heap.size + 1, 65, none⟩ = some (.slice ad len cap) := sideC_nodes hc hd Kswc.out
  clear kx kt ho b1
  go_wp2_with fail
  refine (empty_any _ (Htab.out.below HBwc.out)).mono ?_
  rintro e wd ⟨rfl, bd, kg2⟩
  obtain ⟨g2, hg2⟩ : ∃ b, b = wc.heap.size := ⟨_, rfl⟩
  rw [← hg2] at kg2 ⊢
  have hcut : ∀ W' : World, (Instr.slice 24 (.slice (some ⟨g2, 0, none⟩) 257 257) none (some (.int .i64 256)) none).run Tryd.prog W' = .ok (.slice (some ⟨g2, 0, none⟩) 256 257) W' := fun W' => by
    have h := run_cutd_h (P := Tryd.prog) Tryd.underlying24 size_digest (some ⟨g2, 0, none⟩) 257 257 256 W' (by omega) (by omega)
    simpa using h
  have HBwd := hid (Below.on HBwc.out bd)
  have Kiwd := hid (Kiwc.out.below bd)
  have Kswd := hid (Kswc.out.below bd)
  have Kxwd := hid (Kx1.out.below bd)
  have Ktwd := hid (Kt1.out.below bd)
  have HOwd := hid (HO1.out.below bd)
  have Kgwd := hid kg2
  have hgg : base ≤ g2 := by omega
  have hg3 : base ≤ wd.heap.size := Nat.le_trans hb1 bd.size
  have hgt0 : tabLow w.heap.size := ⟨Htab.out.lt, Htab.out.lt0⟩
  clear bd kg2 hg2 cnn
  go_wp2_with fail
  go_loopw [11, 52] (fun rv iv wr => ∃ (k : Nat) (ra : Option Addr), k ≤ 256 ∧ iv = .int .i64 k ∧ rv = .slice ra (len - knN d k) (cap - knN d k) ∧ DigsAt w ra (len - knN d k) (cap - knN d k) (ns.drop (knN d k)) ∧ Blk wr bx ((topF (leafE i c) (treeS i d ns k)).map (Value.int .u8)).toArray 23 ∧ (∃ v, Blk wr bt #[v] 31 ∧ OwnR wr [bx, bt] base v ([(0 :: (i ++ c))] ++ trailF (leafE i c) (treeS i d ns k))) ∧ base ≤ wr.heap.size ∧ Blk wr g2 (dcs (empN 257)) 23 ∧ Blk wr w.heap.size (i.map (Value.int .u8)).toArray 23 ∧ Blk wr (w.heap.size + 1) (sideC true c d (.slice ad len cap)).toArray 28 ∧ Below w.heap.size w wr) (fun _ iv _ => 256 - (intOf iv).toNat)
  case atStart => exact ⟨0, ad, Nat.zero_le _, rfl, rfl, HN.out, Kxwd.out, ⟨_, Ktwd.out, HOwd.out⟩, hg3, Kgwd.out, Kiwd.out, Kswd.out, HBwd.out⟩
  case round =>
    obtain ⟨k, ra, hk, rfl, rfl, hra, kx, ⟨v, kt, ho⟩, hbw, kg, ki, ks, bel⟩ := hrel
    have HRA := hid hra
    have Kxwr := hid kx
    have Ktwr := hid kt
    have HOwr := hid ho
    have Kgwr := hid kg
    have Kiwr := hid ki
    have Kswr := hid ks
    have HBwr := hid bel
    have hswr := bel.size
    have hbxl := kx.lt
    have hbtl := kt.lt
    have hgl := kg.lt
    clear hra kx kt ho kg ki ks bel
    by_cases hcj : k < 256
    · skip
      have hcI : (k : Int) < 256 := by omega
      have HTX := hid (topF_snoc (leafE i c) (treeS i d ns k) (sibL d ns k) (decide (bitL i k = 1)))
      have HRX := hid (trailF_snoc (leafE i c) (treeS i d ns k) (sibL d ns k) (decide (bitL i k = 1)))
      have HTS := hid (treeS_succ i d ns k)
      have htl : (trailF (leafE i c) (treeS i d ns k)).length ≤ 256 := by rw [trailF_length, treeS_length]; omega
      have HXT := hid (Dg.topF (Dg.leafE i c) (treeS i d ns k))
      have HSd := hid (Dg.sibL hn HN.out (k := k) hcj)
      have HEk := hid (Dg.emptyL k)
      have HRG := hid (by have h := dig_rng Kgwr.out (empN_each 257) (j := k) (by rw [empN_length]; omega); rw [empN_get (show k < 257 by omega)] at h; exact h)
      have hsb : sibL d ns k = if knB d k then ns.getD (knN d k) [] else emptyL k := rfl
      have hkb : knB d k = decide (d.getD (k / 8) 0 / 2 ^ (k % 8) % 2 = 1) := rfl
      have hsn : knN d (k + 1) = knN d k + (if knB d k then 1 else 0) := rfl
      have hmn := knN_mono d (show k + 1 ≤ 256 by omega)
      have hxx := dg_at hd (k / 8)
      have hlen := hd.len
      generalize topF (leafE i c) (treeS i d ns k) = xk at *
      generalize trailF (leafE i c) (treeS i d ns k) = tk at *
      generalize emptyL k = ek at *
      have HXE := hid (fun (W : World) (K : Blk W (w.heap.size + 1) (sideC true c d (.slice ad len cap)).toArray 28) => show W.cell? ⟨w.heap.size + 1, 33 + k / 8, none⟩ = some (.int .u8 (d.getD (k / 8) 0)) from sideC_known hc K (k / 8) _ (by rw [List.getElem?_map, List.getD_eq_getElem?_getD, List.getElem?_eq_getElem (by omega)]; rfl))
      have hI0 : ¬ (k : Int) / 8 < 0 := by omega
      have hI1 : ¬ (32 : Int) ≤ (k : Int) / 8 := by omega
      have hI2 : ¬ (k : Int) % 8 < 0 := by omega
      generalize d.getD (k / 8) 0 = xb at *
      have h2 : 0 ≤ xb / 2 ^ (k % 8) ∧ xb / 2 ^ (k % 8) < 256 := ⟨Int.ediv_nonneg hxx.1 (Int.le_of_lt (Int.pow_pos (by omega))), Int.lt_of_le_of_lt (Int.ediv_le_self _ hxx.1) hxx.2⟩
      have hbt8 := and_one' h2
      generalize sibL d ns k = sk at *
      cases hB : knB d k with
      | false =>
        rw [hB] at hkb hsn hsb
        clear hB
        have hc1 : (bits .and .u8 (xb / 2 ^ (k % 8)) 1 == 1) = false := by
          rw [hbt8]
          have := of_decide_eq_false hkb.symm
          simpa using this
        rw [if_neg (by simp)] at hsn hsb
        generalize hq : knN d k = q at *
        have HNq := hid hsn
        have HQ := hid hq
        have HSB := hid hsb
        skip
        clear hbt8 hkb hsn hq hsb h2 hxx
        go_wp2_with (first
           | (refine wpList_index_digs rfl 24 _ _ rfl Tryd.underlying24 size_digest g2 0 256 257 rfl _ _ rfl k rfl (by omega) ?_)
           | (refine wpList_load_mid rfl 23 _ rfl g2 (0 + k * 32) rfl _ _ HRG.out Tryd.underlying23 rfl (by rw [List.length_map, HEk.out.len]; exact size_digest) ?_)
           | (
              refine wpList_store_blk rfl 23 _ _ rfl (wr.heap.size) (ek.map (Value.int .u8)).toArray rfl rfl _ 23 (Blk.new rfl (byteCells 32 []) _) 32 size_digest zsize HEk.out.size (ints_one _ _) ?_
              intro w61 hbw61 hkw61
              have hw61 := hbw61.below ((Below.refl wr.heap.size wr).alloc (Nat.le_refl _) _) (by simp only [World.size_alloc]; omega) (Nat.le_refl _)
              have HBw61 := hid (Below.on HBwr.out hw61)
              have hsw61 := HBw61.out.size
              have Kiw61 := hid (Kiwr.out.below hw61)
              have hliw61 := Kiwr.out.lt
              have Ksw61 := hid (Kswr.out.below hw61)
              have hlsw61 := Kswr.out.lt
              have Kxw61 := hid (Kxwr.out.below hw61)
              have hlxw61 := Kxwr.out.lt
              have Kgw61 := hid (Kgwr.out.below hw61)
              have hlgw61 := Kgwr.out.lt
              have Kqw61 := hid hkw61
              have hfw61 : w.heap.size ≤ wr.heap.size := HBwr.out.size
              have HPw61 := hid hw61
              have Ktw61 := hid (Ktwr.out.below hw61)
              have HOw61 := hid (HOwr.out.below hw61)
              have hbww61 : base ≤ w61.heap.size := Nat.le_trans hbw hw61.size
              have hxe := HXE.out _ Ksw61.out
              clear hbw61 hkw61 hw61))
        have hek : ek = sk := HSB.out.symm
        subst hek
        have hlen2 : ([(0 :: (i ++ c))] ++ tk).length ≤ 1000 := by rw [List.length_append]; simp; omega
        have hfm := HOw61.out.from
        have hfz := HOw61.out.size
        have hngg := HOw61.out.not_dig Kgw61.out
        have hgx : tabLow bx := ⟨by have := hgt0.1; omega, by have := hgt0.2; omega⟩
        have hgt : tabLow bt := ⟨by have := hgt0.1; omega, by have := hgt0.2; omega⟩
        have hgb : tabLow base := ⟨by have := hgt0.1; omega, by have := hgt0.2; omega⟩
        refine FlowB.wp_region_butIn (bx :: bt :: v.ownBlock.toList) (fun wz => Blk wz bx (xk.map (Value.int .u8)).toArray 23 ∧ Blk wz bt #[v] 31 ∧ OwnR wz [bx, bt] base v ([(0 :: (i ++ c))] ++ tk)) 7 [0, 1, 2, 3] [] [(.c 4, [5], []), (.c 6, [], [])] (by kernel_rfl) (by kernel_rfl) ⟨Kxw61.out, Ktw61.out, HOw61.out⟩ (fun _ _ h hb => ⟨h.1.below hb, h.2.1.below hb, h.2.2.below hb⟩) ?_
        apply Exists.intro
        refine ⟨fun w0 hb0 hF0 => ?_, ?_⟩
        · skip
          have hnS : ∀ n, n ≠ bx → n ≠ bt → (∀ g ∈ v.ownBlock.toList, n ≠ g) → n ∉ bx :: bt :: v.ownBlock.toList := fun n h1 h2 h3 hm => by
            rcases List.mem_cons.1 hm with h | hm
            · exact h1 h
            · rcases List.mem_cons.1 hm with h | hm
              · exact h2 h
              · exact h3 n hm rfl
          have x0 : ∀ w', (∃ x : Ext w0, w' = x.at_) → ∃ T, Blk w' wr.heap.size (ek.map (Value.int .u8)).toArray T := fun w' ⟨x, hx⟩ => ⟨_, hx ▸ (hb0.blk Kqw61.out (hnS _ (by omega) (by omega) (fun g hg => by have := HOwr.out.size g hg; omega))).below x.same⟩
          have x1 : ∀ w', (∃ x : Ext w0, w' = x.at_) → ∃ T, Blk w' w.heap.size (i.map (Value.int .u8)).toArray T := fun w' ⟨x, hx⟩ => ⟨_, hx ▸ (hb0.blk Kiw61.out (hnS _ (by omega) (by omega) (fun g hg => by have := hfm g hg; omega))).below x.same⟩
          simp only [pick, List.getElem?_toArray, List.getElem?_cons_succ, List.getElem?_cons_zero, Option.toList_some, List.cons_append, List.nil_append]
          repeat (first | (go_big_quiet_want; refine quiet_load_blk 23 _ rfl (wr.heap.size) rfl _ x0 _ Tryd.underlying23 rfl 32 size_digest HSd.out.size ?_; go_big_quiet_on; simp only [Act.put, List.setIfInBounds_toArray, List.set_cons_zero, List.set_cons_succ]) | (go_big_quiet_want; refine quiet_load_blk 23 _ rfl (w.heap.size) rfl _ x1 _ Tryd.underlying23 rfl 32 size_digest hi.size ?_; go_big_quiet_on; simp only [Act.put, List.setIfInBounds_toArray, List.set_cons_zero, List.set_cons_succ]) | go_big_quiet_step (fail))
          exact wpQuiet_nil rfl
        refine FlowB.AlChk.nil ?_
        refine FlowB.Walk.call rfl 37 #[.agg (i.map (Value.int .u8)).toArray, .int .i64 (k : Int)] (fun v' _ => v' = .int .i64 (bitL i k)) (fun _ wz => Blk wz bx (xk.map (Value.int .u8)).toArray 23 ∧ Blk wz bt #[v] 31 ∧ OwnR wz [bx, bt] base v ([(0 :: (i ++ c))] ++ tk)) (fun _ _ _ _ h _ => h) (fun _ _ _ h hb => ⟨h.1.below hb, h.2.1.below hb, h.2.2.below hb⟩) rfl (fun w1 hb1 hF1 hG1 => ⟨by go_simp, ?_⟩) ?_
        · refine (bit_in i k w1 hi hcj).mono ?_
          rintro e w2 ⟨rfl, b2⟩
          exact ⟨_, rfl, (FlowB.rel_butIn _).of b2, rfl, hG1.1.below b2, hG1.2.1.below b2, hG1.2.2.below b2⟩
        rintro vb w1 hb1 hF1 rfl
        apply Exists.intro
        refine ⟨fun w3 hb3 hF3 => ?_, ?_⟩
        · skip
          simp only [pick, List.getElem?_toArray, List.getElem?_cons_succ, List.getElem?_cons_zero, Option.toList_some, List.cons_append, List.nil_append, Act.put, List.setIfInBounds_toArray, List.set_cons_zero, List.set_cons_succ]
          repeat (first | go_big_quiet_step (fail))
          exact wpQuiet_nil rfl
        refine FlowB.AlChk.nil ?_
        refine FlowB.Walk.call rfl 63 #[.agg (ek.map (Value.int .u8)).toArray, .bool (decide (bitL i k = 1)), .pointer (some ⟨bx, 0, none⟩), .pointer (some ⟨bt, 0, none⟩)] (fun _ _ => True) (fun _ wz => ∃ v', Blk wz bx ((if decide (bitL i k = 1) then nodeL ek xk else nodeL xk ek).map (Value.int .u8)).toArray 23 ∧ Blk wz bt #[v'] 31 ∧ OwnR wz [bx, bt] base v' (([(0 :: (i ++ c))] ++ tk) ++ [if decide (bitL i k = 1) then nodeX ek xk else nodeX xk ek])) (fun _ _ _ _ h _ => h) (fun _ _ _ ⟨v', h1, h2, h3⟩ hb => ⟨v', h1.below hb, h2.below hb, h3.below hb⟩) rfl (fun w1 hb1 hF1 hG1 => ⟨by go_simp; rfl, ?_⟩) ?_
        · refine (up_both _ xk ek bx bt base v ([(0 :: (i ++ c))] ++ tk) w1 HXT.out HSd.out hG1.1 hG1.2.1 hG1.2.2 (by omega) (by omega) (by omega) (Nat.le_trans hbww61 hb1.size) hlen2 hgx hgt hgb (tab_butIn (Htab.out.below HBw61.out) hb1 (tab_all hgx hgt hgb hfm))).mono ?_
          rintro e w2 ⟨rfl, v', q1, q2, q3, q4⟩
          exact ⟨_, rfl, q4, trivial, v', q1, q2, q3⟩
        rintro vr w1 hb1 hF1 _
        apply Exists.intro
        refine ⟨fun w3 hb3 hF3 => wpQuiet_nil rfl, ?_⟩
        refine FlowB.AlChk.nil ?_
        refine FlowB.Walk.fin fun w6 h6 _ hG6 => ?_
        simp only [List.drop_succ_cons, List.drop_zero]
        obtain ⟨v', q1, q2, q3⟩ := hG6
        have hnT : ∀ n, n ≠ bx → n ≠ bt → n ∉ v.ownBlock.toList → n ∉ bx :: bt :: v.ownBlock.toList := fun n h1 h2 h3 hm => by
          rcases List.mem_cons.1 hm with h | hm
          · exact h1 h
          · rcases List.mem_cons.1 hm with h | hm
            · exact h2 h
            · exact h3 hm
        have HB6 := hid (h6.below HBw61.out HBw61.out.size (fun b hb => by
          rcases List.mem_cons.1 hb with h | hb
          · omega
          · rcases List.mem_cons.1 hb with h | hb
            · omega
            · have := hfm b hb; omega))
        have Kg6 := hid (h6.blk Kgw61.out (hnT _ (by omega) (by omega) hngg))
        have Ki6 := hid (h6.blk Kiw61.out (hnT _ (by omega) (by omega) (fun hm => by have := hfm _ hm; omega)))
        have Ks6 := hid (h6.blk Ksw61.out (hnT _ (by omega) (by omega) (fun hm => by have := hfm _ hm; omega)))
        have HQ1 := hid q1
        have HQ2 := hid q2
        have HQ3 := hid q3
        have hs6 := Nat.le_trans hbww61 h6.size
        clear h6 q1 q2 q3 hfm hfz hngg hnT
        go_wp2_with fail
        exact ⟨⟨k + 1, ra, by omega, by first | rfl | simp, by rw [HNq.out]; rfl, by rw [HNq.out]; exact HRA.out, by rw [HTS.out, HTX.out]; exact HQ1.out, ⟨_, HQ2.out, by rw [HTS.out, HRX.out, ← List.append_assoc]; exact HQ3.out⟩, hs6, Kg6.out, Ki6.out, Ks6.out, HB6.out⟩, by simp [intOf]; omega⟩
      | true =>
        rw [hB] at hkb hsn hsb
        clear hB
        have hc1 : (bits .and .u8 (xb / 2 ^ (k % 8)) 1 == 1) = true := by
          rw [hbt8]
          have := of_decide_eq_true hkb.symm
          simpa using this
        rw [if_pos rfl] at hsn hsb
        generalize hq : knN d k = q at *
        have HNq := hid hsn
        have HQ := hid hq
        have HSB := hid hsb
        have hql : q + 1 ≤ len := by omega
        clear hbt8 hkb hsn hq hsb h2 hxx
        obtain ⟨g7, ro, rfl, hg7, hr7⟩ := HRA.out.at_ (by omega)
        have Hr1 := hid (by have h := hr7 0 (by omega); rw [show (ns.drop q).getD 0 [] = ns.getD q [] by simp [List.getD_eq_getElem?_getD], ← HSB.out] at h; exact h)
        have HCO := hid (cut_one HRA.out hql)
        clear hr7
        go_wp2_with (first
           | (refine wpList_index_digs rfl 24 _ _ rfl Tryd.underlying24 size_digest g2 0 256 257 rfl _ _ rfl k rfl (by omega) ?_)
           | (refine wpList_load_mid rfl 23 _ rfl g2 (0 + k * 32) rfl _ _ HRG.out Tryd.underlying23 rfl (by rw [List.length_map, HEk.out.len]; exact size_digest) ?_)
           | (
              refine wpList_store_blk rfl 23 _ _ rfl (wr.heap.size) (ek.map (Value.int .u8)).toArray rfl rfl _ 23 (Blk.new rfl (byteCells 32 []) _) 32 size_digest zsize HEk.out.size (ints_one _ _) ?_
              intro w61 hbw61 hkw61
              have hw61 := hbw61.below ((Below.refl wr.heap.size wr).alloc (Nat.le_refl _) _) (by simp only [World.size_alloc]; omega) (Nat.le_refl _)
              have HBw61 := hid (Below.on HBwr.out hw61)
              have hsw61 := HBw61.out.size
              have Kiw61 := hid (Kiwr.out.below hw61)
              have hliw61 := Kiwr.out.lt
              have Ksw61 := hid (Kswr.out.below hw61)
              have hlsw61 := Kswr.out.lt
              have Kxw61 := hid (Kxwr.out.below hw61)
              have hlxw61 := Kxwr.out.lt
              have Kgw61 := hid (Kgwr.out.below hw61)
              have hlgw61 := Kgwr.out.lt
              have Kqw61 := hid hkw61
              have hfw61 : w.heap.size ≤ wr.heap.size := HBwr.out.size
              have HPw61 := hid hw61
              have Ktw61 := hid (Ktwr.out.below hw61)
              have HOw61 := hid (HOwr.out.below hw61)
              have hbww61 : base ≤ w61.heap.size := Nat.le_trans hbw hw61.size
              have hxe := HXE.out _ Ksw61.out
              clear hbw61 hkw61 hw61))
        refine FlowB.wp_region_butIn [wr.heap.size] (fun wz => Blk wz (wr.heap.size) (ek.map (Value.int .u8)).toArray 23) 6 [0, 1, 2, 3, 4] [] [(.c 5, [], [])] (by kernel_rfl) (by kernel_rfl) Kqw61.out (fun _ _ h hb => h.below hb) ?_
        apply Exists.intro
        refine ⟨fun w0 hb0 hF0 => ?_, ?_⟩
        · skip
          have yr : ∀ w', (∃ x : Ext w0, w' = x.at_) → w'.rangeAt g7 (ro + 0 * 32) (sk.map (Value.int .u8)) := fun w' ⟨x, hx⟩ => by
            rw [hx]
            exact rangeAt_below (w := w0) (fun j v hv => by
              have h1 := HBw61.out
              rw [show w0.cell? ⟨g7, ro + 0 * 32 + j, none⟩ = w.cell? ⟨g7, ro + 0 * 32 + j, none⟩ from (hb0.below HBw61.out h1.size (by intro b hb; simp only [List.mem_singleton] at hb; omega)).cell (p := ⟨g7, ro + 0 * 32 + j, none⟩) hg7]
              exact Hr1.out j v hv) (by have := hb0.size; have := HBw61.out.size; omega) x.same
          simp only [pick, List.getElem?_toArray, List.getElem?_cons_succ, List.getElem?_cons_zero, Option.toList_some, List.cons_append, List.nil_append]
          repeat (first | (go_big_quiet_want; refine quiet_index_digs 24 _ _ rfl Tryd.underlying24 size_digest g7 ro (len - q) (cap - q) rfl _ _ rfl 0 rfl (by omega) ?_; go_big_quiet_on; simp only [Act.put, List.setIfInBounds_toArray, List.set_cons_zero, List.set_cons_succ]) | (go_big_quiet_want; refine quiet_load_mid 23 _ rfl g7 (ro + 0 * 32) rfl _ yr _ Tryd.underlying23 rfl (by rw [List.length_map, HSd.out.len]; exact size_digest) ?_; go_big_quiet_on; simp only [Act.put, List.setIfInBounds_toArray, List.set_cons_zero, List.set_cons_succ]) | (go_big_quiet_want; refine quiet_cut_l _ _ rfl (some ⟨g7, ro, none⟩) (len - q) (cap - q) 1 _ rfl rfl rfl (by omega) ?_; go_big_quiet_on; simp only [Act.put, List.setIfInBounds_toArray, List.set_cons_zero, List.set_cons_succ]) | go_big_quiet_step (fail))
          exact wpQuiet_nil rfl
        refine FlowB.AlChk.nil ?_
        refine FlowB.Walk.skips rfl (fun wz => Blk wz (wr.heap.size) (sk.map (Value.int .u8)).toArray 23) (fun _ _ h hb => h.below hb) rfl (fun w1 hb1 hF1 hG1 => ?_) ?_
        · exact FlowB.store_skips 23 _ _ rfl (wr.heap.size) (sk.map (Value.int .u8)).toArray rfl rfl _ 23 hG1 32 size_digest HEk.out.size HSd.out.size (ints_one _ _) (by simp) (fun w2 h2 h3 => h3)
        intro w1 hb1 hF1
        apply Exists.intro
        refine ⟨fun w2 hb2 hF2 => wpQuiet_nil rfl, ?_⟩
        refine FlowB.AlChk.nil ?_
        refine FlowB.Walk.fin fun wq h4 _ hG4 => ?_
        simp only [List.drop_succ_cons, List.drop_zero]
        have HBwq := hid (h4.below HBw61.out HBw61.out.size (by intro b hb; simp only [List.mem_singleton] at hb; omega))
        have hswq := HBwq.out.size
        have hbwwq : base ≤ wq.heap.size := Nat.le_trans hbww61 h4.size
        have hnz : ∀ n, n < wr.heap.size → n ∉ [wr.heap.size] := fun n hn hm => by simp only [List.mem_singleton] at hm; omega
        have Kxwq := hid (h4.blk Kxw61.out (hnz _ hbxl))
        have Ktwq := hid (h4.blk Ktw61.out (hnz _ hbtl))
        have Kgwq := hid (h4.blk Kgw61.out (hnz _ hgl))
        have Kiwq := hid (h4.blk Kiw61.out (hnz _ (by omega)))
        have Kswq := hid (h4.blk Ksw61.out (hnz _ (by omega)))
        have HOwq := hid (HOwr.out.below (h4.below HPw61.out HPw61.out.size (by intro b hb; simp only [List.mem_singleton] at hb; omega)))
        have Kqwq := hid hG4
        clear h4 hG4 hb1 hF1 hnz
        go_wp2_with fail
        have hlen2 : ([(0 :: (i ++ c))] ++ tk).length ≤ 1000 := by rw [List.length_append]; simp; omega
        have hfm := HOwq.out.from
        have hfz := HOwq.out.size
        have hngg := HOwq.out.not_dig Kgwq.out
        have hgx : tabLow bx := ⟨by have := hgt0.1; omega, by have := hgt0.2; omega⟩
        have hgt : tabLow bt := ⟨by have := hgt0.1; omega, by have := hgt0.2; omega⟩
        have hgb : tabLow base := ⟨by have := hgt0.1; omega, by have := hgt0.2; omega⟩
        refine FlowB.wp_region_butIn (bx :: bt :: v.ownBlock.toList) (fun wz => Blk wz bx (xk.map (Value.int .u8)).toArray 23 ∧ Blk wz bt #[v] 31 ∧ OwnR wz [bx, bt] base v ([(0 :: (i ++ c))] ++ tk)) 7 [0, 1, 2, 3] [] [(.c 4, [5], []), (.c 6, [], [])] (by kernel_rfl) (by kernel_rfl) ⟨Kxwq.out, Ktwq.out, HOwq.out⟩ (fun _ _ h hb => ⟨h.1.below hb, h.2.1.below hb, h.2.2.below hb⟩) ?_
        apply Exists.intro
        refine ⟨fun w0 hb0 hF0 => ?_, ?_⟩
        · skip
          have hnS : ∀ n, n ≠ bx → n ≠ bt → (∀ g ∈ v.ownBlock.toList, n ≠ g) → n ∉ bx :: bt :: v.ownBlock.toList := fun n h1 h2 h3 hm => by
            rcases List.mem_cons.1 hm with h | hm
            · exact h1 h
            · rcases List.mem_cons.1 hm with h | hm
              · exact h2 h
              · exact h3 n hm rfl
          have x0 : ∀ w', (∃ x : Ext w0, w' = x.at_) → ∃ T, Blk w' wr.heap.size (sk.map (Value.int .u8)).toArray T := fun w' ⟨x, hx⟩ => ⟨_, hx ▸ (hb0.blk Kqwq.out (hnS _ (by omega) (by omega) (fun g hg => by have := HOwr.out.size g hg; omega))).below x.same⟩
          have x1 : ∀ w', (∃ x : Ext w0, w' = x.at_) → ∃ T, Blk w' w.heap.size (i.map (Value.int .u8)).toArray T := fun w' ⟨x, hx⟩ => ⟨_, hx ▸ (hb0.blk Kiwq.out (hnS _ (by omega) (by omega) (fun g hg => by have := hfm g hg; omega))).below x.same⟩
          simp only [pick, List.getElem?_toArray, List.getElem?_cons_succ, List.getElem?_cons_zero, Option.toList_some, List.cons_append, List.nil_append]
          repeat (first | (go_big_quiet_want; refine quiet_load_blk 23 _ rfl (wr.heap.size) rfl _ x0 _ Tryd.underlying23 rfl 32 size_digest HSd.out.size ?_; go_big_quiet_on; simp only [Act.put, List.setIfInBounds_toArray, List.set_cons_zero, List.set_cons_succ]) | (go_big_quiet_want; refine quiet_load_blk 23 _ rfl (w.heap.size) rfl _ x1 _ Tryd.underlying23 rfl 32 size_digest hi.size ?_; go_big_quiet_on; simp only [Act.put, List.setIfInBounds_toArray, List.set_cons_zero, List.set_cons_succ]) | go_big_quiet_step (fail))
          exact wpQuiet_nil rfl
        refine FlowB.AlChk.nil ?_
        refine FlowB.Walk.call rfl 37 #[.agg (i.map (Value.int .u8)).toArray, .int .i64 (k : Int)] (fun v' _ => v' = .int .i64 (bitL i k)) (fun _ wz => Blk wz bx (xk.map (Value.int .u8)).toArray 23 ∧ Blk wz bt #[v] 31 ∧ OwnR wz [bx, bt] base v ([(0 :: (i ++ c))] ++ tk)) (fun _ _ _ _ h _ => h) (fun _ _ _ h hb => ⟨h.1.below hb, h.2.1.below hb, h.2.2.below hb⟩) rfl (fun w1 hb1 hF1 hG1 => ⟨by go_simp, ?_⟩) ?_
        · refine (bit_in i k w1 hi hcj).mono ?_
          rintro e w2 ⟨rfl, b2⟩
          exact ⟨_, rfl, (FlowB.rel_butIn _).of b2, rfl, hG1.1.below b2, hG1.2.1.below b2, hG1.2.2.below b2⟩
        rintro vb w1 hb1 hF1 rfl
        apply Exists.intro
        refine ⟨fun w3 hb3 hF3 => ?_, ?_⟩
        · skip
          simp only [pick, List.getElem?_toArray, List.getElem?_cons_succ, List.getElem?_cons_zero, Option.toList_some, List.cons_append, List.nil_append, Act.put, List.setIfInBounds_toArray, List.set_cons_zero, List.set_cons_succ]
          repeat (first | go_big_quiet_step (fail))
          exact wpQuiet_nil rfl
        refine FlowB.AlChk.nil ?_
        refine FlowB.Walk.call rfl 63 #[.agg (sk.map (Value.int .u8)).toArray, .bool (decide (bitL i k = 1)), .pointer (some ⟨bx, 0, none⟩), .pointer (some ⟨bt, 0, none⟩)] (fun _ _ => True) (fun _ wz => ∃ v', Blk wz bx ((if decide (bitL i k = 1) then nodeL sk xk else nodeL xk sk).map (Value.int .u8)).toArray 23 ∧ Blk wz bt #[v'] 31 ∧ OwnR wz [bx, bt] base v' (([(0 :: (i ++ c))] ++ tk) ++ [if decide (bitL i k = 1) then nodeX sk xk else nodeX xk sk])) (fun _ _ _ _ h _ => h) (fun _ _ _ ⟨v', h1, h2, h3⟩ hb => ⟨v', h1.below hb, h2.below hb, h3.below hb⟩) rfl (fun w1 hb1 hF1 hG1 => ⟨by go_simp; rfl, ?_⟩) ?_
        · refine (up_both _ xk sk bx bt base v ([(0 :: (i ++ c))] ++ tk) w1 HXT.out HSd.out hG1.1 hG1.2.1 hG1.2.2 (by omega) (by omega) (by omega) (Nat.le_trans hbwwq hb1.size) hlen2 hgx hgt hgb (tab_butIn (Htab.out.below HBwq.out) hb1 (tab_all hgx hgt hgb hfm))).mono ?_
          rintro e w2 ⟨rfl, v', q1, q2, q3, q4⟩
          exact ⟨_, rfl, q4, trivial, v', q1, q2, q3⟩
        rintro vr w1 hb1 hF1 _
        apply Exists.intro
        refine ⟨fun w3 hb3 hF3 => wpQuiet_nil rfl, ?_⟩
        refine FlowB.AlChk.nil ?_
        refine FlowB.Walk.fin fun w6 h6 _ hG6 => ?_
        simp only [List.drop_succ_cons, List.drop_zero]
        obtain ⟨v', q1, q2, q3⟩ := hG6
        have hnT : ∀ n, n ≠ bx → n ≠ bt → n ∉ v.ownBlock.toList → n ∉ bx :: bt :: v.ownBlock.toList := fun n h1 h2 h3 hm => by
          rcases List.mem_cons.1 hm with h | hm
          · exact h1 h
          · rcases List.mem_cons.1 hm with h | hm
            · exact h2 h
            · exact h3 hm
        have HB6 := hid (h6.below HBwq.out HBwq.out.size (fun b hb => by
          rcases List.mem_cons.1 hb with h | hb
          · omega
          · rcases List.mem_cons.1 hb with h | hb
            · omega
            · have := hfm b hb; omega))
        have Kg6 := hid (h6.blk Kgwq.out (hnT _ (by omega) (by omega) hngg))
        have Ki6 := hid (h6.blk Kiwq.out (hnT _ (by omega) (by omega) (fun hm => by have := hfm _ hm; omega)))
        have Ks6 := hid (h6.blk Kswq.out (hnT _ (by omega) (by omega) (fun hm => by have := hfm _ hm; omega)))
        have HQ1 := hid q1
        have HQ2 := hid q2
        have HQ3 := hid q3
        have hs6 := Nat.le_trans hbwwq h6.size
        clear h6 q1 q2 q3 hfm hfz hngg hnT
        go_wp2_with fail
        exact ⟨⟨k + 1, (cutD (some ⟨g7, ro, none⟩) 1 (cap - q)), by omega, by first | rfl | simp, by rw [HNq.out, Nat.sub_add_eq, Nat.sub_add_eq], by rw [HNq.out]; exact HCO.out, by rw [HTS.out, HTX.out]; exact HQ1.out, ⟨_, HQ2.out, by rw [HTS.out, HRX.out, ← List.append_assoc]; exact HQ3.out⟩, hs6, Kg6.out, Ki6.out, Ks6.out, HB6.out⟩, by simp [intOf]; omega⟩
    · skip
      have hke : k = 256 := by omega
      have hcI : ¬ (k : Int) < 256 := by omega
      have hll : ([(0 :: (i ++ c))] ++ trailF (leafE i c) (treeS i d ns k)).length ≤ 1000 := by rw [List.length_append, trailF_length, treeS_length]; simp; omega
      rw [hke] at HOwr hll
      generalize hTT : [(0 :: (i ++ c))] ++ trailF (leafE i c) (treeS i d ns 256) = TT at *
      have HTT := hid hTT
      clear hTT
      obtain ⟨a9, c9, hv9, -⟩ := HOwr.out.texts
      subst hv9
      obtain ⟨N9, hN9⟩ : ∃ N, N = TT.length := ⟨_, rfl⟩
      rw [← hN9] at HOwr Ktwr
      have hl9 := HOwr.out.from
      clear hN9
      go_wp2_with fail
      refine (end_any bx bt base a9 N9 c9 TT _ Ktwr.out HOwr.out (by omega) hll).mono ?_
      rintro e w8 ⟨rfl, o8, r8⟩
      have HO8 := hid (r8.below HBwr.out hswr (fun b hb => by have := hl9 b hb; omega))
      have HP8 := hid o8
      clear o8 r8 hl9
      go_wp2_with fail
      go_returns
      exact ⟨.slice a9 N9 c9, rfl, [bx, bt], base, by omega, by have HR := HP8.out; rw [← HTT.out] at HR; unfold lastX lastD; simpa using HR, HO8.out⟩
set_option maxHeartbeats 4000000 in
theorem treeTrail_good_false (i c d : List Int) (ad : Option Addr) (len cap : Nat) (ns : List (List Int)) (w : World) (hi : Dg i) (hc : Dg c) (hd : Dg d) (hns : DigsAt w ad len cap ns) (tab : ShaTab w) (hn : knN d 256 = len) :
    Calls Tryd.prog 10 #[.agg (i.map (Value.int .u8)).toArray, .agg (sideC false c d (.slice ad len cap)).toArray] w fun e w' => ∃ v, e = .returned v ∧ ∃ Sx base, w.heap.size ≤ base ∧ OwnR w' Sx base v ((lastX false i c) :: trailF (lastD false i c) (treeS i d ns 256)).reverse ∧ Below w.heap.size w w' := by
  have b1 := (Below.refl w.heap.size w).alloc (Nat.le_refl _) (.cells (i.map (Value.int .u8)).toArray 23 (0, 0))
  have HN := hid hns
  have CG := hid (fun (W : World) (h1 : DigsAt W ad len cap ns) (h2 : ShaTab W) => climb_good (emptyL 0) i d ad len cap ns W (Dg.emptyL 0) hi hd hn h1 h2)
  have HT0 := hid (Dg.climbK (Dg.emptyL 0) d i ns 256)
  generalize climbK d i ns (emptyL 0) 256 = T0 at CG HT0
  have b2 := b1.alloc b1.size (.cells (sideC false c d (.slice ad len cap)).toArray 28 (0, 0))
  have Ki := hid ((Blk.new (w := w) (n := w.heap.size) rfl (i.map (Value.int .u8)).toArray 23).old (.cells (sideC false c d (.slice ad len cap)).toArray 28 (0, 0)))
  have Ks := hid (Blk.new (w := (w.alloc (.cells (i.map (Value.int .u8)).toArray 23 (0, 0)))) (n := w.heap.size + 1) (by simp only [World.size_alloc]) (sideC false c d (.slice ad len cap)).toArray 28)
  have Hb := hid b2
  have hbz := b2.size
  have Hbs := hid (show w.heap.size + 1 + 1 = ((w.alloc (.cells (i.map (Value.int .u8)).toArray 23 (0, 0))).alloc (.cells (sideC false c d (.slice ad len cap)).toArray 28 (0, 0))).heap.size by simp only [World.size_alloc])
  have Htab := hid tab
  clear b1 b2 tab 
  have HI := hid hi
  have HC := hid hc
  have HDd := hid hd
  have HE0 := hid (Dg.emptyL 0)
  have cp : ((w.alloc (.cells (i.map (Value.int .u8)).toArray 23 (0, 0))).alloc (.cells (sideC false c d (.slice ad len cap)).toArray 28 (0, 0))).cell? ⟨w.heap.size + 1, 0, none⟩ = some (.bool false) := by rw [Ks.out.cell]; rfl
  go_enter Tryd.func10, Tryd.ntmps10
  go_wp2_with fail
  refine (empty_any _ (Htab.out.below Hb.out)).mono ?_
  rintro e wa ⟨rfl, b1, kg⟩
  obtain ⟨g, hg⟩ : ∃ g, g = ((w.alloc (.cells (i.map (Value.int .u8)).toArray 23 (0, 0))).alloc (.cells (sideC false c d (.slice ad len cap)).toArray 28 (0, 0))).heap.size := ⟨_, rfl⟩
  rw [← hg] at kg ⊢
  have hgl := kg.lt
  have HG := hid (dig_rng kg (empN_each 257) (show 0 < (empN 257).length by rw [empN_length]; omega))
  rw [empN_get (show 0 < 257 by omega)] at HG
  clear kg hg
  have HBwa := hid (Below.on Hb.out b1)
  have hswa := HBwa.out.size
  have Kiwa := hid (Ki.out.below b1)
  have Kswa := hid (Ks.out.below b1)
  clear b1
  go_wp2_with (first
     | (refine wpList_index_digs rfl 24 _ _ rfl Tryd.underlying24 size_digest g 0 257 257 rfl _ _ rfl 0 rfl (by omega) ?_)
     | (refine wpList_load_mid rfl 23 _ rfl g (0 + 0 * 32) rfl _ _ HG.out Tryd.underlying23 rfl (by rw [List.length_map, HE0.out.len]; exact size_digest) ?_)
     | (
      refine wpList_store_blk rfl 23 _ _ rfl (wa.heap.size + 1) ((emptyL 0).map (Value.int .u8)).toArray rfl rfl _ 23 (Blk.new (w := (wa.alloc (.cells #[.int .u8 2] 5 (0, 0)))) (n := wa.heap.size + 1) (by simp only [World.size_alloc]) (byteCells 32 []) 23) 32 size_digest zsize HE0.out.size (ints_one _ _) ?_
      intro w2 hb2 hk2
      have hb2b := hb2.below (((Below.refl wa.heap.size wa).alloc (Nat.le_refl _) (.cells #[.int .u8 2] 5 (0, 0))).alloc (by simp only [World.size_alloc]; omega) (.cells (byteCells 32 []) 23 (0, 0))) (by simp only [World.size_alloc]; omega) (by omega)
      have HBw2 := hid (Below.on HBwa.out hb2b)
      have hsw2 := HBw2.out.size
      have hs12 : wa.heap.size + 1 + 1 ≤ w2.heap.size := by have := hb2.size; simp only [World.size_alloc] at this; omega
      have Kiw2 := hid (Kiwa.out.below hb2b)
      have Ksw2 := hid (Kswa.out.below hb2b)
      have Ktw2 := hid (hb2.blk ((Blk.new (w := wa) (n := wa.heap.size) rfl #[.int .u8 2] 5).old (.cells (byteCells 32 []) 23 (0, 0))) (by omega))
      have Kxw2 := hid hk2
      have hw1l : w.heap.size + 1 < wa.heap.size := Kswa.out.lt
      have cp2 : w2.cell? ⟨w.heap.size + 1, 0, none⟩ = some (.bool false) := by rw [Ksw2.out.cell]; rfl
      clear hb2 hk2 hb2b)
     | (refine wpList_load_blk rfl 23 _ rfl (wa.heap.size + 1) rfl _ 23 Kxw2.out _ Tryd.underlying23 rfl 32 size_digest HE0.out.size ?_)
     | (refine wpList_load_blk rfl 23 _ rfl (w.heap.size) rfl _ 23 Kiw2.out _ Tryd.underlying23 rfl 32 size_digest hi.size ?_)
     | (refine wpList_load_mid rfl 26 _ rfl (w.heap.size + 1) 33 rfl _ _ (sideC_proof hc Ksw2.out) Tryd.underlying26 rfl (by rw [show (prC d (.slice ad len cap)).length = 33 by simp [prC, hd.len]]; exact size_proof) ?_))
  have HTx := hid (TextAt.of_ints (n := 1) (bs := [2]) Ktw2.out rfl (by omega) (by simp))
  have htp := Ktw2.out.lt
  refine (CG.out _ (HN.out.below HBw2.out) (Htab.out.below HBw2.out)).mono ?_
  rintro e w3 ⟨rfl, bw3⟩
  have HTxw3 := hid (HTx.out.below bw3)
  have htpw3 := Nat.lt_of_lt_of_le htp bw3.size
  have HBw3 := hid (Below.on HBw2.out bw3)
  have hsw3 := HBw3.out.size
  have Kiw3 := hid (Kiw2.out.below bw3)
  have Ksw3 := hid (Ksw2.out.below bw3)
  have Ktw3 := hid (Ktw2.out.below bw3)
  have Kxw3 := hid (Kxw2.out.below bw3)
  clear bw3
  go_wp2_with (first
     | (
        refine wpList_store_blk rfl 23 _ _ rfl (w3.heap.size) (T0.map (Value.int .u8)).toArray rfl rfl _ 23 (Blk.new rfl (byteCells 32 []) _) 32 size_digest zsize HT0.out.size (ints_one _ _) ?_
        intro w4 hbw4 hkw4
        have hw4 := hbw4.below ((Below.refl w3.heap.size w3).alloc (Nat.le_refl _) _) (by simp only [World.size_alloc]; omega) (Nat.le_refl _)
        have HBw4 := hid (Below.on HBw3.out hw4)
        have hsw4 := HBw4.out.size
        have Kiw4 := hid (Kiw3.out.below hw4)
        have hliw4 := Kiw3.out.lt
        have Ksw4 := hid (Ksw3.out.below hw4)
        have hlsw4 := Ksw3.out.lt
        have Ktw4 := hid (Ktw3.out.below hw4)
        have hltw4 := Ktw3.out.lt
        have Kxw4 := hid (Kxw3.out.below hw4)
        have hlxw4 := Kxw3.out.lt
        have Kyw4 := hid hkw4
        have hfw4 : w.heap.size ≤ w3.heap.size := HBw3.out.size
        have HTxw4 := hid (HTxw3.out.below hw4)
        have htpw4 := Nat.lt_of_lt_of_le htpw3 hw4.size
        clear hbw4 hkw4 hw4)
     | (refine wpList_load_blk rfl 23 _ rfl (wa.heap.size + 1) rfl _ 23 Kxw4.out _ Tryd.underlying23 rfl 32 size_digest HE0.out.size ?_))
  refine (climber_text (emptyL 0) (⟨wa.heap.size, 0, none⟩) 1 1 [2] w4 HTxw4.out htpw4).mono ?_
  rintro e wc ⟨a1, c1, rfl, kx, kt, ho, b1⟩
  obtain ⟨bx, hbx⟩ : ∃ b, b = w4.heap.size := ⟨_, rfl⟩
  obtain ⟨bt, hbt⟩ : ∃ b, b = w4.heap.size + 1 := ⟨_, rfl⟩
  obtain ⟨base, hbase⟩ : ∃ b, b = w4.heap.size + 1 + 1 := ⟨_, rfl⟩
  rw [← hbt, ← hbx]
  rw [← hbase, ← hbt, ← hbx] at ho
  rw [← hbx] at kx
  rw [← hbt] at kt
  have hlt0 : w.heap.size ≤ bx := by have := HBw4.out.size; omega
  have hlt2 : bx < bt := by omega
  have hlt3 : bt < base := by omega
  have hb1 : base ≤ wc.heap.size := by have := kt.lt; omega
  have hlsx : w.heap.size + 1 < bx := by have := Ksw4.out.lt; omega
  clear hbx hbt hbase
  have HBwc := hid (Below.on HBw4.out b1)
  have Kiwc := hid (Kiw4.out.below b1)
  have Kswc := hid (Ksw4.out.below b1)
  have Kx1 := hid kx
  have Kt1 := hid kt
  have HO1 := hid ho
  have hsz1 := ho.size
  have cnn : wc.cell? ⟨w.heap.size + 1, 65, none⟩ = some (.slice ad len cap) := sideC_nodes hc hd Kswc.out
  clear kx kt ho b1
  go_wp2_with fail
  refine (empty_any _ (Htab.out.below HBwc.out)).mono ?_
  rintro e wd ⟨rfl, bd, kg2⟩
  obtain ⟨g2, hg2⟩ : ∃ b, b = wc.heap.size := ⟨_, rfl⟩
  rw [← hg2] at kg2 ⊢
  have hcut : ∀ W' : World, (Instr.slice 24 (.slice (some ⟨g2, 0, none⟩) 257 257) none (some (.int .i64 256)) none).run Tryd.prog W' = .ok (.slice (some ⟨g2, 0, none⟩) 256 257) W' := fun W' => by
    have h := run_cutd_h (P := Tryd.prog) Tryd.underlying24 size_digest (some ⟨g2, 0, none⟩) 257 257 256 W' (by omega) (by omega)
    simpa using h
  have HBwd := hid (Below.on HBwc.out bd)
  have Kiwd := hid (Kiwc.out.below bd)
  have Kswd := hid (Kswc.out.below bd)
  have Kxwd := hid (Kx1.out.below bd)
  have Ktwd := hid (Kt1.out.below bd)
  have HOwd := hid (HO1.out.below bd)
  have Kgwd := hid kg2
  have hgg : base ≤ g2 := by omega
  have hg3 : base ≤ wd.heap.size := Nat.le_trans hb1 bd.size
  have hgt0 : tabLow w.heap.size := ⟨Htab.out.lt, Htab.out.lt0⟩
  clear bd kg2 hg2 cnn
  go_wp2_with fail
  go_loopw [11, 52] (fun rv iv wr => ∃ (k : Nat) (ra : Option Addr), k ≤ 256 ∧ iv = .int .i64 k ∧ rv = .slice ra (len - knN d k) (cap - knN d k) ∧ DigsAt w ra (len - knN d k) (cap - knN d k) (ns.drop (knN d k)) ∧ Blk wr bx ((topF (emptyL 0) (treeS i d ns k)).map (Value.int .u8)).toArray 23 ∧ (∃ v, Blk wr bt #[v] 31 ∧ OwnR wr [bx, bt] base v ([[2]] ++ trailF (emptyL 0) (treeS i d ns k))) ∧ base ≤ wr.heap.size ∧ Blk wr g2 (dcs (empN 257)) 23 ∧ Blk wr w.heap.size (i.map (Value.int .u8)).toArray 23 ∧ Blk wr (w.heap.size + 1) (sideC false c d (.slice ad len cap)).toArray 28 ∧ Below w.heap.size w wr) (fun _ iv _ => 256 - (intOf iv).toNat)
  case atStart => exact ⟨0, ad, Nat.zero_le _, rfl, rfl, HN.out, Kxwd.out, ⟨_, Ktwd.out, HOwd.out⟩, hg3, Kgwd.out, Kiwd.out, Kswd.out, HBwd.out⟩
  case round =>
    obtain ⟨k, ra, hk, rfl, rfl, hra, kx, ⟨v, kt, ho⟩, hbw, kg, ki, ks, bel⟩ := hrel
    have HRA := hid hra
    have Kxwr := hid kx
    have Ktwr := hid kt
    have HOwr := hid ho
    have Kgwr := hid kg
    have Kiwr := hid ki
    have Kswr := hid ks
    have HBwr := hid bel
    have hswr := bel.size
    have hbxl := kx.lt
    have hbtl := kt.lt
    have hgl := kg.lt
    clear hra kx kt ho kg ki ks bel
    by_cases hcj : k < 256
    · skip
      have hcI : (k : Int) < 256 := by omega
      have HTX := hid (topF_snoc (emptyL 0) (treeS i d ns k) (sibL d ns k) (decide (bitL i k = 1)))
      have HRX := hid (trailF_snoc (emptyL 0) (treeS i d ns k) (sibL d ns k) (decide (bitL i k = 1)))
      have HTS := hid (treeS_succ i d ns k)
      have htl : (trailF (emptyL 0) (treeS i d ns k)).length ≤ 256 := by rw [trailF_length, treeS_length]; omega
      have HXT := hid (Dg.topF (Dg.emptyL 0) (treeS i d ns k))
      have HSd := hid (Dg.sibL hn HN.out (k := k) hcj)
      have HEk := hid (Dg.emptyL k)
      have HRG := hid (by have h := dig_rng Kgwr.out (empN_each 257) (j := k) (by rw [empN_length]; omega); rw [empN_get (show k < 257 by omega)] at h; exact h)
      have hsb : sibL d ns k = if knB d k then ns.getD (knN d k) [] else emptyL k := rfl
      have hkb : knB d k = decide (d.getD (k / 8) 0 / 2 ^ (k % 8) % 2 = 1) := rfl
      have hsn : knN d (k + 1) = knN d k + (if knB d k then 1 else 0) := rfl
      have hmn := knN_mono d (show k + 1 ≤ 256 by omega)
      have hxx := dg_at hd (k / 8)
      have hlen := hd.len
      generalize topF (emptyL 0) (treeS i d ns k) = xk at *
      generalize trailF (emptyL 0) (treeS i d ns k) = tk at *
      generalize emptyL k = ek at *
      have HXE := hid (fun (W : World) (K : Blk W (w.heap.size + 1) (sideC false c d (.slice ad len cap)).toArray 28) => show W.cell? ⟨w.heap.size + 1, 33 + k / 8, none⟩ = some (.int .u8 (d.getD (k / 8) 0)) from sideC_known hc K (k / 8) _ (by rw [List.getElem?_map, List.getD_eq_getElem?_getD, List.getElem?_eq_getElem (by omega)]; rfl))
      have hI0 : ¬ (k : Int) / 8 < 0 := by omega
      have hI1 : ¬ (32 : Int) ≤ (k : Int) / 8 := by omega
      have hI2 : ¬ (k : Int) % 8 < 0 := by omega
      generalize d.getD (k / 8) 0 = xb at *
      have h2 : 0 ≤ xb / 2 ^ (k % 8) ∧ xb / 2 ^ (k % 8) < 256 := ⟨Int.ediv_nonneg hxx.1 (Int.le_of_lt (Int.pow_pos (by omega))), Int.lt_of_le_of_lt (Int.ediv_le_self _ hxx.1) hxx.2⟩
      have hbt8 := and_one' h2
      generalize sibL d ns k = sk at *
      cases hB : knB d k with
      | false =>
        rw [hB] at hkb hsn hsb
        clear hB
        have hc1 : (bits .and .u8 (xb / 2 ^ (k % 8)) 1 == 1) = false := by
          rw [hbt8]
          have := of_decide_eq_false hkb.symm
          simpa using this
        rw [if_neg (by simp)] at hsn hsb
        generalize hq : knN d k = q at *
        have HNq := hid hsn
        have HQ := hid hq
        have HSB := hid hsb
        skip
        clear hbt8 hkb hsn hq hsb h2 hxx
        go_wp2_with (first
           | (refine wpList_index_digs rfl 24 _ _ rfl Tryd.underlying24 size_digest g2 0 256 257 rfl _ _ rfl k rfl (by omega) ?_)
           | (refine wpList_load_mid rfl 23 _ rfl g2 (0 + k * 32) rfl _ _ HRG.out Tryd.underlying23 rfl (by rw [List.length_map, HEk.out.len]; exact size_digest) ?_)
           | (
              refine wpList_store_blk rfl 23 _ _ rfl (wr.heap.size) (ek.map (Value.int .u8)).toArray rfl rfl _ 23 (Blk.new rfl (byteCells 32 []) _) 32 size_digest zsize HEk.out.size (ints_one _ _) ?_
              intro w61 hbw61 hkw61
              have hw61 := hbw61.below ((Below.refl wr.heap.size wr).alloc (Nat.le_refl _) _) (by simp only [World.size_alloc]; omega) (Nat.le_refl _)
              have HBw61 := hid (Below.on HBwr.out hw61)
              have hsw61 := HBw61.out.size
              have Kiw61 := hid (Kiwr.out.below hw61)
              have hliw61 := Kiwr.out.lt
              have Ksw61 := hid (Kswr.out.below hw61)
              have hlsw61 := Kswr.out.lt
              have Kxw61 := hid (Kxwr.out.below hw61)
              have hlxw61 := Kxwr.out.lt
              have Kgw61 := hid (Kgwr.out.below hw61)
              have hlgw61 := Kgwr.out.lt
              have Kqw61 := hid hkw61
              have hfw61 : w.heap.size ≤ wr.heap.size := HBwr.out.size
              have HPw61 := hid hw61
              have Ktw61 := hid (Ktwr.out.below hw61)
              have HOw61 := hid (HOwr.out.below hw61)
              have hbww61 : base ≤ w61.heap.size := Nat.le_trans hbw hw61.size
              have hxe := HXE.out _ Ksw61.out
              clear hbw61 hkw61 hw61))
        have hek : ek = sk := HSB.out.symm
        subst hek
        have hlen2 : ([[2]] ++ tk).length ≤ 1000 := by rw [List.length_append]; simp; omega
        have hfm := HOw61.out.from
        have hfz := HOw61.out.size
        have hngg := HOw61.out.not_dig Kgw61.out
        have hgx : tabLow bx := ⟨by have := hgt0.1; omega, by have := hgt0.2; omega⟩
        have hgt : tabLow bt := ⟨by have := hgt0.1; omega, by have := hgt0.2; omega⟩
        have hgb : tabLow base := ⟨by have := hgt0.1; omega, by have := hgt0.2; omega⟩
        refine FlowB.wp_region_butIn (bx :: bt :: v.ownBlock.toList) (fun wz => Blk wz bx (xk.map (Value.int .u8)).toArray 23 ∧ Blk wz bt #[v] 31 ∧ OwnR wz [bx, bt] base v ([[2]] ++ tk)) 7 [0, 1, 2, 3] [] [(.c 4, [5], []), (.c 6, [], [])] (by kernel_rfl) (by kernel_rfl) ⟨Kxw61.out, Ktw61.out, HOw61.out⟩ (fun _ _ h hb => ⟨h.1.below hb, h.2.1.below hb, h.2.2.below hb⟩) ?_
        apply Exists.intro
        refine ⟨fun w0 hb0 hF0 => ?_, ?_⟩
        · skip
          have hnS : ∀ n, n ≠ bx → n ≠ bt → (∀ g ∈ v.ownBlock.toList, n ≠ g) → n ∉ bx :: bt :: v.ownBlock.toList := fun n h1 h2 h3 hm => by
            rcases List.mem_cons.1 hm with h | hm
            · exact h1 h
            · rcases List.mem_cons.1 hm with h | hm
              · exact h2 h
              · exact h3 n hm rfl
          have x0 : ∀ w', (∃ x : Ext w0, w' = x.at_) → ∃ T, Blk w' wr.heap.size (ek.map (Value.int .u8)).toArray T := fun w' ⟨x, hx⟩ => ⟨_, hx ▸ (hb0.blk Kqw61.out (hnS _ (by omega) (by omega) (fun g hg => by have := HOwr.out.size g hg; omega))).below x.same⟩
          have x1 : ∀ w', (∃ x : Ext w0, w' = x.at_) → ∃ T, Blk w' w.heap.size (i.map (Value.int .u8)).toArray T := fun w' ⟨x, hx⟩ => ⟨_, hx ▸ (hb0.blk Kiw61.out (hnS _ (by omega) (by omega) (fun g hg => by have := hfm g hg; omega))).below x.same⟩
          simp only [pick, List.getElem?_toArray, List.getElem?_cons_succ, List.getElem?_cons_zero, Option.toList_some, List.cons_append, List.nil_append]
          repeat (first | (go_big_quiet_want; refine quiet_load_blk 23 _ rfl (wr.heap.size) rfl _ x0 _ Tryd.underlying23 rfl 32 size_digest HSd.out.size ?_; go_big_quiet_on; simp only [Act.put, List.setIfInBounds_toArray, List.set_cons_zero, List.set_cons_succ]) | (go_big_quiet_want; refine quiet_load_blk 23 _ rfl (w.heap.size) rfl _ x1 _ Tryd.underlying23 rfl 32 size_digest hi.size ?_; go_big_quiet_on; simp only [Act.put, List.setIfInBounds_toArray, List.set_cons_zero, List.set_cons_succ]) | go_big_quiet_step (fail))
          exact wpQuiet_nil rfl
        refine FlowB.AlChk.nil ?_
        refine FlowB.Walk.call rfl 37 #[.agg (i.map (Value.int .u8)).toArray, .int .i64 (k : Int)] (fun v' _ => v' = .int .i64 (bitL i k)) (fun _ wz => Blk wz bx (xk.map (Value.int .u8)).toArray 23 ∧ Blk wz bt #[v] 31 ∧ OwnR wz [bx, bt] base v ([[2]] ++ tk)) (fun _ _ _ _ h _ => h) (fun _ _ _ h hb => ⟨h.1.below hb, h.2.1.below hb, h.2.2.below hb⟩) rfl (fun w1 hb1 hF1 hG1 => ⟨by go_simp, ?_⟩) ?_
        · refine (bit_in i k w1 hi hcj).mono ?_
          rintro e w2 ⟨rfl, b2⟩
          exact ⟨_, rfl, (FlowB.rel_butIn _).of b2, rfl, hG1.1.below b2, hG1.2.1.below b2, hG1.2.2.below b2⟩
        rintro vb w1 hb1 hF1 rfl
        apply Exists.intro
        refine ⟨fun w3 hb3 hF3 => ?_, ?_⟩
        · skip
          simp only [pick, List.getElem?_toArray, List.getElem?_cons_succ, List.getElem?_cons_zero, Option.toList_some, List.cons_append, List.nil_append, Act.put, List.setIfInBounds_toArray, List.set_cons_zero, List.set_cons_succ]
          repeat (first | go_big_quiet_step (fail))
          exact wpQuiet_nil rfl
        refine FlowB.AlChk.nil ?_
        refine FlowB.Walk.call rfl 63 #[.agg (ek.map (Value.int .u8)).toArray, .bool (decide (bitL i k = 1)), .pointer (some ⟨bx, 0, none⟩), .pointer (some ⟨bt, 0, none⟩)] (fun _ _ => True) (fun _ wz => ∃ v', Blk wz bx ((if decide (bitL i k = 1) then nodeL ek xk else nodeL xk ek).map (Value.int .u8)).toArray 23 ∧ Blk wz bt #[v'] 31 ∧ OwnR wz [bx, bt] base v' (([[2]] ++ tk) ++ [if decide (bitL i k = 1) then nodeX ek xk else nodeX xk ek])) (fun _ _ _ _ h _ => h) (fun _ _ _ ⟨v', h1, h2, h3⟩ hb => ⟨v', h1.below hb, h2.below hb, h3.below hb⟩) rfl (fun w1 hb1 hF1 hG1 => ⟨by go_simp; rfl, ?_⟩) ?_
        · refine (up_both _ xk ek bx bt base v ([[2]] ++ tk) w1 HXT.out HSd.out hG1.1 hG1.2.1 hG1.2.2 (by omega) (by omega) (by omega) (Nat.le_trans hbww61 hb1.size) hlen2 hgx hgt hgb (tab_butIn (Htab.out.below HBw61.out) hb1 (tab_all hgx hgt hgb hfm))).mono ?_
          rintro e w2 ⟨rfl, v', q1, q2, q3, q4⟩
          exact ⟨_, rfl, q4, trivial, v', q1, q2, q3⟩
        rintro vr w1 hb1 hF1 _
        apply Exists.intro
        refine ⟨fun w3 hb3 hF3 => wpQuiet_nil rfl, ?_⟩
        refine FlowB.AlChk.nil ?_
        refine FlowB.Walk.fin fun w6 h6 _ hG6 => ?_
        simp only [List.drop_succ_cons, List.drop_zero]
        obtain ⟨v', q1, q2, q3⟩ := hG6
        have hnT : ∀ n, n ≠ bx → n ≠ bt → n ∉ v.ownBlock.toList → n ∉ bx :: bt :: v.ownBlock.toList := fun n h1 h2 h3 hm => by
          rcases List.mem_cons.1 hm with h | hm
          · exact h1 h
          · rcases List.mem_cons.1 hm with h | hm
            · exact h2 h
            · exact h3 hm
        have HB6 := hid (h6.below HBw61.out HBw61.out.size (fun b hb => by
          rcases List.mem_cons.1 hb with h | hb
          · omega
          · rcases List.mem_cons.1 hb with h | hb
            · omega
            · have := hfm b hb; omega))
        have Kg6 := hid (h6.blk Kgw61.out (hnT _ (by omega) (by omega) hngg))
        have Ki6 := hid (h6.blk Kiw61.out (hnT _ (by omega) (by omega) (fun hm => by have := hfm _ hm; omega)))
        have Ks6 := hid (h6.blk Ksw61.out (hnT _ (by omega) (by omega) (fun hm => by have := hfm _ hm; omega)))
        have HQ1 := hid q1
        have HQ2 := hid q2
        have HQ3 := hid q3
        have hs6 := Nat.le_trans hbww61 h6.size
        clear h6 q1 q2 q3 hfm hfz hngg hnT
        go_wp2_with fail
        exact ⟨⟨k + 1, ra, by omega, by first | rfl | simp, by rw [HNq.out]; rfl, by rw [HNq.out]; exact HRA.out, by rw [HTS.out, HTX.out]; exact HQ1.out, ⟨_, HQ2.out, by rw [HTS.out, HRX.out, ← List.append_assoc]; exact HQ3.out⟩, hs6, Kg6.out, Ki6.out, Ks6.out, HB6.out⟩, by simp [intOf]; omega⟩
      | true =>
        rw [hB] at hkb hsn hsb
        clear hB
        have hc1 : (bits .and .u8 (xb / 2 ^ (k % 8)) 1 == 1) = true := by
          rw [hbt8]
          have := of_decide_eq_true hkb.symm
          simpa using this
        rw [if_pos rfl] at hsn hsb
        generalize hq : knN d k = q at *
        have HNq := hid hsn
        have HQ := hid hq
        have HSB := hid hsb
        have hql : q + 1 ≤ len := by omega
        clear hbt8 hkb hsn hq hsb h2 hxx
        obtain ⟨g7, ro, rfl, hg7, hr7⟩ := HRA.out.at_ (by omega)
        have Hr1 := hid (by have h := hr7 0 (by omega); rw [show (ns.drop q).getD 0 [] = ns.getD q [] by simp [List.getD_eq_getElem?_getD], ← HSB.out] at h; exact h)
        have HCO := hid (cut_one HRA.out hql)
        clear hr7
        go_wp2_with (first
           | (refine wpList_index_digs rfl 24 _ _ rfl Tryd.underlying24 size_digest g2 0 256 257 rfl _ _ rfl k rfl (by omega) ?_)
           | (refine wpList_load_mid rfl 23 _ rfl g2 (0 + k * 32) rfl _ _ HRG.out Tryd.underlying23 rfl (by rw [List.length_map, HEk.out.len]; exact size_digest) ?_)
           | (
              refine wpList_store_blk rfl 23 _ _ rfl (wr.heap.size) (ek.map (Value.int .u8)).toArray rfl rfl _ 23 (Blk.new rfl (byteCells 32 []) _) 32 size_digest zsize HEk.out.size (ints_one _ _) ?_
              intro w61 hbw61 hkw61
              have hw61 := hbw61.below ((Below.refl wr.heap.size wr).alloc (Nat.le_refl _) _) (by simp only [World.size_alloc]; omega) (Nat.le_refl _)
              have HBw61 := hid (Below.on HBwr.out hw61)
              have hsw61 := HBw61.out.size
              have Kiw61 := hid (Kiwr.out.below hw61)
              have hliw61 := Kiwr.out.lt
              have Ksw61 := hid (Kswr.out.below hw61)
              have hlsw61 := Kswr.out.lt
              have Kxw61 := hid (Kxwr.out.below hw61)
              have hlxw61 := Kxwr.out.lt
              have Kgw61 := hid (Kgwr.out.below hw61)
              have hlgw61 := Kgwr.out.lt
              have Kqw61 := hid hkw61
              have hfw61 : w.heap.size ≤ wr.heap.size := HBwr.out.size
              have HPw61 := hid hw61
              have Ktw61 := hid (Ktwr.out.below hw61)
              have HOw61 := hid (HOwr.out.below hw61)
              have hbww61 : base ≤ w61.heap.size := Nat.le_trans hbw hw61.size
              have hxe := HXE.out _ Ksw61.out
              clear hbw61 hkw61 hw61))
        refine FlowB.wp_region_butIn [wr.heap.size] (fun wz => Blk wz (wr.heap.size) (ek.map (Value.int .u8)).toArray 23) 6 [0, 1, 2, 3, 4] [] [(.c 5, [], [])] (by kernel_rfl) (by kernel_rfl) Kqw61.out (fun _ _ h hb => h.below hb) ?_
        apply Exists.intro
        refine ⟨fun w0 hb0 hF0 => ?_, ?_⟩
        · skip
          have yr : ∀ w', (∃ x : Ext w0, w' = x.at_) → w'.rangeAt g7 (ro + 0 * 32) (sk.map (Value.int .u8)) := fun w' ⟨x, hx⟩ => by
            rw [hx]
            exact rangeAt_below (w := w0) (fun j v hv => by
              have h1 := HBw61.out
              rw [show w0.cell? ⟨g7, ro + 0 * 32 + j, none⟩ = w.cell? ⟨g7, ro + 0 * 32 + j, none⟩ from (hb0.below HBw61.out h1.size (by intro b hb; simp only [List.mem_singleton] at hb; omega)).cell (p := ⟨g7, ro + 0 * 32 + j, none⟩) hg7]
              exact Hr1.out j v hv) (by have := hb0.size; have := HBw61.out.size; omega) x.same
          simp only [pick, List.getElem?_toArray, List.getElem?_cons_succ, List.getElem?_cons_zero, Option.toList_some, List.cons_append, List.nil_append]
          repeat (first | (go_big_quiet_want; refine quiet_index_digs 24 _ _ rfl Tryd.underlying24 size_digest g7 ro (len - q) (cap - q) rfl _ _ rfl 0 rfl (by omega) ?_; go_big_quiet_on; simp only [Act.put, List.setIfInBounds_toArray, List.set_cons_zero, List.set_cons_succ]) | (go_big_quiet_want; refine quiet_load_mid 23 _ rfl g7 (ro + 0 * 32) rfl _ yr _ Tryd.underlying23 rfl (by rw [List.length_map, HSd.out.len]; exact size_digest) ?_; go_big_quiet_on; simp only [Act.put, List.setIfInBounds_toArray, List.set_cons_zero, List.set_cons_succ]) | (go_big_quiet_want; refine quiet_cut_l _ _ rfl (some ⟨g7, ro, none⟩) (len - q) (cap - q) 1 _ rfl rfl rfl (by omega) ?_; go_big_quiet_on; simp only [Act.put, List.setIfInBounds_toArray, List.set_cons_zero, List.set_cons_succ]) | go_big_quiet_step (fail))
          exact wpQuiet_nil rfl
        refine FlowB.AlChk.nil ?_
        refine FlowB.Walk.skips rfl (fun wz => Blk wz (wr.heap.size) (sk.map (Value.int .u8)).toArray 23) (fun _ _ h hb => h.below hb) rfl (fun w1 hb1 hF1 hG1 => ?_) ?_
        · exact FlowB.store_skips 23 _ _ rfl (wr.heap.size) (sk.map (Value.int .u8)).toArray rfl rfl _ 23 hG1 32 size_digest HEk.out.size HSd.out.size (ints_one _ _) (by simp) (fun w2 h2 h3 => h3)
        intro w1 hb1 hF1
        apply Exists.intro
        refine ⟨fun w2 hb2 hF2 => wpQuiet_nil rfl, ?_⟩
        refine FlowB.AlChk.nil ?_
        refine FlowB.Walk.fin fun wq h4 _ hG4 => ?_
        simp only [List.drop_succ_cons, List.drop_zero]
        have HBwq := hid (h4.below HBw61.out HBw61.out.size (by intro b hb; simp only [List.mem_singleton] at hb; omega))
        have hswq := HBwq.out.size
        have hbwwq : base ≤ wq.heap.size := Nat.le_trans hbww61 h4.size
        have hnz : ∀ n, n < wr.heap.size → n ∉ [wr.heap.size] := fun n hn hm => by simp only [List.mem_singleton] at hm; omega
        have Kxwq := hid (h4.blk Kxw61.out (hnz _ hbxl))
        have Ktwq := hid (h4.blk Ktw61.out (hnz _ hbtl))
        have Kgwq := hid (h4.blk Kgw61.out (hnz _ hgl))
        have Kiwq := hid (h4.blk Kiw61.out (hnz _ (by omega)))
        have Kswq := hid (h4.blk Ksw61.out (hnz _ (by omega)))
        have HOwq := hid (HOwr.out.below (h4.below HPw61.out HPw61.out.size (by intro b hb; simp only [List.mem_singleton] at hb; omega)))
        have Kqwq := hid hG4
        clear h4 hG4 hb1 hF1 hnz
        go_wp2_with fail
        have hlen2 : ([[2]] ++ tk).length ≤ 1000 := by rw [List.length_append]; simp; omega
        have hfm := HOwq.out.from
        have hfz := HOwq.out.size
        have hngg := HOwq.out.not_dig Kgwq.out
        have hgx : tabLow bx := ⟨by have := hgt0.1; omega, by have := hgt0.2; omega⟩
        have hgt : tabLow bt := ⟨by have := hgt0.1; omega, by have := hgt0.2; omega⟩
        have hgb : tabLow base := ⟨by have := hgt0.1; omega, by have := hgt0.2; omega⟩
        refine FlowB.wp_region_butIn (bx :: bt :: v.ownBlock.toList) (fun wz => Blk wz bx (xk.map (Value.int .u8)).toArray 23 ∧ Blk wz bt #[v] 31 ∧ OwnR wz [bx, bt] base v ([[2]] ++ tk)) 7 [0, 1, 2, 3] [] [(.c 4, [5], []), (.c 6, [], [])] (by kernel_rfl) (by kernel_rfl) ⟨Kxwq.out, Ktwq.out, HOwq.out⟩ (fun _ _ h hb => ⟨h.1.below hb, h.2.1.below hb, h.2.2.below hb⟩) ?_
        apply Exists.intro
        refine ⟨fun w0 hb0 hF0 => ?_, ?_⟩
        · skip
          have hnS : ∀ n, n ≠ bx → n ≠ bt → (∀ g ∈ v.ownBlock.toList, n ≠ g) → n ∉ bx :: bt :: v.ownBlock.toList := fun n h1 h2 h3 hm => by
            rcases List.mem_cons.1 hm with h | hm
            · exact h1 h
            · rcases List.mem_cons.1 hm with h | hm
              · exact h2 h
              · exact h3 n hm rfl
          have x0 : ∀ w', (∃ x : Ext w0, w' = x.at_) → ∃ T, Blk w' wr.heap.size (sk.map (Value.int .u8)).toArray T := fun w' ⟨x, hx⟩ => ⟨_, hx ▸ (hb0.blk Kqwq.out (hnS _ (by omega) (by omega) (fun g hg => by have := HOwr.out.size g hg; omega))).below x.same⟩
          have x1 : ∀ w', (∃ x : Ext w0, w' = x.at_) → ∃ T, Blk w' w.heap.size (i.map (Value.int .u8)).toArray T := fun w' ⟨x, hx⟩ => ⟨_, hx ▸ (hb0.blk Kiwq.out (hnS _ (by omega) (by omega) (fun g hg => by have := hfm g hg; omega))).below x.same⟩
          simp only [pick, List.getElem?_toArray, List.getElem?_cons_succ, List.getElem?_cons_zero, Option.toList_some, List.cons_append, List.nil_append]
          repeat (first | (go_big_quiet_want; refine quiet_load_blk 23 _ rfl (wr.heap.size) rfl _ x0 _ Tryd.underlying23 rfl 32 size_digest HSd.out.size ?_; go_big_quiet_on; simp only [Act.put, List.setIfInBounds_toArray, List.set_cons_zero, List.set_cons_succ]) | (go_big_quiet_want; refine quiet_load_blk 23 _ rfl (w.heap.size) rfl _ x1 _ Tryd.underlying23 rfl 32 size_digest hi.size ?_; go_big_quiet_on; simp only [Act.put, List.setIfInBounds_toArray, List.set_cons_zero, List.set_cons_succ]) | go_big_quiet_step (fail))
          exact wpQuiet_nil rfl
        refine FlowB.AlChk.nil ?_
        refine FlowB.Walk.call rfl 37 #[.agg (i.map (Value.int .u8)).toArray, .int .i64 (k : Int)] (fun v' _ => v' = .int .i64 (bitL i k)) (fun _ wz => Blk wz bx (xk.map (Value.int .u8)).toArray 23 ∧ Blk wz bt #[v] 31 ∧ OwnR wz [bx, bt] base v ([[2]] ++ tk)) (fun _ _ _ _ h _ => h) (fun _ _ _ h hb => ⟨h.1.below hb, h.2.1.below hb, h.2.2.below hb⟩) rfl (fun w1 hb1 hF1 hG1 => ⟨by go_simp, ?_⟩) ?_
        · refine (bit_in i k w1 hi hcj).mono ?_
          rintro e w2 ⟨rfl, b2⟩
          exact ⟨_, rfl, (FlowB.rel_butIn _).of b2, rfl, hG1.1.below b2, hG1.2.1.below b2, hG1.2.2.below b2⟩
        rintro vb w1 hb1 hF1 rfl
        apply Exists.intro
        refine ⟨fun w3 hb3 hF3 => ?_, ?_⟩
        · skip
          simp only [pick, List.getElem?_toArray, List.getElem?_cons_succ, List.getElem?_cons_zero, Option.toList_some, List.cons_append, List.nil_append, Act.put, List.setIfInBounds_toArray, List.set_cons_zero, List.set_cons_succ]
          repeat (first | go_big_quiet_step (fail))
          exact wpQuiet_nil rfl
        refine FlowB.AlChk.nil ?_
        refine FlowB.Walk.call rfl 63 #[.agg (sk.map (Value.int .u8)).toArray, .bool (decide (bitL i k = 1)), .pointer (some ⟨bx, 0, none⟩), .pointer (some ⟨bt, 0, none⟩)] (fun _ _ => True) (fun _ wz => ∃ v', Blk wz bx ((if decide (bitL i k = 1) then nodeL sk xk else nodeL xk sk).map (Value.int .u8)).toArray 23 ∧ Blk wz bt #[v'] 31 ∧ OwnR wz [bx, bt] base v' (([[2]] ++ tk) ++ [if decide (bitL i k = 1) then nodeX sk xk else nodeX xk sk])) (fun _ _ _ _ h _ => h) (fun _ _ _ ⟨v', h1, h2, h3⟩ hb => ⟨v', h1.below hb, h2.below hb, h3.below hb⟩) rfl (fun w1 hb1 hF1 hG1 => ⟨by go_simp; rfl, ?_⟩) ?_
        · refine (up_both _ xk sk bx bt base v ([[2]] ++ tk) w1 HXT.out HSd.out hG1.1 hG1.2.1 hG1.2.2 (by omega) (by omega) (by omega) (Nat.le_trans hbwwq hb1.size) hlen2 hgx hgt hgb (tab_butIn (Htab.out.below HBwq.out) hb1 (tab_all hgx hgt hgb hfm))).mono ?_
          rintro e w2 ⟨rfl, v', q1, q2, q3, q4⟩
          exact ⟨_, rfl, q4, trivial, v', q1, q2, q3⟩
        rintro vr w1 hb1 hF1 _
        apply Exists.intro
        refine ⟨fun w3 hb3 hF3 => wpQuiet_nil rfl, ?_⟩
        refine FlowB.AlChk.nil ?_
        refine FlowB.Walk.fin fun w6 h6 _ hG6 => ?_
        simp only [List.drop_succ_cons, List.drop_zero]
        obtain ⟨v', q1, q2, q3⟩ := hG6
        have hnT : ∀ n, n ≠ bx → n ≠ bt → n ∉ v.ownBlock.toList → n ∉ bx :: bt :: v.ownBlock.toList := fun n h1 h2 h3 hm => by
          rcases List.mem_cons.1 hm with h | hm
          · exact h1 h
          · rcases List.mem_cons.1 hm with h | hm
            · exact h2 h
            · exact h3 hm
        have HB6 := hid (h6.below HBwq.out HBwq.out.size (fun b hb => by
          rcases List.mem_cons.1 hb with h | hb
          · omega
          · rcases List.mem_cons.1 hb with h | hb
            · omega
            · have := hfm b hb; omega))
        have Kg6 := hid (h6.blk Kgwq.out (hnT _ (by omega) (by omega) hngg))
        have Ki6 := hid (h6.blk Kiwq.out (hnT _ (by omega) (by omega) (fun hm => by have := hfm _ hm; omega)))
        have Ks6 := hid (h6.blk Kswq.out (hnT _ (by omega) (by omega) (fun hm => by have := hfm _ hm; omega)))
        have HQ1 := hid q1
        have HQ2 := hid q2
        have HQ3 := hid q3
        have hs6 := Nat.le_trans hbwwq h6.size
        clear h6 q1 q2 q3 hfm hfz hngg hnT
        go_wp2_with fail
        exact ⟨⟨k + 1, (cutD (some ⟨g7, ro, none⟩) 1 (cap - q)), by omega, by first | rfl | simp, by rw [HNq.out, Nat.sub_add_eq, Nat.sub_add_eq], by rw [HNq.out]; exact HCO.out, by rw [HTS.out, HTX.out]; exact HQ1.out, ⟨_, HQ2.out, by rw [HTS.out, HRX.out, ← List.append_assoc]; exact HQ3.out⟩, hs6, Kg6.out, Ki6.out, Ks6.out, HB6.out⟩, by simp [intOf]; omega⟩
    · skip
      have hke : k = 256 := by omega
      have hcI : ¬ (k : Int) < 256 := by omega
      have hll : ([[2]] ++ trailF (emptyL 0) (treeS i d ns k)).length ≤ 1000 := by rw [List.length_append, trailF_length, treeS_length]; simp; omega
      rw [hke] at HOwr hll
      generalize hTT : [[2]] ++ trailF (emptyL 0) (treeS i d ns 256) = TT at *
      have HTT := hid hTT
      clear hTT
      obtain ⟨a9, c9, hv9, -⟩ := HOwr.out.texts
      subst hv9
      obtain ⟨N9, hN9⟩ : ∃ N, N = TT.length := ⟨_, rfl⟩
      rw [← hN9] at HOwr Ktwr
      have hl9 := HOwr.out.from
      clear hN9
      go_wp2_with fail
      refine (end_any bx bt base a9 N9 c9 TT _ Ktwr.out HOwr.out (by omega) hll).mono ?_
      rintro e w8 ⟨rfl, o8, r8⟩
      have HO8 := hid (r8.below HBwr.out hswr (fun b hb => by have := hl9 b hb; omega))
      have HP8 := hid o8
      clear o8 r8 hl9
      go_wp2_with fail
      go_returns
      exact ⟨.slice a9 N9 c9, rfl, [bx, bt], base, by omega, by have HR := HP8.out; rw [← HTT.out] at HR; unfold lastX lastD; simpa using HR, HO8.out⟩
end Go.Proofs.YtkakoiaahgchmaaDoor
namespace Go.Proofs.YtkakoiaahgchmaaDoor
set_option maxRecDepth 100000
open Go.ChangeShapes Go.WideShapes Go.ChangeAt Go.RowKit
/-- The trail of a side of a tree. -/
def treeT (p : Bool) (i c d : List Int) (ns : List (List Int)) : List (List Int) := ((lastX p i c) :: trailF (lastD p i c) (treeS i d ns 256)).reverse
/-- Is a side shown under a root? -/
def isSide (o i : List Int) (p : Bool) (c d : List Int) (ns : List (List Int)) : Bool := decide (knN d 256 = ns.length) && decide (climbK d i ns (lastD p i c) 256 = o)
/-- Do two sides say two things? -/
def unS (p : Bool) (c : List Int) (q : Bool) (e : List Int) : Bool := (p != q) || (p && decide (c ≠ e))
theorem lastD_sum (p : Bool) (i c : List Int) : lastD p i c = sumZ (lastX p i c) := by
  cases p with
  | false => unfold lastD lastX; rfl
  | true =>
    show leafE i c = sumZ (0 :: (i ++ c))
    unfold leafE
    rfl
theorem Dg.lastD (p : Bool) (i c : List Int) : Dg (lastD p i c) := by rw [lastD_sum]; exact Dg.sum _
theorem treeS_zip (i d : List Int) (ns : List (List Int)) : treeS i d ns 256 = ((List.range 256).map (sibL d ns)).zip ((List.range 256).map fun j => decide (bitL i j = 1)) := by
  unfold treeS
  rw [List.zip_map']
theorem lastX_ne {p q : Bool} {i c e : List Int} (hu : unS p c q e = true) : lastX p i c ≠ lastX q i e := by
  intro h
  unfold unS at hu
  cases p <;> cases q <;> simp [lastX] at h hu
  exact hu h
theorem isSide_sibs {w : World} {o i : List Int} {p : Bool} {c d : List Int} {ad : Option Addr} {len cap : Nat} {ns : List (List Int)} (hns : DigsAt w ad len cap ns) (h : isSide o i p c d ns = true) : knN d 256 = len ∧ climbK d i ns (lastD p i c) 256 = o ∧ ∀ k, k < 256 → Dg (sibL d ns k) := by
  unfold isSide at h
  simp only [Bool.and_eq_true, decide_eq_true_eq] at h
  have hn : knN d 256 = len := by rw [h.1, hns.length]
  exact ⟨hn, h.2, fun k hk => Dg.sibL hn hns hk⟩
theorem treeT_small {p : Bool} {i c d : List Int} {ns : List (List Int)} (hi : Dg i) (hc : Dg c) (hs : ∀ k, k < 256 → Dg (sibL d ns k)) : ∀ t ∈ treeT p i c d ns, t.length ≤ 65 := fun t ht => by
  unfold treeT at ht
  rcases List.mem_cons.1 (List.mem_reverse.1 ht) with h | h
  · rw [h]
    cases p with
    | false => simp [lastX]
    | true => simp [lastX, hi.len, hc.len]
  · rw [trailF_len _ _ (Dg.lastD p i c) (fun y hy => by
      unfold treeS at hy
      obtain ⟨j, hj, rfl⟩ := List.mem_map.1 hy
      exact hs j (List.mem_range.1 hj)) t h]; omega
theorem treeT_part {o i : List Int} {p q : Bool} {c e d f : List Int} {ns ms : List (List Int)} (hu : unS p c q e = true) (h1 : climbK d i ns (lastD p i c) 256 = o) (h2 : climbK f i ms (lastD q i e) 256 = o) (hd1 : ∀ k, k < 256 → Dg (sibL d ns k)) (hd2 : ∀ k, k < 256 → Dg (sibL f ms k)) :
    ∃ k, firstU (treeT p i c d ns) (treeT q i e f ms) = some k ∧ sumZ ((treeT p i c d ns).getD k []) = sumZ ((treeT q i e f ms).getD k []) := by
  have ht : topF (lastD p i c) (treeS i d ns 256) = topF (lastD q i e) (treeS i f ms 256) := by rw [topF_tree, topF_tree, h1, h2]
  unfold treeT
  rw [lastD_sum, lastD_sum, treeS_zip, treeS_zip] at ht ⊢
  rcases trails_part ((List.range 256).map fun j => decide (bitL i j = 1)) ((List.range 256).map (sibL d ns)) ((List.range 256).map (sibL f ms)) (lastX p i c) (lastX q i e) (by simp) (by simp) (fun x hx => by
      obtain ⟨j, hj, rfl⟩ := List.mem_map.1 hx
      exact hd1 j (List.mem_range.1 hj)) (fun x hx => by
      obtain ⟨j, hj, rfl⟩ := List.mem_map.1 hx
      exact hd2 j (List.mem_range.1 hj)) ht with h | h
  · have h := congrArg List.reverse h
    simp only [List.reverse_reverse] at h
    exact absurd (List.cons.inj h).1 (lastX_ne hu)
  · exact h
theorem present_is (o i c d : List Int) (ad : Option Addr) (len cap : Nat) (ns : List (List Int)) (w : World) (ho : Dg o) (hi : Dg i) (hc : Dg c) (hd : Dg d) (hns : DigsAt w ad len cap ns) (tab : ShaTab w) :
    Calls Tryd.prog 23 #[.agg (o.map (Value.int .u8)).toArray, .agg (i.map (Value.int .u8)).toArray, .agg (c.map (Value.int .u8)).toArray, .agg (prC d (.slice ad len cap)).toArray] w fun e w' => e = .returned (.bool (isSide o i true c d ns)) ∧ Below w.heap.size w w' := by
  unfold isSide lastD
  rw [hns.length]
  by_cases hn : knN d 256 = len
  · rw [decide_eq_true hn, Bool.true_and]
    exact present_any o i c d ad len cap ns _ w ho hi hc hd hns tab (fun W2 h2 t2 => leads_ok (leafE i c) o i d (climbK d i ns (leafE i c) 256) ad len cap ns W2 (Dg.leafE i c) ho hi hd (Dg.climbK (Dg.leafE i c) d i ns 256) h2 t2 (fun W3 h3 t3 => climb_good (leafE i c) i d ad len cap ns W3 (Dg.leafE i c) hi hd hn h3 t3))
  · rw [decide_eq_false hn, Bool.false_and]
    exact present_any o i c d ad len cap ns _ w ho hi hc hd hns tab (fun W2 h2 t2 => leads_no (leafE i c) o i d zD ad len cap ns W2 (Dg.leafE i c) hi hd Dg.zero h2 t2 (fun W3 _ _ => climb_bad (leafE i c) i d ad len cap W3 hd hn))
theorem absent_is (o i c d : List Int) (ad : Option Addr) (len cap : Nat) (ns : List (List Int)) (w : World) (ho : Dg o) (hi : Dg i) (hd : Dg d) (hns : DigsAt w ad len cap ns) (tab : ShaTab w) :
    Calls Tryd.prog 24 #[.agg (o.map (Value.int .u8)).toArray, .agg (i.map (Value.int .u8)).toArray, .agg (prC d (.slice ad len cap)).toArray] w fun e w' => e = .returned (.bool (isSide o i false c d ns)) ∧ Below w.heap.size w w' := by
  unfold isSide lastD
  rw [hns.length]
  by_cases hn : knN d 256 = len
  · rw [decide_eq_true hn, Bool.true_and]
    exact absent_any o i d ad len cap ns _ w ho hi hd hns tab (fun W2 h2 t2 => leads_ok (emptyL 0) o i d (climbK d i ns (emptyL 0) 256) ad len cap ns W2 (Dg.emptyL 0) ho hi hd (Dg.climbK (Dg.emptyL 0) d i ns 256) h2 t2 (fun W3 h3 t3 => climb_good (emptyL 0) i d ad len cap ns W3 (Dg.emptyL 0) hi hd hn h3 t3))
  · rw [decide_eq_false hn, Bool.false_and]
    exact absent_any o i d ad len cap ns _ w ho hi hd hns tab (fun W2 h2 t2 => leads_no (emptyL 0) o i d zD ad len cap ns W2 (Dg.emptyL 0) hi hd Dg.zero h2 t2 (fun W3 _ _ => climb_bad (emptyL 0) i d ad len cap W3 hd hn))
/-- The trail of a side that is whole. -/
theorem treeTrail_good (p : Bool) (i c d : List Int) (ad : Option Addr) (len cap : Nat) (ns : List (List Int)) (w : World) (hi : Dg i) (hc : Dg c) (hd : Dg d) (hns : DigsAt w ad len cap ns) (tab : ShaTab w) (hn : knN d 256 = len) :
    Calls Tryd.prog 10 #[.agg (i.map (Value.int .u8)).toArray, .agg (sideC p c d (.slice ad len cap)).toArray] w fun e w' => ∃ v, e = .returned v ∧ ∃ Sx base, w.heap.size ≤ base ∧ OwnR w' Sx base v (treeT p i c d ns) ∧ Below w.heap.size w w' := by
  cases p with
  | false => exact treeTrail_good_false i c d ad len cap ns w hi hc hd hns tab hn
  | true => exact treeTrail_good_true i c d ad len cap ns w hi hc hd hns tab hn
end Go.Proofs.YtkakoiaahgchmaaDoor
namespace Go.Proofs.YtkakoiaahgchmaaDoor
set_option maxRecDepth 100000
open Go.ChangeShapes Go.WideShapes Go.ChangeAt Go.RowKit
/-- Texts in a value. -/
def TextsV (ts : List (List Int)) (v : Value) (w : World) : Prop := ∃ a n c, v = .slice a n c ∧ TextsAt w a n c ts
theorem TextsV.below {ts : List (List Int)} {v : Value} {w w' : World} (h : TextsV ts v w) (k : Below w.heap.size w w') : TextsV ts v w' := by
  obtain ⟨a, n, c, rfl, h⟩ := h
  exact ⟨a, n, c, rfl, h.below k⟩
/-- Two texts, and true, in a value. -/
def PairV (X Y : List Int) (v : Value) (w : World) : Prop := ∃ x y, v = .tuple #[x, y, .bool true] ∧ TextV X x w ∧ TextV Y y w
theorem PairV.below {X Y : List Int} {v : Value} {w w' : World} (h : PairV X Y v w) (k : Below w.heap.size w w') : PairV X Y v w' := by
  obtain ⟨x, y, rfl, h1, h2⟩ := h
  exact ⟨x, y, rfl, h1.below k, h2.below k⟩
theorem wpList_load_mid_if {P : Program} {ops : Array Oper} {rest : List Oper} {op : Oper} {a : Act} {w : World} {Q : Exit → Act → World → Prop} (hw : Region.wanted op (yielded ops a.tmps) = true) (ty : TypeId) (x : Operand) (ho : op.op = .load ty x) (b o : Nat) (hx : a.eval x = .pointer (some ⟨b, o, none⟩)) (cs : List Value) (d : TypeDesc) (hk : w.rangeAt b o cs)
    (hu : P.underlying ty = some d) (hd : d.isRow = true) (hi : (P.info? ty).map (·.size) = some cs.length)
    (h : wpList P ops Q rest (a.put op.dst (.agg cs.toArray)) w) : wpList P ops Q (op :: rest) a w := by
  unfold wpList
  rw [if_pos hw]
  exact .inl (wp_load_mid ty x ho b o hx cs d hk hu hd hi h)
set_option maxHeartbeats 4000000 in
theorem shown_true (o i c d : List Int) (ad : Option Addr) (len cap : Nat) (ns : List (List Int)) (bo bi : Nat) (w : World) (ho : Dg o) (hi : Dg i) (hc : Dg c) (hd : Dg d) (hns : DigsAt w ad len cap ns) (ko : Blk w bo (o.map (Value.int .u8)).toArray 23) (ki : Blk w bi (i.map (Value.int .u8)).toArray 23) (tab : ShaTab w) :
    Calls Tryd.prog 51 #[.agg (sideC true c d (.slice ad len cap)).toArray, .pointer (some ⟨bo, 0, none⟩), .pointer (some ⟨bi, 0, none⟩)] w fun e w' => e = .returned (.bool (isSide o i true c d ns)) ∧ Below w.heap.size w w' := by
  have b1 := (Below.refl w.heap.size w).alloc (Nat.le_refl _) (.cells (sideC true c d (.slice ad len cap)).toArray 28 (0, 0))
  have Ks := hid (Blk.new (w := w) (n := w.heap.size) rfl (sideC true c d (.slice ad len cap)).toArray 28)
  have Hb := hid b1
  have hbz := b1.size
  have Hbs := hid (show w.heap.size + 1 = (w.alloc (.cells (sideC true c d (.slice ad len cap)).toArray 28 (0, 0))).heap.size by simp only [World.size_alloc])
  have Htab := hid tab
  clear b1 tab 
  have Ko := hid (ko.below Hb.out)
  have Ki := hid (ki.below Hb.out)
  have HN := hid hns
  clear ko ki hns
  have cp : (w.alloc (.cells (sideC true c d (.slice ad len cap)).toArray 28 (0, 0))).cell? ⟨w.heap.size, 0, none⟩ = some (.bool true) := by rw [Ks.out.cell]; rfl
  go_enter Tryd.func51, Tryd.ntmps51
  go_wp2_with (first
     | (refine wpList_load_blk rfl 23 _ rfl (bo) rfl _ 23 Ko.out _ Tryd.underlying23 rfl 32 size_digest ho.size ?_)
     | (refine wpList_load_blk rfl 23 _ rfl (bi) rfl _ 23 Ki.out _ Tryd.underlying23 rfl 32 size_digest hi.size ?_)
     | (refine wpList_load_mid rfl 23 _ rfl (w.heap.size) 1 rfl _ _ (sideC_com Ks.out) Tryd.underlying23 rfl (by rw [List.length_map, hc.len]; exact size_digest) ?_)
     | (refine wpList_load_mid rfl 26 _ rfl (w.heap.size) 33 rfl _ _ (sideC_proof hc Ks.out) Tryd.underlying26 rfl (by rw [show (prC d (.slice ad len cap)).length = 33 by simp [prC, hd.len]]; exact size_proof) ?_))
  refine (present_is o i c d ad len cap ns _ ho hi hc hd (HN.out.below Hb.out) (Htab.out.below Hb.out)).mono ?_
  rintro e w1 ⟨rfl, bw1⟩
  have HBw1 := hid (Below.on Hb.out bw1)
  have hsw1 := HBw1.out.size
  have Ksw1 := hid (Ks.out.below bw1)
  have Kow1 := hid (Ko.out.below bw1)
  have Kiw1 := hid (Ki.out.below bw1)
  clear bw1
  go_wp2_with fail
  go_returns
  exact ⟨by first | rfl | simp, HBw1.out⟩
set_option maxHeartbeats 4000000 in
theorem shown_false (o i c d : List Int) (ad : Option Addr) (len cap : Nat) (ns : List (List Int)) (bo bi : Nat) (w : World) (ho : Dg o) (hi : Dg i) (hc : Dg c) (hd : Dg d) (hns : DigsAt w ad len cap ns) (ko : Blk w bo (o.map (Value.int .u8)).toArray 23) (ki : Blk w bi (i.map (Value.int .u8)).toArray 23) (tab : ShaTab w) :
    Calls Tryd.prog 51 #[.agg (sideC false c d (.slice ad len cap)).toArray, .pointer (some ⟨bo, 0, none⟩), .pointer (some ⟨bi, 0, none⟩)] w fun e w' => e = .returned (.bool (isSide o i false c d ns)) ∧ Below w.heap.size w w' := by
  have b1 := (Below.refl w.heap.size w).alloc (Nat.le_refl _) (.cells (sideC false c d (.slice ad len cap)).toArray 28 (0, 0))
  have Ks := hid (Blk.new (w := w) (n := w.heap.size) rfl (sideC false c d (.slice ad len cap)).toArray 28)
  have Hb := hid b1
  have hbz := b1.size
  have Hbs := hid (show w.heap.size + 1 = (w.alloc (.cells (sideC false c d (.slice ad len cap)).toArray 28 (0, 0))).heap.size by simp only [World.size_alloc])
  have Htab := hid tab
  clear b1 tab 
  have Ko := hid (ko.below Hb.out)
  have Ki := hid (ki.below Hb.out)
  have HN := hid hns
  clear ko ki hns
  have cp : (w.alloc (.cells (sideC false c d (.slice ad len cap)).toArray 28 (0, 0))).cell? ⟨w.heap.size, 0, none⟩ = some (.bool false) := by rw [Ks.out.cell]; rfl
  go_enter Tryd.func51, Tryd.ntmps51
  go_wp2_with (first
     | (refine wpList_load_blk rfl 23 _ rfl (bo) rfl _ 23 Ko.out _ Tryd.underlying23 rfl 32 size_digest ho.size ?_)
     | (refine wpList_load_blk rfl 23 _ rfl (bi) rfl _ 23 Ki.out _ Tryd.underlying23 rfl 32 size_digest hi.size ?_)
     | (refine wpList_load_mid rfl 23 _ rfl (w.heap.size) 1 rfl _ _ (sideC_com Ks.out) Tryd.underlying23 rfl (by rw [List.length_map, hc.len]; exact size_digest) ?_)
     | (refine wpList_load_mid rfl 26 _ rfl (w.heap.size) 33 rfl _ _ (sideC_proof hc Ks.out) Tryd.underlying26 rfl (by rw [show (prC d (.slice ad len cap)).length = 33 by simp [prC, hd.len]]; exact size_proof) ?_))
  refine (absent_is o i c d ad len cap ns _ ho hi hd (HN.out.below Hb.out) (Htab.out.below Hb.out)).mono ?_
  rintro e w1 ⟨rfl, bw1⟩
  have HBw1 := hid (Below.on Hb.out bw1)
  have hsw1 := HBw1.out.size
  have Ksw1 := hid (Ks.out.below bw1)
  have Kow1 := hid (Ko.out.below bw1)
  have Kiw1 := hid (Ki.out.below bw1)
  clear bw1
  go_wp2_with fail
  go_returns
  exact ⟨by first | rfl | simp, HBw1.out⟩
set_option maxHeartbeats 4000000 in
theorem trees_tt_first (o i c d e f : List Int) (aa ba : Option Addr) (an ac bn bc : Nat) (ns ms : List (List Int)) (w : World) (ho : Dg o) (hi : Dg i) (hc : Dg c) (hd : Dg d) (he : Dg e) (_hf : Dg f) (hN : DigsAt w aa an ac ns) (hM : DigsAt w ba bn bc ms) (tab : ShaTab w) (hce : ¬ c = e) (h1 : isSide o i true c d ns = false) :
    Calls Tryd.prog 22 #[.agg (o.map (Value.int .u8)).toArray, .agg (i.map (Value.int .u8)).toArray, .agg (sideC true c d (.slice aa an ac)).toArray, .agg (sideC true e f (.slice ba bn bc)).toArray] w fun e' w' => e' = .returned (.tuple #[.slice none 0 0, .slice none 0 0, .bool false]) ∧ Below w.heap.size w w' := by
  have b1 := (Below.refl w.heap.size w).alloc (Nat.le_refl _) (.cells (o.map (Value.int .u8)).toArray 23 (0, 0))
  have b2 := b1.alloc b1.size (.cells (i.map (Value.int .u8)).toArray 23 (0, 0))
  have b3 := b2.alloc b2.size (.cells (sideC true c d (.slice aa an ac)).toArray 28 (0, 0))
  have b4 := b3.alloc b3.size (.cells (sideC true e f (.slice ba bn bc)).toArray 28 (0, 0))
  have Ko := hid ((((Blk.new (w := w) (n := w.heap.size) rfl (o.map (Value.int .u8)).toArray 23).old (.cells (i.map (Value.int .u8)).toArray 23 (0, 0))).old (.cells (sideC true c d (.slice aa an ac)).toArray 28 (0, 0))).old (.cells (sideC true e f (.slice ba bn bc)).toArray 28 (0, 0)))
  have Ki := hid (((Blk.new (w := (w.alloc (.cells (o.map (Value.int .u8)).toArray 23 (0, 0)))) (n := w.heap.size + 1) (by simp only [World.size_alloc]) (i.map (Value.int .u8)).toArray 23).old (.cells (sideC true c d (.slice aa an ac)).toArray 28 (0, 0))).old (.cells (sideC true e f (.slice ba bn bc)).toArray 28 (0, 0)))
  have Ka := hid ((Blk.new (w := ((w.alloc (.cells (o.map (Value.int .u8)).toArray 23 (0, 0))).alloc (.cells (i.map (Value.int .u8)).toArray 23 (0, 0)))) (n := w.heap.size + 1 + 1) (by simp only [World.size_alloc]) (sideC true c d (.slice aa an ac)).toArray 28).old (.cells (sideC true e f (.slice ba bn bc)).toArray 28 (0, 0)))
  have Kb := hid (Blk.new (w := (((w.alloc (.cells (o.map (Value.int .u8)).toArray 23 (0, 0))).alloc (.cells (i.map (Value.int .u8)).toArray 23 (0, 0))).alloc (.cells (sideC true c d (.slice aa an ac)).toArray 28 (0, 0)))) (n := w.heap.size + 1 + 1 + 1) (by simp only [World.size_alloc]) (sideC true e f (.slice ba bn bc)).toArray 28)
  have Hb := hid b4
  have hbz := b4.size
  have Hbs := hid (show w.heap.size + 1 + 1 + 1 + 1 = ((((w.alloc (.cells (o.map (Value.int .u8)).toArray 23 (0, 0))).alloc (.cells (i.map (Value.int .u8)).toArray 23 (0, 0))).alloc (.cells (sideC true c d (.slice aa an ac)).toArray 28 (0, 0))).alloc (.cells (sideC true e f (.slice ba bn bc)).toArray 28 (0, 0))).heap.size by simp only [World.size_alloc])
  have Htab := hid tab
  clear b1 b2 b3 b4 tab 
  have HN := hid hN
  have HM := hid hM
  clear hN hM
  have cpa : ((((w.alloc (.cells (o.map (Value.int .u8)).toArray 23 (0, 0))).alloc (.cells (i.map (Value.int .u8)).toArray 23 (0, 0))).alloc (.cells (sideC true c d (.slice aa an ac)).toArray 28 (0, 0))).alloc (.cells (sideC true e f (.slice ba bn bc)).toArray 28 (0, 0))).cell? ⟨w.heap.size + 1 + 1, 0, none⟩ = some (.bool true) := by rw [Ka.out.cell]; rfl
  have cpb : ((((w.alloc (.cells (o.map (Value.int .u8)).toArray 23 (0, 0))).alloc (.cells (i.map (Value.int .u8)).toArray 23 (0, 0))).alloc (.cells (sideC true c d (.slice aa an ac)).toArray 28 (0, 0))).alloc (.cells (sideC true e f (.slice ba bn bc)).toArray 28 (0, 0))).cell? ⟨w.heap.size + 1 + 1 + 1, 0, none⟩ = some (.bool true) := by rw [Kb.out.cell]; rfl
  have qq : ∀ W : World, (binOp .neq 23 (.agg (c.map (Value.int .u8)).toArray) (.agg (e.map (Value.int .u8)).toArray)).run Tryd.prog W = .ok (.bool true) W := fun W => by
    have h := neD c e hc.len he.len W
    rw [decide_eq_false hce] at h
    exact h
  have C1 := hid (fun (W : World) (h1 : DigsAt W aa an ac ns) (h2 : Blk W w.heap.size (o.map (Value.int .u8)).toArray 23) (h3 : Blk W (w.heap.size + 1) (i.map (Value.int .u8)).toArray 23) (h4 : ShaTab W) => shown_true o i c d aa an ac ns w.heap.size (w.heap.size + 1) W ho hi hc hd h1 h2 h3 h4)
  rw [h1] at C1
  go_enter Tryd.func22, Tryd.ntmps22
  go_wp2_with (first
     | (with_reducible show wpList _ _ _ (⟨some 24, _, _, _, _, _⟩ :: _) _ _; refine wpList_load_mid_if (by first | rfl | go_simp) 23 _ rfl (w.heap.size + 1 + 1) 1 rfl _ _ (sideC_com Ka.out) Tryd.underlying23 rfl (by rw [List.length_map, hc.len]; exact size_digest) ?_)
     | (with_reducible show wpList _ _ _ (⟨some 26, _, _, _, _, _⟩ :: _) _ _; refine wpList_load_mid_if (by first | rfl | go_simp) 23 _ rfl (w.heap.size + 1 + 1 + 1) 1 rfl _ _ (sideC_com Kb.out) Tryd.underlying23 rfl (by rw [List.length_map, he.len]; exact size_digest) ?_)
     | (with_reducible show wpList _ _ _ (⟨some 34, _, _, _, _, _⟩ :: _) _ _; refine wpList_load_blk_if (by first | rfl | go_simp) 28 _ rfl (w.heap.size + 1 + 1) rfl _ 28 Ka.out _ Tryd.underlying28 rfl 66 size_side (sideC_size hc hd) ?_))
  refine (C1.out _ (HN.out.below Hb.out) Ko.out Ki.out (Htab.out.below Hb.out)).mono ?_
  rintro e w1 ⟨rfl, bw1⟩
  have HBw1 := hid (Below.on Hb.out bw1)
  have hsw1 := HBw1.out.size
  have Kow1 := hid (Ko.out.below bw1)
  have Kiw1 := hid (Ki.out.below bw1)
  have Kaw1 := hid (Ka.out.below bw1)
  have Kbw1 := hid (Kb.out.below bw1)
  clear bw1
  go_wp2_with fail
  go_returns
  exact ⟨rfl, HBw1.out⟩
set_option maxHeartbeats 4000000 in
theorem trees_tt_second (o i c d e f : List Int) (aa ba : Option Addr) (an ac bn bc : Nat) (ns ms : List (List Int)) (w : World) (ho : Dg o) (hi : Dg i) (hc : Dg c) (hd : Dg d) (he : Dg e) (hf : Dg f) (hN : DigsAt w aa an ac ns) (hM : DigsAt w ba bn bc ms) (tab : ShaTab w) (hce : ¬ c = e) (h1 : isSide o i true c d ns = true) (h2 : isSide o i true e f ms = false) :
    Calls Tryd.prog 22 #[.agg (o.map (Value.int .u8)).toArray, .agg (i.map (Value.int .u8)).toArray, .agg (sideC true c d (.slice aa an ac)).toArray, .agg (sideC true e f (.slice ba bn bc)).toArray] w fun e' w' => e' = .returned (.tuple #[.slice none 0 0, .slice none 0 0, .bool false]) ∧ Below w.heap.size w w' := by
  have b1 := (Below.refl w.heap.size w).alloc (Nat.le_refl _) (.cells (o.map (Value.int .u8)).toArray 23 (0, 0))
  have b2 := b1.alloc b1.size (.cells (i.map (Value.int .u8)).toArray 23 (0, 0))
  have b3 := b2.alloc b2.size (.cells (sideC true c d (.slice aa an ac)).toArray 28 (0, 0))
  have b4 := b3.alloc b3.size (.cells (sideC true e f (.slice ba bn bc)).toArray 28 (0, 0))
  have Ko := hid ((((Blk.new (w := w) (n := w.heap.size) rfl (o.map (Value.int .u8)).toArray 23).old (.cells (i.map (Value.int .u8)).toArray 23 (0, 0))).old (.cells (sideC true c d (.slice aa an ac)).toArray 28 (0, 0))).old (.cells (sideC true e f (.slice ba bn bc)).toArray 28 (0, 0)))
  have Ki := hid (((Blk.new (w := (w.alloc (.cells (o.map (Value.int .u8)).toArray 23 (0, 0)))) (n := w.heap.size + 1) (by simp only [World.size_alloc]) (i.map (Value.int .u8)).toArray 23).old (.cells (sideC true c d (.slice aa an ac)).toArray 28 (0, 0))).old (.cells (sideC true e f (.slice ba bn bc)).toArray 28 (0, 0)))
  have Ka := hid ((Blk.new (w := ((w.alloc (.cells (o.map (Value.int .u8)).toArray 23 (0, 0))).alloc (.cells (i.map (Value.int .u8)).toArray 23 (0, 0)))) (n := w.heap.size + 1 + 1) (by simp only [World.size_alloc]) (sideC true c d (.slice aa an ac)).toArray 28).old (.cells (sideC true e f (.slice ba bn bc)).toArray 28 (0, 0)))
  have Kb := hid (Blk.new (w := (((w.alloc (.cells (o.map (Value.int .u8)).toArray 23 (0, 0))).alloc (.cells (i.map (Value.int .u8)).toArray 23 (0, 0))).alloc (.cells (sideC true c d (.slice aa an ac)).toArray 28 (0, 0)))) (n := w.heap.size + 1 + 1 + 1) (by simp only [World.size_alloc]) (sideC true e f (.slice ba bn bc)).toArray 28)
  have Hb := hid b4
  have hbz := b4.size
  have Hbs := hid (show w.heap.size + 1 + 1 + 1 + 1 = ((((w.alloc (.cells (o.map (Value.int .u8)).toArray 23 (0, 0))).alloc (.cells (i.map (Value.int .u8)).toArray 23 (0, 0))).alloc (.cells (sideC true c d (.slice aa an ac)).toArray 28 (0, 0))).alloc (.cells (sideC true e f (.slice ba bn bc)).toArray 28 (0, 0))).heap.size by simp only [World.size_alloc])
  have Htab := hid tab
  clear b1 b2 b3 b4 tab 
  have HN := hid hN
  have HM := hid hM
  clear hN hM
  have cpa : ((((w.alloc (.cells (o.map (Value.int .u8)).toArray 23 (0, 0))).alloc (.cells (i.map (Value.int .u8)).toArray 23 (0, 0))).alloc (.cells (sideC true c d (.slice aa an ac)).toArray 28 (0, 0))).alloc (.cells (sideC true e f (.slice ba bn bc)).toArray 28 (0, 0))).cell? ⟨w.heap.size + 1 + 1, 0, none⟩ = some (.bool true) := by rw [Ka.out.cell]; rfl
  have cpb : ((((w.alloc (.cells (o.map (Value.int .u8)).toArray 23 (0, 0))).alloc (.cells (i.map (Value.int .u8)).toArray 23 (0, 0))).alloc (.cells (sideC true c d (.slice aa an ac)).toArray 28 (0, 0))).alloc (.cells (sideC true e f (.slice ba bn bc)).toArray 28 (0, 0))).cell? ⟨w.heap.size + 1 + 1 + 1, 0, none⟩ = some (.bool true) := by rw [Kb.out.cell]; rfl
  have qq : ∀ W : World, (binOp .neq 23 (.agg (c.map (Value.int .u8)).toArray) (.agg (e.map (Value.int .u8)).toArray)).run Tryd.prog W = .ok (.bool true) W := fun W => by
    have h := neD c e hc.len he.len W
    rw [decide_eq_false hce] at h
    exact h
  have C1 := hid (fun (W : World) (h1 : DigsAt W aa an ac ns) (h2 : Blk W w.heap.size (o.map (Value.int .u8)).toArray 23) (h3 : Blk W (w.heap.size + 1) (i.map (Value.int .u8)).toArray 23) (h4 : ShaTab W) => shown_true o i c d aa an ac ns w.heap.size (w.heap.size + 1) W ho hi hc hd h1 h2 h3 h4)
  rw [h1] at C1
  have C2 := hid (fun (W : World) (h1 : DigsAt W ba bn bc ms) (h2 : Blk W w.heap.size (o.map (Value.int .u8)).toArray 23) (h3 : Blk W (w.heap.size + 1) (i.map (Value.int .u8)).toArray 23) (h4 : ShaTab W) => shown_true o i e f ba bn bc ms w.heap.size (w.heap.size + 1) W ho hi he hf h1 h2 h3 h4)
  rw [h2] at C2
  go_enter Tryd.func22, Tryd.ntmps22
  go_wp2_with (first
     | (with_reducible show wpList _ _ _ (⟨some 24, _, _, _, _, _⟩ :: _) _ _; refine wpList_load_mid_if (by first | rfl | go_simp) 23 _ rfl (w.heap.size + 1 + 1) 1 rfl _ _ (sideC_com Ka.out) Tryd.underlying23 rfl (by rw [List.length_map, hc.len]; exact size_digest) ?_)
     | (with_reducible show wpList _ _ _ (⟨some 26, _, _, _, _, _⟩ :: _) _ _; refine wpList_load_mid_if (by first | rfl | go_simp) 23 _ rfl (w.heap.size + 1 + 1 + 1) 1 rfl _ _ (sideC_com Kb.out) Tryd.underlying23 rfl (by rw [List.length_map, he.len]; exact size_digest) ?_)
     | (with_reducible show wpList _ _ _ (⟨some 34, _, _, _, _, _⟩ :: _) _ _; refine wpList_load_blk_if (by first | rfl | go_simp) 28 _ rfl (w.heap.size + 1 + 1) rfl _ 28 Ka.out _ Tryd.underlying28 rfl 66 size_side (sideC_size hc hd) ?_))
  refine (C1.out _ (HN.out.below Hb.out) Ko.out Ki.out (Htab.out.below Hb.out)).mono ?_
  rintro e w1 ⟨rfl, bw1⟩
  have HBw1 := hid (Below.on Hb.out bw1)
  have hsw1 := HBw1.out.size
  have Kow1 := hid (Ko.out.below bw1)
  have Kiw1 := hid (Ki.out.below bw1)
  have Kaw1 := hid (Ka.out.below bw1)
  have Kbw1 := hid (Kb.out.below bw1)
  clear bw1
  go_wp2_with (with_reducible show wpList _ _ _ (⟨some 40, _, _, _, _, _⟩ :: _) _ _; refine wpList_load_blk_if (by first | rfl | go_simp) 28 _ rfl (w.heap.size + 1 + 1 + 1) rfl _ 28 Kbw1.out _ Tryd.underlying28 rfl 66 size_side (sideC_size he hf) ?_)
  refine (C2.out _ (HM.out.below HBw1.out) Kow1.out Kiw1.out (Htab.out.below HBw1.out)).mono ?_
  rintro e w2 ⟨rfl, bw2⟩
  have HBw2 := hid (Below.on HBw1.out bw2)
  have hsw2 := HBw2.out.size
  have Kow2 := hid (Kow1.out.below bw2)
  have Kiw2 := hid (Kiw1.out.below bw2)
  have Kaw2 := hid (Kaw1.out.below bw2)
  have Kbw2 := hid (Kbw1.out.below bw2)
  clear bw2
  go_wp2_with fail
  go_returns
  exact ⟨rfl, HBw2.out⟩
set_option maxHeartbeats 4000000 in
theorem trees_tt_both (o i c d e f : List Int) (aa ba : Option Addr) (an ac bn bc : Nat) (ns ms : List (List Int)) (w : World) (ho : Dg o) (hi : Dg i) (hc : Dg c) (hd : Dg d) (he : Dg e) (hf : Dg f) (hN : DigsAt w aa an ac ns) (hM : DigsAt w ba bn bc ms) (tab : ShaTab w) (hce : ¬ c = e) (h1 : isSide o i true c d ns = true) (h2 : isSide o i true e f ms = true) :
    Calls Tryd.prog 22 #[.agg (o.map (Value.int .u8)).toArray, .agg (i.map (Value.int .u8)).toArray, .agg (sideC true c d (.slice aa an ac)).toArray, .agg (sideC true e f (.slice ba bn bc)).toArray] w fun e' w' => ∃ x y X Y, e' = .returned (.tuple #[x, y, .bool true]) ∧ TextV X x w' ∧ TextV Y y w' ∧ X.length ≤ 65 ∧ Y.length ≤ 65 ∧ X ≠ Y ∧ sumZ X = sumZ Y ∧ Below w.heap.size w w' := by
  have b1 := (Below.refl w.heap.size w).alloc (Nat.le_refl _) (.cells (o.map (Value.int .u8)).toArray 23 (0, 0))
  have b2 := b1.alloc b1.size (.cells (i.map (Value.int .u8)).toArray 23 (0, 0))
  have b3 := b2.alloc b2.size (.cells (sideC true c d (.slice aa an ac)).toArray 28 (0, 0))
  have b4 := b3.alloc b3.size (.cells (sideC true e f (.slice ba bn bc)).toArray 28 (0, 0))
  have Ko := hid ((((Blk.new (w := w) (n := w.heap.size) rfl (o.map (Value.int .u8)).toArray 23).old (.cells (i.map (Value.int .u8)).toArray 23 (0, 0))).old (.cells (sideC true c d (.slice aa an ac)).toArray 28 (0, 0))).old (.cells (sideC true e f (.slice ba bn bc)).toArray 28 (0, 0)))
  have Ki := hid (((Blk.new (w := (w.alloc (.cells (o.map (Value.int .u8)).toArray 23 (0, 0)))) (n := w.heap.size + 1) (by simp only [World.size_alloc]) (i.map (Value.int .u8)).toArray 23).old (.cells (sideC true c d (.slice aa an ac)).toArray 28 (0, 0))).old (.cells (sideC true e f (.slice ba bn bc)).toArray 28 (0, 0)))
  have Ka := hid ((Blk.new (w := ((w.alloc (.cells (o.map (Value.int .u8)).toArray 23 (0, 0))).alloc (.cells (i.map (Value.int .u8)).toArray 23 (0, 0)))) (n := w.heap.size + 1 + 1) (by simp only [World.size_alloc]) (sideC true c d (.slice aa an ac)).toArray 28).old (.cells (sideC true e f (.slice ba bn bc)).toArray 28 (0, 0)))
  have Kb := hid (Blk.new (w := (((w.alloc (.cells (o.map (Value.int .u8)).toArray 23 (0, 0))).alloc (.cells (i.map (Value.int .u8)).toArray 23 (0, 0))).alloc (.cells (sideC true c d (.slice aa an ac)).toArray 28 (0, 0)))) (n := w.heap.size + 1 + 1 + 1) (by simp only [World.size_alloc]) (sideC true e f (.slice ba bn bc)).toArray 28)
  have Hb := hid b4
  have hbz := b4.size
  have Hbs := hid (show w.heap.size + 1 + 1 + 1 + 1 = ((((w.alloc (.cells (o.map (Value.int .u8)).toArray 23 (0, 0))).alloc (.cells (i.map (Value.int .u8)).toArray 23 (0, 0))).alloc (.cells (sideC true c d (.slice aa an ac)).toArray 28 (0, 0))).alloc (.cells (sideC true e f (.slice ba bn bc)).toArray 28 (0, 0))).heap.size by simp only [World.size_alloc])
  have Htab := hid tab
  clear b1 b2 b3 b4 tab 
  have HN := hid hN
  have HM := hid hM
  clear hN hM
  have cpa : ((((w.alloc (.cells (o.map (Value.int .u8)).toArray 23 (0, 0))).alloc (.cells (i.map (Value.int .u8)).toArray 23 (0, 0))).alloc (.cells (sideC true c d (.slice aa an ac)).toArray 28 (0, 0))).alloc (.cells (sideC true e f (.slice ba bn bc)).toArray 28 (0, 0))).cell? ⟨w.heap.size + 1 + 1, 0, none⟩ = some (.bool true) := by rw [Ka.out.cell]; rfl
  have cpb : ((((w.alloc (.cells (o.map (Value.int .u8)).toArray 23 (0, 0))).alloc (.cells (i.map (Value.int .u8)).toArray 23 (0, 0))).alloc (.cells (sideC true c d (.slice aa an ac)).toArray 28 (0, 0))).alloc (.cells (sideC true e f (.slice ba bn bc)).toArray 28 (0, 0))).cell? ⟨w.heap.size + 1 + 1 + 1, 0, none⟩ = some (.bool true) := by rw [Kb.out.cell]; rfl
  have qq : ∀ W : World, (binOp .neq 23 (.agg (c.map (Value.int .u8)).toArray) (.agg (e.map (Value.int .u8)).toArray)).run Tryd.prog W = .ok (.bool true) W := fun W => by
    have h := neD c e hc.len he.len W
    rw [decide_eq_false hce] at h
    exact h
  have C1 := hid (fun (W : World) (h1 : DigsAt W aa an ac ns) (h2 : Blk W w.heap.size (o.map (Value.int .u8)).toArray 23) (h3 : Blk W (w.heap.size + 1) (i.map (Value.int .u8)).toArray 23) (h4 : ShaTab W) => shown_true o i c d aa an ac ns w.heap.size (w.heap.size + 1) W ho hi hc hd h1 h2 h3 h4)
  rw [h1] at C1
  have C2 := hid (fun (W : World) (h1 : DigsAt W ba bn bc ms) (h2 : Blk W w.heap.size (o.map (Value.int .u8)).toArray 23) (h3 : Blk W (w.heap.size + 1) (i.map (Value.int .u8)).toArray 23) (h4 : ShaTab W) => shown_true o i e f ba bn bc ms w.heap.size (w.heap.size + 1) W ho hi he hf h1 h2 h3 h4)
  rw [h2] at C2
  obtain ⟨n1, s1, r1⟩ := isSide_sibs HN.out h1
  obtain ⟨n2, s2, r2⟩ := isSide_sibs HM.out h2
  obtain ⟨k, hk, hks⟩ := treeT_part (show unS true c true e = true by simp [unS, hce]) s1 s2 r1 r2
  have hs1 : ∀ t ∈ treeT true i c d ns, t.length ≤ 65 := treeT_small hi hc r1
  have hs2 : ∀ t ∈ treeT true i e f ms, t.length ≤ 65 := treeT_small hi he r2
  have hka := firstU_at hk
  have T1 := hid (fun (W : World) (h1 : DigsAt W aa an ac ns) (h3 : ShaTab W) => treeTrail_good true i c d aa an ac ns W hi hc hd h1 h3 n1)
  have T2 := hid (fun (W : World) (h1 : DigsAt W ba bn bc ms) (h3 : ShaTab W) => treeTrail_good true i e f ba bn bc ms W hi he hf h1 h3 n2)
  have HL1 := hid (hs1 _ (show (treeT true i c d ns).getD k [] ∈ treeT true i c d ns by rw [List.getD_eq_getElem?_getD, List.getElem?_eq_getElem hka.1]; exact List.getElem_mem _))
  have HL2 := hid (hs2 _ (show (treeT true i e f ms).getD k [] ∈ treeT true i e f ms by rw [List.getD_eq_getElem?_getD, List.getElem?_eq_getElem hka.2.1]; exact List.getElem_mem _))
  have HNE := hid hka.2.2.2
  have HKS := hid hks
  have PS := hid (fun (a1 a2 : Option Addr) (n1 n2 c1 c2 : Nat) (W : World) (h1 : TextsAt W a1 n1 c1 (treeT true i c d ns)) (h2 : TextsAt W a2 n2 c2 (treeT true i e f ms)) => part_some a1 a2 n1 n2 c1 c2 _ _ W h1 h2 (fun t ht => by have := hs1 t ht; omega) (fun t ht => by have := hs2 t ht; omega) hk)
  clear h1 h2 n1 s1 r1 n2 s2 r2 hk hks hs1 hs2 hka
  generalize treeT true i c d ns = AA at *
  generalize treeT true i e f ms = BB at *
  go_enter Tryd.func22, Tryd.ntmps22
  go_wp2_with (first
     | (with_reducible show wpList _ _ _ (⟨some 24, _, _, _, _, _⟩ :: _) _ _; refine wpList_load_mid_if (by first | rfl | go_simp) 23 _ rfl (w.heap.size + 1 + 1) 1 rfl _ _ (sideC_com Ka.out) Tryd.underlying23 rfl (by rw [List.length_map, hc.len]; exact size_digest) ?_)
     | (with_reducible show wpList _ _ _ (⟨some 26, _, _, _, _, _⟩ :: _) _ _; refine wpList_load_mid_if (by first | rfl | go_simp) 23 _ rfl (w.heap.size + 1 + 1 + 1) 1 rfl _ _ (sideC_com Kb.out) Tryd.underlying23 rfl (by rw [List.length_map, he.len]; exact size_digest) ?_)
     | (with_reducible show wpList _ _ _ (⟨some 34, _, _, _, _, _⟩ :: _) _ _; refine wpList_load_blk_if (by first | rfl | go_simp) 28 _ rfl (w.heap.size + 1 + 1) rfl _ 28 Ka.out _ Tryd.underlying28 rfl 66 size_side (sideC_size hc hd) ?_))
  refine (C1.out _ (HN.out.below Hb.out) Ko.out Ki.out (Htab.out.below Hb.out)).mono ?_
  rintro e w1 ⟨rfl, bw1⟩
  have HBw1 := hid (Below.on Hb.out bw1)
  have hsw1 := HBw1.out.size
  have Kow1 := hid (Ko.out.below bw1)
  have Kiw1 := hid (Ki.out.below bw1)
  have Kaw1 := hid (Ka.out.below bw1)
  have Kbw1 := hid (Kb.out.below bw1)
  clear bw1
  go_wp2_with (with_reducible show wpList _ _ _ (⟨some 40, _, _, _, _, _⟩ :: _) _ _; refine wpList_load_blk_if (by first | rfl | go_simp) 28 _ rfl (w.heap.size + 1 + 1 + 1) rfl _ 28 Kbw1.out _ Tryd.underlying28 rfl 66 size_side (sideC_size he hf) ?_)
  refine (C2.out _ (HM.out.below HBw1.out) Kow1.out Kiw1.out (Htab.out.below HBw1.out)).mono ?_
  rintro e w2 ⟨rfl, bw2⟩
  have HBw2 := hid (Below.on HBw1.out bw2)
  have hsw2 := HBw2.out.size
  have Kow2 := hid (Kow1.out.below bw2)
  have Kiw2 := hid (Kiw1.out.below bw2)
  have Kaw2 := hid (Kaw1.out.below bw2)
  have Kbw2 := hid (Kbw1.out.below bw2)
  clear bw2
  go_wp2_with fail
  refine wp_region_flow 10 [0, 1, 3, 4] [] [(.c 2, [], []), (.c 5, [], []), (.c 6, [7, 8, 9], [])] (by kernel_rfl) (by kernel_rfl) ?_
  apply Exists.intro
  refine ⟨fun w0 hb0 hF0 => ?_, ?_⟩
  · skip
    have x0 : ∀ w', (∃ x : Ext w0, w' = x.at_) → ∃ T, Blk w' (w.heap.size + 1) (i.map (Value.int .u8)).toArray T := fun w' ⟨x, hx⟩ => ⟨_, hx ▸ (Kiw2.out.below hb0).below x.same⟩
    have x1 : ∀ w', (∃ x : Ext w0, w' = x.at_) → ∃ T, Blk w' (w.heap.size + 1 + 1) (sideC true c d (.slice aa an ac)).toArray T := fun w' ⟨x, hx⟩ => ⟨_, hx ▸ (Kaw2.out.below hb0).below x.same⟩
    have x2 : ∀ w', (∃ x : Ext w0, w' = x.at_) → ∃ T, Blk w' (w.heap.size + 1 + 1 + 1) (sideC true e f (.slice ba bn bc)).toArray T := fun w' ⟨x, hx⟩ => ⟨_, hx ▸ (Kbw2.out.below hb0).below x.same⟩
    simp only [pick, List.getElem?_toArray, List.getElem?_cons_succ, List.getElem?_cons_zero, Option.toList_some, List.cons_append, List.nil_append]
    repeat (first | (go_big_quiet_want; refine quiet_load_blk 23 _ rfl (w.heap.size + 1) rfl _ x0 _ Tryd.underlying23 rfl 32 size_digest hi.size ?_; go_big_quiet_on; simp only [Act.put, List.setIfInBounds_toArray, List.set_cons_zero, List.set_cons_succ]) | (go_big_quiet_want; refine quiet_load_blk 28 _ rfl (w.heap.size + 1 + 1) rfl _ x1 _ Tryd.underlying28 rfl 66 size_side (sideC_size hc hd) ?_; go_big_quiet_on; simp only [Act.put, List.setIfInBounds_toArray, List.set_cons_zero, List.set_cons_succ]) | (go_big_quiet_want; refine quiet_load_blk 28 _ rfl (w.heap.size + 1 + 1 + 1) rfl _ x2 _ Tryd.underlying28 rfl 66 size_side (sideC_size he hf) ?_; go_big_quiet_on; simp only [Act.put, List.setIfInBounds_toArray, List.set_cons_zero, List.set_cons_succ]) | go_big_quiet_step (fail))
    exact wpQuiet_nil rfl
  refine AlChk.nil ?_
  refine Walk.call rfl 10 #[.agg (i.map (Value.int .u8)).toArray, .agg (sideC true c d (.slice aa an ac)).toArray] (TextsV AA) (fun v w' w'' h k => h.below k) rfl (fun w1 hb1 hF1 => ⟨by go_simp, ?_⟩) ?_
  · skip
    refine (T1.out w1 (HN.out.below (Below.on HBw2.out hb1)) (Htab.out.below (Below.on HBw2.out hb1))).mono ?_
    rintro e' w2 ⟨v', rfl, S', base', -, o', b'⟩
    obtain ⟨p', c', rfl, t'⟩ := o'.texts
    exact ⟨_, rfl, b', _, _, _, rfl, t'⟩
  rintro v0 w1 hb1 hF1 ⟨p1, n1, c1, rfl, _⟩
  apply Exists.intro
  refine ⟨fun w0 hb0 hF0 => ?_, ?_⟩
  · skip
    exact wpQuiet_nil rfl
  refine AlChk.nil ?_
  refine Walk.call rfl 10 #[.agg (i.map (Value.int .u8)).toArray, .agg (sideC true e f (.slice ba bn bc)).toArray] (TextsV BB) (fun v w' w'' h k => h.below k) rfl (fun w1 hb1 hF1 => ⟨by go_simp, ?_⟩) ?_
  · skip
    refine (T2.out w1 (HM.out.below (Below.on HBw2.out hb1)) (Htab.out.below (Below.on HBw2.out hb1))).mono ?_
    rintro e' w2 ⟨v', rfl, S', base', -, o', b'⟩
    obtain ⟨p', c', rfl, t'⟩ := o'.texts
    exact ⟨_, rfl, b', _, _, _, rfl, t'⟩
  rintro v1 w1 hb1 hF1 ⟨p2, n2, c2, rfl, _⟩
  apply Exists.intro
  refine ⟨fun w0 hb0 hF0 => ?_, ?_⟩
  · skip
    exact wpQuiet_nil rfl
  refine AlChk.nil ?_
  refine Walk.call rfl 19 #[.slice p1 n1 c1, .slice p2 n2 c2] (PairV (AA.getD k []) (BB.getD k [])) (fun v w' w'' h k => h.below k) rfl (fun w1 hb1 hF1 => ⟨by go_simp, ?_⟩) ?_
  · skip
    obtain ⟨_, _, _, hq1, ht1⟩ := hF1.1.2
    obtain ⟨_, _, _, hq2, ht2⟩ := hF1.2
    cases hq1
    cases hq2
    refine (PS.out _ _ _ _ _ _ _ ht1 ht2).mono ?_
    rintro e' w2 ⟨x3, y3, rfl, r1, r2, b3⟩
    exact ⟨_, rfl, b3, _, _, rfl, r1, r2⟩
  rintro v2 w1 hb1 hF1 ⟨x3, y3, rfl, _⟩
  apply Exists.intro
  refine ⟨fun w0 hb0 hF0 => ?_, ?_⟩
  · skip
    simp only [pick, List.getElem?_toArray, List.getElem?_cons_succ, List.getElem?_cons_zero, Option.toList_some, List.cons_append, List.nil_append, Act.put, List.setIfInBounds_toArray, List.set_cons_zero, List.set_cons_succ]
    repeat (first | go_big_quiet_step (fail))
    exact wpQuiet_nil rfl
  refine AlChk.nil ?_
  refine Walk.fin fun w3 hw3 hFw3 _ => ?_
  simp only [List.drop_succ_cons, List.drop_zero]
  have HFw3 := hid hFw3
  have HBw3 := hid (Below.on HBw2.out hw3)
  have hsw3 := HBw3.out.size
  have Kow3 := hid (Kow2.out.below hw3)
  have Kiw3 := hid (Kiw2.out.below hw3)
  have Kaw3 := hid (Kaw2.out.below hw3)
  have Kbw3 := hid (Kbw2.out.below hw3)
  clear hw3 hFw3
  go_wp2_with fail
  obtain ⟨x4, y4, hq, r1, r2⟩ := HFw3.out.2
  cases hq
  go_returns
  exact ⟨_, _, _, _, rfl, r1, r2, HL1.out, HL2.out, HNE.out, HKS.out, HBw3.out⟩
set_option maxHeartbeats 4000000 in
theorem trees_tf_first (o i c d e f : List Int) (aa ba : Option Addr) (an ac bn bc : Nat) (ns ms : List (List Int)) (w : World) (ho : Dg o) (hi : Dg i) (hc : Dg c) (hd : Dg d) (_he : Dg e) (_hf : Dg f) (hN : DigsAt w aa an ac ns) (hM : DigsAt w ba bn bc ms) (tab : ShaTab w) (h1 : isSide o i true c d ns = false) :
    Calls Tryd.prog 22 #[.agg (o.map (Value.int .u8)).toArray, .agg (i.map (Value.int .u8)).toArray, .agg (sideC true c d (.slice aa an ac)).toArray, .agg (sideC false e f (.slice ba bn bc)).toArray] w fun e' w' => e' = .returned (.tuple #[.slice none 0 0, .slice none 0 0, .bool false]) ∧ Below w.heap.size w w' := by
  have b1 := (Below.refl w.heap.size w).alloc (Nat.le_refl _) (.cells (o.map (Value.int .u8)).toArray 23 (0, 0))
  have b2 := b1.alloc b1.size (.cells (i.map (Value.int .u8)).toArray 23 (0, 0))
  have b3 := b2.alloc b2.size (.cells (sideC true c d (.slice aa an ac)).toArray 28 (0, 0))
  have b4 := b3.alloc b3.size (.cells (sideC false e f (.slice ba bn bc)).toArray 28 (0, 0))
  have Ko := hid ((((Blk.new (w := w) (n := w.heap.size) rfl (o.map (Value.int .u8)).toArray 23).old (.cells (i.map (Value.int .u8)).toArray 23 (0, 0))).old (.cells (sideC true c d (.slice aa an ac)).toArray 28 (0, 0))).old (.cells (sideC false e f (.slice ba bn bc)).toArray 28 (0, 0)))
  have Ki := hid (((Blk.new (w := (w.alloc (.cells (o.map (Value.int .u8)).toArray 23 (0, 0)))) (n := w.heap.size + 1) (by simp only [World.size_alloc]) (i.map (Value.int .u8)).toArray 23).old (.cells (sideC true c d (.slice aa an ac)).toArray 28 (0, 0))).old (.cells (sideC false e f (.slice ba bn bc)).toArray 28 (0, 0)))
  have Ka := hid ((Blk.new (w := ((w.alloc (.cells (o.map (Value.int .u8)).toArray 23 (0, 0))).alloc (.cells (i.map (Value.int .u8)).toArray 23 (0, 0)))) (n := w.heap.size + 1 + 1) (by simp only [World.size_alloc]) (sideC true c d (.slice aa an ac)).toArray 28).old (.cells (sideC false e f (.slice ba bn bc)).toArray 28 (0, 0)))
  have Kb := hid (Blk.new (w := (((w.alloc (.cells (o.map (Value.int .u8)).toArray 23 (0, 0))).alloc (.cells (i.map (Value.int .u8)).toArray 23 (0, 0))).alloc (.cells (sideC true c d (.slice aa an ac)).toArray 28 (0, 0)))) (n := w.heap.size + 1 + 1 + 1) (by simp only [World.size_alloc]) (sideC false e f (.slice ba bn bc)).toArray 28)
  have Hb := hid b4
  have hbz := b4.size
  have Hbs := hid (show w.heap.size + 1 + 1 + 1 + 1 = ((((w.alloc (.cells (o.map (Value.int .u8)).toArray 23 (0, 0))).alloc (.cells (i.map (Value.int .u8)).toArray 23 (0, 0))).alloc (.cells (sideC true c d (.slice aa an ac)).toArray 28 (0, 0))).alloc (.cells (sideC false e f (.slice ba bn bc)).toArray 28 (0, 0))).heap.size by simp only [World.size_alloc])
  have Htab := hid tab
  clear b1 b2 b3 b4 tab 
  have HN := hid hN
  have HM := hid hM
  clear hN hM
  have cpa : ((((w.alloc (.cells (o.map (Value.int .u8)).toArray 23 (0, 0))).alloc (.cells (i.map (Value.int .u8)).toArray 23 (0, 0))).alloc (.cells (sideC true c d (.slice aa an ac)).toArray 28 (0, 0))).alloc (.cells (sideC false e f (.slice ba bn bc)).toArray 28 (0, 0))).cell? ⟨w.heap.size + 1 + 1, 0, none⟩ = some (.bool true) := by rw [Ka.out.cell]; rfl
  have cpb : ((((w.alloc (.cells (o.map (Value.int .u8)).toArray 23 (0, 0))).alloc (.cells (i.map (Value.int .u8)).toArray 23 (0, 0))).alloc (.cells (sideC true c d (.slice aa an ac)).toArray 28 (0, 0))).alloc (.cells (sideC false e f (.slice ba bn bc)).toArray 28 (0, 0))).cell? ⟨w.heap.size + 1 + 1 + 1, 0, none⟩ = some (.bool false) := by rw [Kb.out.cell]; rfl
  have C1 := hid (fun (W : World) (h1 : DigsAt W aa an ac ns) (h2 : Blk W w.heap.size (o.map (Value.int .u8)).toArray 23) (h3 : Blk W (w.heap.size + 1) (i.map (Value.int .u8)).toArray 23) (h4 : ShaTab W) => shown_true o i c d aa an ac ns w.heap.size (w.heap.size + 1) W ho hi hc hd h1 h2 h3 h4)
  rw [h1] at C1
  go_enter Tryd.func22, Tryd.ntmps22
  go_wp2_with (with_reducible show wpList _ _ _ (⟨some 34, _, _, _, _, _⟩ :: _) _ _; refine wpList_load_blk_if (by first | rfl | go_simp) 28 _ rfl (w.heap.size + 1 + 1) rfl _ 28 Ka.out _ Tryd.underlying28 rfl 66 size_side (sideC_size hc hd) ?_)
  refine (C1.out _ (HN.out.below Hb.out) Ko.out Ki.out (Htab.out.below Hb.out)).mono ?_
  rintro e w1 ⟨rfl, bw1⟩
  have HBw1 := hid (Below.on Hb.out bw1)
  have hsw1 := HBw1.out.size
  have Kow1 := hid (Ko.out.below bw1)
  have Kiw1 := hid (Ki.out.below bw1)
  have Kaw1 := hid (Ka.out.below bw1)
  have Kbw1 := hid (Kb.out.below bw1)
  clear bw1
  go_wp2_with fail
  go_returns
  exact ⟨rfl, HBw1.out⟩
set_option maxHeartbeats 4000000 in
theorem trees_tf_second (o i c d e f : List Int) (aa ba : Option Addr) (an ac bn bc : Nat) (ns ms : List (List Int)) (w : World) (ho : Dg o) (hi : Dg i) (hc : Dg c) (hd : Dg d) (he : Dg e) (hf : Dg f) (hN : DigsAt w aa an ac ns) (hM : DigsAt w ba bn bc ms) (tab : ShaTab w) (h1 : isSide o i true c d ns = true) (h2 : isSide o i false e f ms = false) :
    Calls Tryd.prog 22 #[.agg (o.map (Value.int .u8)).toArray, .agg (i.map (Value.int .u8)).toArray, .agg (sideC true c d (.slice aa an ac)).toArray, .agg (sideC false e f (.slice ba bn bc)).toArray] w fun e' w' => e' = .returned (.tuple #[.slice none 0 0, .slice none 0 0, .bool false]) ∧ Below w.heap.size w w' := by
  have b1 := (Below.refl w.heap.size w).alloc (Nat.le_refl _) (.cells (o.map (Value.int .u8)).toArray 23 (0, 0))
  have b2 := b1.alloc b1.size (.cells (i.map (Value.int .u8)).toArray 23 (0, 0))
  have b3 := b2.alloc b2.size (.cells (sideC true c d (.slice aa an ac)).toArray 28 (0, 0))
  have b4 := b3.alloc b3.size (.cells (sideC false e f (.slice ba bn bc)).toArray 28 (0, 0))
  have Ko := hid ((((Blk.new (w := w) (n := w.heap.size) rfl (o.map (Value.int .u8)).toArray 23).old (.cells (i.map (Value.int .u8)).toArray 23 (0, 0))).old (.cells (sideC true c d (.slice aa an ac)).toArray 28 (0, 0))).old (.cells (sideC false e f (.slice ba bn bc)).toArray 28 (0, 0)))
  have Ki := hid (((Blk.new (w := (w.alloc (.cells (o.map (Value.int .u8)).toArray 23 (0, 0)))) (n := w.heap.size + 1) (by simp only [World.size_alloc]) (i.map (Value.int .u8)).toArray 23).old (.cells (sideC true c d (.slice aa an ac)).toArray 28 (0, 0))).old (.cells (sideC false e f (.slice ba bn bc)).toArray 28 (0, 0)))
  have Ka := hid ((Blk.new (w := ((w.alloc (.cells (o.map (Value.int .u8)).toArray 23 (0, 0))).alloc (.cells (i.map (Value.int .u8)).toArray 23 (0, 0)))) (n := w.heap.size + 1 + 1) (by simp only [World.size_alloc]) (sideC true c d (.slice aa an ac)).toArray 28).old (.cells (sideC false e f (.slice ba bn bc)).toArray 28 (0, 0)))
  have Kb := hid (Blk.new (w := (((w.alloc (.cells (o.map (Value.int .u8)).toArray 23 (0, 0))).alloc (.cells (i.map (Value.int .u8)).toArray 23 (0, 0))).alloc (.cells (sideC true c d (.slice aa an ac)).toArray 28 (0, 0)))) (n := w.heap.size + 1 + 1 + 1) (by simp only [World.size_alloc]) (sideC false e f (.slice ba bn bc)).toArray 28)
  have Hb := hid b4
  have hbz := b4.size
  have Hbs := hid (show w.heap.size + 1 + 1 + 1 + 1 = ((((w.alloc (.cells (o.map (Value.int .u8)).toArray 23 (0, 0))).alloc (.cells (i.map (Value.int .u8)).toArray 23 (0, 0))).alloc (.cells (sideC true c d (.slice aa an ac)).toArray 28 (0, 0))).alloc (.cells (sideC false e f (.slice ba bn bc)).toArray 28 (0, 0))).heap.size by simp only [World.size_alloc])
  have Htab := hid tab
  clear b1 b2 b3 b4 tab 
  have HN := hid hN
  have HM := hid hM
  clear hN hM
  have cpa : ((((w.alloc (.cells (o.map (Value.int .u8)).toArray 23 (0, 0))).alloc (.cells (i.map (Value.int .u8)).toArray 23 (0, 0))).alloc (.cells (sideC true c d (.slice aa an ac)).toArray 28 (0, 0))).alloc (.cells (sideC false e f (.slice ba bn bc)).toArray 28 (0, 0))).cell? ⟨w.heap.size + 1 + 1, 0, none⟩ = some (.bool true) := by rw [Ka.out.cell]; rfl
  have cpb : ((((w.alloc (.cells (o.map (Value.int .u8)).toArray 23 (0, 0))).alloc (.cells (i.map (Value.int .u8)).toArray 23 (0, 0))).alloc (.cells (sideC true c d (.slice aa an ac)).toArray 28 (0, 0))).alloc (.cells (sideC false e f (.slice ba bn bc)).toArray 28 (0, 0))).cell? ⟨w.heap.size + 1 + 1 + 1, 0, none⟩ = some (.bool false) := by rw [Kb.out.cell]; rfl
  have C1 := hid (fun (W : World) (h1 : DigsAt W aa an ac ns) (h2 : Blk W w.heap.size (o.map (Value.int .u8)).toArray 23) (h3 : Blk W (w.heap.size + 1) (i.map (Value.int .u8)).toArray 23) (h4 : ShaTab W) => shown_true o i c d aa an ac ns w.heap.size (w.heap.size + 1) W ho hi hc hd h1 h2 h3 h4)
  rw [h1] at C1
  have C2 := hid (fun (W : World) (h1 : DigsAt W ba bn bc ms) (h2 : Blk W w.heap.size (o.map (Value.int .u8)).toArray 23) (h3 : Blk W (w.heap.size + 1) (i.map (Value.int .u8)).toArray 23) (h4 : ShaTab W) => shown_false o i e f ba bn bc ms w.heap.size (w.heap.size + 1) W ho hi he hf h1 h2 h3 h4)
  rw [h2] at C2
  go_enter Tryd.func22, Tryd.ntmps22
  go_wp2_with (with_reducible show wpList _ _ _ (⟨some 34, _, _, _, _, _⟩ :: _) _ _; refine wpList_load_blk_if (by first | rfl | go_simp) 28 _ rfl (w.heap.size + 1 + 1) rfl _ 28 Ka.out _ Tryd.underlying28 rfl 66 size_side (sideC_size hc hd) ?_)
  refine (C1.out _ (HN.out.below Hb.out) Ko.out Ki.out (Htab.out.below Hb.out)).mono ?_
  rintro e w1 ⟨rfl, bw1⟩
  have HBw1 := hid (Below.on Hb.out bw1)
  have hsw1 := HBw1.out.size
  have Kow1 := hid (Ko.out.below bw1)
  have Kiw1 := hid (Ki.out.below bw1)
  have Kaw1 := hid (Ka.out.below bw1)
  have Kbw1 := hid (Kb.out.below bw1)
  clear bw1
  go_wp2_with (with_reducible show wpList _ _ _ (⟨some 40, _, _, _, _, _⟩ :: _) _ _; refine wpList_load_blk_if (by first | rfl | go_simp) 28 _ rfl (w.heap.size + 1 + 1 + 1) rfl _ 28 Kbw1.out _ Tryd.underlying28 rfl 66 size_side (sideC_size he hf) ?_)
  refine (C2.out _ (HM.out.below HBw1.out) Kow1.out Kiw1.out (Htab.out.below HBw1.out)).mono ?_
  rintro e w2 ⟨rfl, bw2⟩
  have HBw2 := hid (Below.on HBw1.out bw2)
  have hsw2 := HBw2.out.size
  have Kow2 := hid (Kow1.out.below bw2)
  have Kiw2 := hid (Kiw1.out.below bw2)
  have Kaw2 := hid (Kaw1.out.below bw2)
  have Kbw2 := hid (Kbw1.out.below bw2)
  clear bw2
  go_wp2_with fail
  go_returns
  exact ⟨rfl, HBw2.out⟩
set_option maxHeartbeats 4000000 in
theorem trees_tf_both (o i c d e f : List Int) (aa ba : Option Addr) (an ac bn bc : Nat) (ns ms : List (List Int)) (w : World) (ho : Dg o) (hi : Dg i) (hc : Dg c) (hd : Dg d) (he : Dg e) (hf : Dg f) (hN : DigsAt w aa an ac ns) (hM : DigsAt w ba bn bc ms) (tab : ShaTab w) (h1 : isSide o i true c d ns = true) (h2 : isSide o i false e f ms = true) :
    Calls Tryd.prog 22 #[.agg (o.map (Value.int .u8)).toArray, .agg (i.map (Value.int .u8)).toArray, .agg (sideC true c d (.slice aa an ac)).toArray, .agg (sideC false e f (.slice ba bn bc)).toArray] w fun e' w' => ∃ x y X Y, e' = .returned (.tuple #[x, y, .bool true]) ∧ TextV X x w' ∧ TextV Y y w' ∧ X.length ≤ 65 ∧ Y.length ≤ 65 ∧ X ≠ Y ∧ sumZ X = sumZ Y ∧ Below w.heap.size w w' := by
  have b1 := (Below.refl w.heap.size w).alloc (Nat.le_refl _) (.cells (o.map (Value.int .u8)).toArray 23 (0, 0))
  have b2 := b1.alloc b1.size (.cells (i.map (Value.int .u8)).toArray 23 (0, 0))
  have b3 := b2.alloc b2.size (.cells (sideC true c d (.slice aa an ac)).toArray 28 (0, 0))
  have b4 := b3.alloc b3.size (.cells (sideC false e f (.slice ba bn bc)).toArray 28 (0, 0))
  have Ko := hid ((((Blk.new (w := w) (n := w.heap.size) rfl (o.map (Value.int .u8)).toArray 23).old (.cells (i.map (Value.int .u8)).toArray 23 (0, 0))).old (.cells (sideC true c d (.slice aa an ac)).toArray 28 (0, 0))).old (.cells (sideC false e f (.slice ba bn bc)).toArray 28 (0, 0)))
  have Ki := hid (((Blk.new (w := (w.alloc (.cells (o.map (Value.int .u8)).toArray 23 (0, 0)))) (n := w.heap.size + 1) (by simp only [World.size_alloc]) (i.map (Value.int .u8)).toArray 23).old (.cells (sideC true c d (.slice aa an ac)).toArray 28 (0, 0))).old (.cells (sideC false e f (.slice ba bn bc)).toArray 28 (0, 0)))
  have Ka := hid ((Blk.new (w := ((w.alloc (.cells (o.map (Value.int .u8)).toArray 23 (0, 0))).alloc (.cells (i.map (Value.int .u8)).toArray 23 (0, 0)))) (n := w.heap.size + 1 + 1) (by simp only [World.size_alloc]) (sideC true c d (.slice aa an ac)).toArray 28).old (.cells (sideC false e f (.slice ba bn bc)).toArray 28 (0, 0)))
  have Kb := hid (Blk.new (w := (((w.alloc (.cells (o.map (Value.int .u8)).toArray 23 (0, 0))).alloc (.cells (i.map (Value.int .u8)).toArray 23 (0, 0))).alloc (.cells (sideC true c d (.slice aa an ac)).toArray 28 (0, 0)))) (n := w.heap.size + 1 + 1 + 1) (by simp only [World.size_alloc]) (sideC false e f (.slice ba bn bc)).toArray 28)
  have Hb := hid b4
  have hbz := b4.size
  have Hbs := hid (show w.heap.size + 1 + 1 + 1 + 1 = ((((w.alloc (.cells (o.map (Value.int .u8)).toArray 23 (0, 0))).alloc (.cells (i.map (Value.int .u8)).toArray 23 (0, 0))).alloc (.cells (sideC true c d (.slice aa an ac)).toArray 28 (0, 0))).alloc (.cells (sideC false e f (.slice ba bn bc)).toArray 28 (0, 0))).heap.size by simp only [World.size_alloc])
  have Htab := hid tab
  clear b1 b2 b3 b4 tab 
  have HN := hid hN
  have HM := hid hM
  clear hN hM
  have cpa : ((((w.alloc (.cells (o.map (Value.int .u8)).toArray 23 (0, 0))).alloc (.cells (i.map (Value.int .u8)).toArray 23 (0, 0))).alloc (.cells (sideC true c d (.slice aa an ac)).toArray 28 (0, 0))).alloc (.cells (sideC false e f (.slice ba bn bc)).toArray 28 (0, 0))).cell? ⟨w.heap.size + 1 + 1, 0, none⟩ = some (.bool true) := by rw [Ka.out.cell]; rfl
  have cpb : ((((w.alloc (.cells (o.map (Value.int .u8)).toArray 23 (0, 0))).alloc (.cells (i.map (Value.int .u8)).toArray 23 (0, 0))).alloc (.cells (sideC true c d (.slice aa an ac)).toArray 28 (0, 0))).alloc (.cells (sideC false e f (.slice ba bn bc)).toArray 28 (0, 0))).cell? ⟨w.heap.size + 1 + 1 + 1, 0, none⟩ = some (.bool false) := by rw [Kb.out.cell]; rfl
  have C1 := hid (fun (W : World) (h1 : DigsAt W aa an ac ns) (h2 : Blk W w.heap.size (o.map (Value.int .u8)).toArray 23) (h3 : Blk W (w.heap.size + 1) (i.map (Value.int .u8)).toArray 23) (h4 : ShaTab W) => shown_true o i c d aa an ac ns w.heap.size (w.heap.size + 1) W ho hi hc hd h1 h2 h3 h4)
  rw [h1] at C1
  have C2 := hid (fun (W : World) (h1 : DigsAt W ba bn bc ms) (h2 : Blk W w.heap.size (o.map (Value.int .u8)).toArray 23) (h3 : Blk W (w.heap.size + 1) (i.map (Value.int .u8)).toArray 23) (h4 : ShaTab W) => shown_false o i e f ba bn bc ms w.heap.size (w.heap.size + 1) W ho hi he hf h1 h2 h3 h4)
  rw [h2] at C2
  obtain ⟨n1, s1, r1⟩ := isSide_sibs HN.out h1
  obtain ⟨n2, s2, r2⟩ := isSide_sibs HM.out h2
  obtain ⟨k, hk, hks⟩ := treeT_part (show unS true c false e = true by simp [unS]) s1 s2 r1 r2
  have hs1 : ∀ t ∈ treeT true i c d ns, t.length ≤ 65 := treeT_small hi hc r1
  have hs2 : ∀ t ∈ treeT false i e f ms, t.length ≤ 65 := treeT_small hi he r2
  have hka := firstU_at hk
  have T1 := hid (fun (W : World) (h1 : DigsAt W aa an ac ns) (h3 : ShaTab W) => treeTrail_good true i c d aa an ac ns W hi hc hd h1 h3 n1)
  have T2 := hid (fun (W : World) (h1 : DigsAt W ba bn bc ms) (h3 : ShaTab W) => treeTrail_good false i e f ba bn bc ms W hi he hf h1 h3 n2)
  have HL1 := hid (hs1 _ (show (treeT true i c d ns).getD k [] ∈ treeT true i c d ns by rw [List.getD_eq_getElem?_getD, List.getElem?_eq_getElem hka.1]; exact List.getElem_mem _))
  have HL2 := hid (hs2 _ (show (treeT false i e f ms).getD k [] ∈ treeT false i e f ms by rw [List.getD_eq_getElem?_getD, List.getElem?_eq_getElem hka.2.1]; exact List.getElem_mem _))
  have HNE := hid hka.2.2.2
  have HKS := hid hks
  have PS := hid (fun (a1 a2 : Option Addr) (n1 n2 c1 c2 : Nat) (W : World) (h1 : TextsAt W a1 n1 c1 (treeT true i c d ns)) (h2 : TextsAt W a2 n2 c2 (treeT false i e f ms)) => part_some a1 a2 n1 n2 c1 c2 _ _ W h1 h2 (fun t ht => by have := hs1 t ht; omega) (fun t ht => by have := hs2 t ht; omega) hk)
  clear h1 h2 n1 s1 r1 n2 s2 r2 hk hks hs1 hs2 hka
  generalize treeT true i c d ns = AA at *
  generalize treeT false i e f ms = BB at *
  go_enter Tryd.func22, Tryd.ntmps22
  go_wp2_with (with_reducible show wpList _ _ _ (⟨some 34, _, _, _, _, _⟩ :: _) _ _; refine wpList_load_blk_if (by first | rfl | go_simp) 28 _ rfl (w.heap.size + 1 + 1) rfl _ 28 Ka.out _ Tryd.underlying28 rfl 66 size_side (sideC_size hc hd) ?_)
  refine (C1.out _ (HN.out.below Hb.out) Ko.out Ki.out (Htab.out.below Hb.out)).mono ?_
  rintro e w1 ⟨rfl, bw1⟩
  have HBw1 := hid (Below.on Hb.out bw1)
  have hsw1 := HBw1.out.size
  have Kow1 := hid (Ko.out.below bw1)
  have Kiw1 := hid (Ki.out.below bw1)
  have Kaw1 := hid (Ka.out.below bw1)
  have Kbw1 := hid (Kb.out.below bw1)
  clear bw1
  go_wp2_with (with_reducible show wpList _ _ _ (⟨some 40, _, _, _, _, _⟩ :: _) _ _; refine wpList_load_blk_if (by first | rfl | go_simp) 28 _ rfl (w.heap.size + 1 + 1 + 1) rfl _ 28 Kbw1.out _ Tryd.underlying28 rfl 66 size_side (sideC_size he hf) ?_)
  refine (C2.out _ (HM.out.below HBw1.out) Kow1.out Kiw1.out (Htab.out.below HBw1.out)).mono ?_
  rintro e w2 ⟨rfl, bw2⟩
  have HBw2 := hid (Below.on HBw1.out bw2)
  have hsw2 := HBw2.out.size
  have Kow2 := hid (Kow1.out.below bw2)
  have Kiw2 := hid (Kiw1.out.below bw2)
  have Kaw2 := hid (Kaw1.out.below bw2)
  have Kbw2 := hid (Kbw1.out.below bw2)
  clear bw2
  go_wp2_with fail
  refine wp_region_flow 10 [0, 1, 3, 4] [] [(.c 2, [], []), (.c 5, [], []), (.c 6, [7, 8, 9], [])] (by kernel_rfl) (by kernel_rfl) ?_
  apply Exists.intro
  refine ⟨fun w0 hb0 hF0 => ?_, ?_⟩
  · skip
    have x0 : ∀ w', (∃ x : Ext w0, w' = x.at_) → ∃ T, Blk w' (w.heap.size + 1) (i.map (Value.int .u8)).toArray T := fun w' ⟨x, hx⟩ => ⟨_, hx ▸ (Kiw2.out.below hb0).below x.same⟩
    have x1 : ∀ w', (∃ x : Ext w0, w' = x.at_) → ∃ T, Blk w' (w.heap.size + 1 + 1) (sideC true c d (.slice aa an ac)).toArray T := fun w' ⟨x, hx⟩ => ⟨_, hx ▸ (Kaw2.out.below hb0).below x.same⟩
    have x2 : ∀ w', (∃ x : Ext w0, w' = x.at_) → ∃ T, Blk w' (w.heap.size + 1 + 1 + 1) (sideC false e f (.slice ba bn bc)).toArray T := fun w' ⟨x, hx⟩ => ⟨_, hx ▸ (Kbw2.out.below hb0).below x.same⟩
    simp only [pick, List.getElem?_toArray, List.getElem?_cons_succ, List.getElem?_cons_zero, Option.toList_some, List.cons_append, List.nil_append]
    repeat (first | (go_big_quiet_want; refine quiet_load_blk 23 _ rfl (w.heap.size + 1) rfl _ x0 _ Tryd.underlying23 rfl 32 size_digest hi.size ?_; go_big_quiet_on; simp only [Act.put, List.setIfInBounds_toArray, List.set_cons_zero, List.set_cons_succ]) | (go_big_quiet_want; refine quiet_load_blk 28 _ rfl (w.heap.size + 1 + 1) rfl _ x1 _ Tryd.underlying28 rfl 66 size_side (sideC_size hc hd) ?_; go_big_quiet_on; simp only [Act.put, List.setIfInBounds_toArray, List.set_cons_zero, List.set_cons_succ]) | (go_big_quiet_want; refine quiet_load_blk 28 _ rfl (w.heap.size + 1 + 1 + 1) rfl _ x2 _ Tryd.underlying28 rfl 66 size_side (sideC_size he hf) ?_; go_big_quiet_on; simp only [Act.put, List.setIfInBounds_toArray, List.set_cons_zero, List.set_cons_succ]) | go_big_quiet_step (fail))
    exact wpQuiet_nil rfl
  refine AlChk.nil ?_
  refine Walk.call rfl 10 #[.agg (i.map (Value.int .u8)).toArray, .agg (sideC true c d (.slice aa an ac)).toArray] (TextsV AA) (fun v w' w'' h k => h.below k) rfl (fun w1 hb1 hF1 => ⟨by go_simp, ?_⟩) ?_
  · skip
    refine (T1.out w1 (HN.out.below (Below.on HBw2.out hb1)) (Htab.out.below (Below.on HBw2.out hb1))).mono ?_
    rintro e' w2 ⟨v', rfl, S', base', -, o', b'⟩
    obtain ⟨p', c', rfl, t'⟩ := o'.texts
    exact ⟨_, rfl, b', _, _, _, rfl, t'⟩
  rintro v0 w1 hb1 hF1 ⟨p1, n1, c1, rfl, _⟩
  apply Exists.intro
  refine ⟨fun w0 hb0 hF0 => ?_, ?_⟩
  · skip
    exact wpQuiet_nil rfl
  refine AlChk.nil ?_
  refine Walk.call rfl 10 #[.agg (i.map (Value.int .u8)).toArray, .agg (sideC false e f (.slice ba bn bc)).toArray] (TextsV BB) (fun v w' w'' h k => h.below k) rfl (fun w1 hb1 hF1 => ⟨by go_simp, ?_⟩) ?_
  · skip
    refine (T2.out w1 (HM.out.below (Below.on HBw2.out hb1)) (Htab.out.below (Below.on HBw2.out hb1))).mono ?_
    rintro e' w2 ⟨v', rfl, S', base', -, o', b'⟩
    obtain ⟨p', c', rfl, t'⟩ := o'.texts
    exact ⟨_, rfl, b', _, _, _, rfl, t'⟩
  rintro v1 w1 hb1 hF1 ⟨p2, n2, c2, rfl, _⟩
  apply Exists.intro
  refine ⟨fun w0 hb0 hF0 => ?_, ?_⟩
  · skip
    exact wpQuiet_nil rfl
  refine AlChk.nil ?_
  refine Walk.call rfl 19 #[.slice p1 n1 c1, .slice p2 n2 c2] (PairV (AA.getD k []) (BB.getD k [])) (fun v w' w'' h k => h.below k) rfl (fun w1 hb1 hF1 => ⟨by go_simp, ?_⟩) ?_
  · skip
    obtain ⟨_, _, _, hq1, ht1⟩ := hF1.1.2
    obtain ⟨_, _, _, hq2, ht2⟩ := hF1.2
    cases hq1
    cases hq2
    refine (PS.out _ _ _ _ _ _ _ ht1 ht2).mono ?_
    rintro e' w2 ⟨x3, y3, rfl, r1, r2, b3⟩
    exact ⟨_, rfl, b3, _, _, rfl, r1, r2⟩
  rintro v2 w1 hb1 hF1 ⟨x3, y3, rfl, _⟩
  apply Exists.intro
  refine ⟨fun w0 hb0 hF0 => ?_, ?_⟩
  · skip
    simp only [pick, List.getElem?_toArray, List.getElem?_cons_succ, List.getElem?_cons_zero, Option.toList_some, List.cons_append, List.nil_append, Act.put, List.setIfInBounds_toArray, List.set_cons_zero, List.set_cons_succ]
    repeat (first | go_big_quiet_step (fail))
    exact wpQuiet_nil rfl
  refine AlChk.nil ?_
  refine Walk.fin fun w3 hw3 hFw3 _ => ?_
  simp only [List.drop_succ_cons, List.drop_zero]
  have HFw3 := hid hFw3
  have HBw3 := hid (Below.on HBw2.out hw3)
  have hsw3 := HBw3.out.size
  have Kow3 := hid (Kow2.out.below hw3)
  have Kiw3 := hid (Kiw2.out.below hw3)
  have Kaw3 := hid (Kaw2.out.below hw3)
  have Kbw3 := hid (Kbw2.out.below hw3)
  clear hw3 hFw3
  go_wp2_with fail
  obtain ⟨x4, y4, hq, r1, r2⟩ := HFw3.out.2
  cases hq
  go_returns
  exact ⟨_, _, _, _, rfl, r1, r2, HL1.out, HL2.out, HNE.out, HKS.out, HBw3.out⟩
set_option maxHeartbeats 4000000 in
theorem trees_ft_first (o i c d e f : List Int) (aa ba : Option Addr) (an ac bn bc : Nat) (ns ms : List (List Int)) (w : World) (ho : Dg o) (hi : Dg i) (hc : Dg c) (hd : Dg d) (_he : Dg e) (_hf : Dg f) (hN : DigsAt w aa an ac ns) (hM : DigsAt w ba bn bc ms) (tab : ShaTab w) (h1 : isSide o i false c d ns = false) :
    Calls Tryd.prog 22 #[.agg (o.map (Value.int .u8)).toArray, .agg (i.map (Value.int .u8)).toArray, .agg (sideC false c d (.slice aa an ac)).toArray, .agg (sideC true e f (.slice ba bn bc)).toArray] w fun e' w' => e' = .returned (.tuple #[.slice none 0 0, .slice none 0 0, .bool false]) ∧ Below w.heap.size w w' := by
  have b1 := (Below.refl w.heap.size w).alloc (Nat.le_refl _) (.cells (o.map (Value.int .u8)).toArray 23 (0, 0))
  have b2 := b1.alloc b1.size (.cells (i.map (Value.int .u8)).toArray 23 (0, 0))
  have b3 := b2.alloc b2.size (.cells (sideC false c d (.slice aa an ac)).toArray 28 (0, 0))
  have b4 := b3.alloc b3.size (.cells (sideC true e f (.slice ba bn bc)).toArray 28 (0, 0))
  have Ko := hid ((((Blk.new (w := w) (n := w.heap.size) rfl (o.map (Value.int .u8)).toArray 23).old (.cells (i.map (Value.int .u8)).toArray 23 (0, 0))).old (.cells (sideC false c d (.slice aa an ac)).toArray 28 (0, 0))).old (.cells (sideC true e f (.slice ba bn bc)).toArray 28 (0, 0)))
  have Ki := hid (((Blk.new (w := (w.alloc (.cells (o.map (Value.int .u8)).toArray 23 (0, 0)))) (n := w.heap.size + 1) (by simp only [World.size_alloc]) (i.map (Value.int .u8)).toArray 23).old (.cells (sideC false c d (.slice aa an ac)).toArray 28 (0, 0))).old (.cells (sideC true e f (.slice ba bn bc)).toArray 28 (0, 0)))
  have Ka := hid ((Blk.new (w := ((w.alloc (.cells (o.map (Value.int .u8)).toArray 23 (0, 0))).alloc (.cells (i.map (Value.int .u8)).toArray 23 (0, 0)))) (n := w.heap.size + 1 + 1) (by simp only [World.size_alloc]) (sideC false c d (.slice aa an ac)).toArray 28).old (.cells (sideC true e f (.slice ba bn bc)).toArray 28 (0, 0)))
  have Kb := hid (Blk.new (w := (((w.alloc (.cells (o.map (Value.int .u8)).toArray 23 (0, 0))).alloc (.cells (i.map (Value.int .u8)).toArray 23 (0, 0))).alloc (.cells (sideC false c d (.slice aa an ac)).toArray 28 (0, 0)))) (n := w.heap.size + 1 + 1 + 1) (by simp only [World.size_alloc]) (sideC true e f (.slice ba bn bc)).toArray 28)
  have Hb := hid b4
  have hbz := b4.size
  have Hbs := hid (show w.heap.size + 1 + 1 + 1 + 1 = ((((w.alloc (.cells (o.map (Value.int .u8)).toArray 23 (0, 0))).alloc (.cells (i.map (Value.int .u8)).toArray 23 (0, 0))).alloc (.cells (sideC false c d (.slice aa an ac)).toArray 28 (0, 0))).alloc (.cells (sideC true e f (.slice ba bn bc)).toArray 28 (0, 0))).heap.size by simp only [World.size_alloc])
  have Htab := hid tab
  clear b1 b2 b3 b4 tab 
  have HN := hid hN
  have HM := hid hM
  clear hN hM
  have cpa : ((((w.alloc (.cells (o.map (Value.int .u8)).toArray 23 (0, 0))).alloc (.cells (i.map (Value.int .u8)).toArray 23 (0, 0))).alloc (.cells (sideC false c d (.slice aa an ac)).toArray 28 (0, 0))).alloc (.cells (sideC true e f (.slice ba bn bc)).toArray 28 (0, 0))).cell? ⟨w.heap.size + 1 + 1, 0, none⟩ = some (.bool false) := by rw [Ka.out.cell]; rfl
  have cpb : ((((w.alloc (.cells (o.map (Value.int .u8)).toArray 23 (0, 0))).alloc (.cells (i.map (Value.int .u8)).toArray 23 (0, 0))).alloc (.cells (sideC false c d (.slice aa an ac)).toArray 28 (0, 0))).alloc (.cells (sideC true e f (.slice ba bn bc)).toArray 28 (0, 0))).cell? ⟨w.heap.size + 1 + 1 + 1, 0, none⟩ = some (.bool true) := by rw [Kb.out.cell]; rfl
  have C1 := hid (fun (W : World) (h1 : DigsAt W aa an ac ns) (h2 : Blk W w.heap.size (o.map (Value.int .u8)).toArray 23) (h3 : Blk W (w.heap.size + 1) (i.map (Value.int .u8)).toArray 23) (h4 : ShaTab W) => shown_false o i c d aa an ac ns w.heap.size (w.heap.size + 1) W ho hi hc hd h1 h2 h3 h4)
  rw [h1] at C1
  go_enter Tryd.func22, Tryd.ntmps22
  go_wp2_with (with_reducible show wpList _ _ _ (⟨some 34, _, _, _, _, _⟩ :: _) _ _; refine wpList_load_blk_if (by first | rfl | go_simp) 28 _ rfl (w.heap.size + 1 + 1) rfl _ 28 Ka.out _ Tryd.underlying28 rfl 66 size_side (sideC_size hc hd) ?_)
  refine (C1.out _ (HN.out.below Hb.out) Ko.out Ki.out (Htab.out.below Hb.out)).mono ?_
  rintro e w1 ⟨rfl, bw1⟩
  have HBw1 := hid (Below.on Hb.out bw1)
  have hsw1 := HBw1.out.size
  have Kow1 := hid (Ko.out.below bw1)
  have Kiw1 := hid (Ki.out.below bw1)
  have Kaw1 := hid (Ka.out.below bw1)
  have Kbw1 := hid (Kb.out.below bw1)
  clear bw1
  go_wp2_with fail
  go_returns
  exact ⟨rfl, HBw1.out⟩
set_option maxHeartbeats 4000000 in
theorem trees_ft_second (o i c d e f : List Int) (aa ba : Option Addr) (an ac bn bc : Nat) (ns ms : List (List Int)) (w : World) (ho : Dg o) (hi : Dg i) (hc : Dg c) (hd : Dg d) (he : Dg e) (hf : Dg f) (hN : DigsAt w aa an ac ns) (hM : DigsAt w ba bn bc ms) (tab : ShaTab w) (h1 : isSide o i false c d ns = true) (h2 : isSide o i true e f ms = false) :
    Calls Tryd.prog 22 #[.agg (o.map (Value.int .u8)).toArray, .agg (i.map (Value.int .u8)).toArray, .agg (sideC false c d (.slice aa an ac)).toArray, .agg (sideC true e f (.slice ba bn bc)).toArray] w fun e' w' => e' = .returned (.tuple #[.slice none 0 0, .slice none 0 0, .bool false]) ∧ Below w.heap.size w w' := by
  have b1 := (Below.refl w.heap.size w).alloc (Nat.le_refl _) (.cells (o.map (Value.int .u8)).toArray 23 (0, 0))
  have b2 := b1.alloc b1.size (.cells (i.map (Value.int .u8)).toArray 23 (0, 0))
  have b3 := b2.alloc b2.size (.cells (sideC false c d (.slice aa an ac)).toArray 28 (0, 0))
  have b4 := b3.alloc b3.size (.cells (sideC true e f (.slice ba bn bc)).toArray 28 (0, 0))
  have Ko := hid ((((Blk.new (w := w) (n := w.heap.size) rfl (o.map (Value.int .u8)).toArray 23).old (.cells (i.map (Value.int .u8)).toArray 23 (0, 0))).old (.cells (sideC false c d (.slice aa an ac)).toArray 28 (0, 0))).old (.cells (sideC true e f (.slice ba bn bc)).toArray 28 (0, 0)))
  have Ki := hid (((Blk.new (w := (w.alloc (.cells (o.map (Value.int .u8)).toArray 23 (0, 0)))) (n := w.heap.size + 1) (by simp only [World.size_alloc]) (i.map (Value.int .u8)).toArray 23).old (.cells (sideC false c d (.slice aa an ac)).toArray 28 (0, 0))).old (.cells (sideC true e f (.slice ba bn bc)).toArray 28 (0, 0)))
  have Ka := hid ((Blk.new (w := ((w.alloc (.cells (o.map (Value.int .u8)).toArray 23 (0, 0))).alloc (.cells (i.map (Value.int .u8)).toArray 23 (0, 0)))) (n := w.heap.size + 1 + 1) (by simp only [World.size_alloc]) (sideC false c d (.slice aa an ac)).toArray 28).old (.cells (sideC true e f (.slice ba bn bc)).toArray 28 (0, 0)))
  have Kb := hid (Blk.new (w := (((w.alloc (.cells (o.map (Value.int .u8)).toArray 23 (0, 0))).alloc (.cells (i.map (Value.int .u8)).toArray 23 (0, 0))).alloc (.cells (sideC false c d (.slice aa an ac)).toArray 28 (0, 0)))) (n := w.heap.size + 1 + 1 + 1) (by simp only [World.size_alloc]) (sideC true e f (.slice ba bn bc)).toArray 28)
  have Hb := hid b4
  have hbz := b4.size
  have Hbs := hid (show w.heap.size + 1 + 1 + 1 + 1 = ((((w.alloc (.cells (o.map (Value.int .u8)).toArray 23 (0, 0))).alloc (.cells (i.map (Value.int .u8)).toArray 23 (0, 0))).alloc (.cells (sideC false c d (.slice aa an ac)).toArray 28 (0, 0))).alloc (.cells (sideC true e f (.slice ba bn bc)).toArray 28 (0, 0))).heap.size by simp only [World.size_alloc])
  have Htab := hid tab
  clear b1 b2 b3 b4 tab 
  have HN := hid hN
  have HM := hid hM
  clear hN hM
  have cpa : ((((w.alloc (.cells (o.map (Value.int .u8)).toArray 23 (0, 0))).alloc (.cells (i.map (Value.int .u8)).toArray 23 (0, 0))).alloc (.cells (sideC false c d (.slice aa an ac)).toArray 28 (0, 0))).alloc (.cells (sideC true e f (.slice ba bn bc)).toArray 28 (0, 0))).cell? ⟨w.heap.size + 1 + 1, 0, none⟩ = some (.bool false) := by rw [Ka.out.cell]; rfl
  have cpb : ((((w.alloc (.cells (o.map (Value.int .u8)).toArray 23 (0, 0))).alloc (.cells (i.map (Value.int .u8)).toArray 23 (0, 0))).alloc (.cells (sideC false c d (.slice aa an ac)).toArray 28 (0, 0))).alloc (.cells (sideC true e f (.slice ba bn bc)).toArray 28 (0, 0))).cell? ⟨w.heap.size + 1 + 1 + 1, 0, none⟩ = some (.bool true) := by rw [Kb.out.cell]; rfl
  have C1 := hid (fun (W : World) (h1 : DigsAt W aa an ac ns) (h2 : Blk W w.heap.size (o.map (Value.int .u8)).toArray 23) (h3 : Blk W (w.heap.size + 1) (i.map (Value.int .u8)).toArray 23) (h4 : ShaTab W) => shown_false o i c d aa an ac ns w.heap.size (w.heap.size + 1) W ho hi hc hd h1 h2 h3 h4)
  rw [h1] at C1
  have C2 := hid (fun (W : World) (h1 : DigsAt W ba bn bc ms) (h2 : Blk W w.heap.size (o.map (Value.int .u8)).toArray 23) (h3 : Blk W (w.heap.size + 1) (i.map (Value.int .u8)).toArray 23) (h4 : ShaTab W) => shown_true o i e f ba bn bc ms w.heap.size (w.heap.size + 1) W ho hi he hf h1 h2 h3 h4)
  rw [h2] at C2
  go_enter Tryd.func22, Tryd.ntmps22
  go_wp2_with (with_reducible show wpList _ _ _ (⟨some 34, _, _, _, _, _⟩ :: _) _ _; refine wpList_load_blk_if (by first | rfl | go_simp) 28 _ rfl (w.heap.size + 1 + 1) rfl _ 28 Ka.out _ Tryd.underlying28 rfl 66 size_side (sideC_size hc hd) ?_)
  refine (C1.out _ (HN.out.below Hb.out) Ko.out Ki.out (Htab.out.below Hb.out)).mono ?_
  rintro e w1 ⟨rfl, bw1⟩
  have HBw1 := hid (Below.on Hb.out bw1)
  have hsw1 := HBw1.out.size
  have Kow1 := hid (Ko.out.below bw1)
  have Kiw1 := hid (Ki.out.below bw1)
  have Kaw1 := hid (Ka.out.below bw1)
  have Kbw1 := hid (Kb.out.below bw1)
  clear bw1
  go_wp2_with (with_reducible show wpList _ _ _ (⟨some 40, _, _, _, _, _⟩ :: _) _ _; refine wpList_load_blk_if (by first | rfl | go_simp) 28 _ rfl (w.heap.size + 1 + 1 + 1) rfl _ 28 Kbw1.out _ Tryd.underlying28 rfl 66 size_side (sideC_size he hf) ?_)
  refine (C2.out _ (HM.out.below HBw1.out) Kow1.out Kiw1.out (Htab.out.below HBw1.out)).mono ?_
  rintro e w2 ⟨rfl, bw2⟩
  have HBw2 := hid (Below.on HBw1.out bw2)
  have hsw2 := HBw2.out.size
  have Kow2 := hid (Kow1.out.below bw2)
  have Kiw2 := hid (Kiw1.out.below bw2)
  have Kaw2 := hid (Kaw1.out.below bw2)
  have Kbw2 := hid (Kbw1.out.below bw2)
  clear bw2
  go_wp2_with fail
  go_returns
  exact ⟨rfl, HBw2.out⟩
set_option maxHeartbeats 4000000 in
theorem trees_ft_both (o i c d e f : List Int) (aa ba : Option Addr) (an ac bn bc : Nat) (ns ms : List (List Int)) (w : World) (ho : Dg o) (hi : Dg i) (hc : Dg c) (hd : Dg d) (he : Dg e) (hf : Dg f) (hN : DigsAt w aa an ac ns) (hM : DigsAt w ba bn bc ms) (tab : ShaTab w) (h1 : isSide o i false c d ns = true) (h2 : isSide o i true e f ms = true) :
    Calls Tryd.prog 22 #[.agg (o.map (Value.int .u8)).toArray, .agg (i.map (Value.int .u8)).toArray, .agg (sideC false c d (.slice aa an ac)).toArray, .agg (sideC true e f (.slice ba bn bc)).toArray] w fun e' w' => ∃ x y X Y, e' = .returned (.tuple #[x, y, .bool true]) ∧ TextV X x w' ∧ TextV Y y w' ∧ X.length ≤ 65 ∧ Y.length ≤ 65 ∧ X ≠ Y ∧ sumZ X = sumZ Y ∧ Below w.heap.size w w' := by
  have b1 := (Below.refl w.heap.size w).alloc (Nat.le_refl _) (.cells (o.map (Value.int .u8)).toArray 23 (0, 0))
  have b2 := b1.alloc b1.size (.cells (i.map (Value.int .u8)).toArray 23 (0, 0))
  have b3 := b2.alloc b2.size (.cells (sideC false c d (.slice aa an ac)).toArray 28 (0, 0))
  have b4 := b3.alloc b3.size (.cells (sideC true e f (.slice ba bn bc)).toArray 28 (0, 0))
  have Ko := hid ((((Blk.new (w := w) (n := w.heap.size) rfl (o.map (Value.int .u8)).toArray 23).old (.cells (i.map (Value.int .u8)).toArray 23 (0, 0))).old (.cells (sideC false c d (.slice aa an ac)).toArray 28 (0, 0))).old (.cells (sideC true e f (.slice ba bn bc)).toArray 28 (0, 0)))
  have Ki := hid (((Blk.new (w := (w.alloc (.cells (o.map (Value.int .u8)).toArray 23 (0, 0)))) (n := w.heap.size + 1) (by simp only [World.size_alloc]) (i.map (Value.int .u8)).toArray 23).old (.cells (sideC false c d (.slice aa an ac)).toArray 28 (0, 0))).old (.cells (sideC true e f (.slice ba bn bc)).toArray 28 (0, 0)))
  have Ka := hid ((Blk.new (w := ((w.alloc (.cells (o.map (Value.int .u8)).toArray 23 (0, 0))).alloc (.cells (i.map (Value.int .u8)).toArray 23 (0, 0)))) (n := w.heap.size + 1 + 1) (by simp only [World.size_alloc]) (sideC false c d (.slice aa an ac)).toArray 28).old (.cells (sideC true e f (.slice ba bn bc)).toArray 28 (0, 0)))
  have Kb := hid (Blk.new (w := (((w.alloc (.cells (o.map (Value.int .u8)).toArray 23 (0, 0))).alloc (.cells (i.map (Value.int .u8)).toArray 23 (0, 0))).alloc (.cells (sideC false c d (.slice aa an ac)).toArray 28 (0, 0)))) (n := w.heap.size + 1 + 1 + 1) (by simp only [World.size_alloc]) (sideC true e f (.slice ba bn bc)).toArray 28)
  have Hb := hid b4
  have hbz := b4.size
  have Hbs := hid (show w.heap.size + 1 + 1 + 1 + 1 = ((((w.alloc (.cells (o.map (Value.int .u8)).toArray 23 (0, 0))).alloc (.cells (i.map (Value.int .u8)).toArray 23 (0, 0))).alloc (.cells (sideC false c d (.slice aa an ac)).toArray 28 (0, 0))).alloc (.cells (sideC true e f (.slice ba bn bc)).toArray 28 (0, 0))).heap.size by simp only [World.size_alloc])
  have Htab := hid tab
  clear b1 b2 b3 b4 tab 
  have HN := hid hN
  have HM := hid hM
  clear hN hM
  have cpa : ((((w.alloc (.cells (o.map (Value.int .u8)).toArray 23 (0, 0))).alloc (.cells (i.map (Value.int .u8)).toArray 23 (0, 0))).alloc (.cells (sideC false c d (.slice aa an ac)).toArray 28 (0, 0))).alloc (.cells (sideC true e f (.slice ba bn bc)).toArray 28 (0, 0))).cell? ⟨w.heap.size + 1 + 1, 0, none⟩ = some (.bool false) := by rw [Ka.out.cell]; rfl
  have cpb : ((((w.alloc (.cells (o.map (Value.int .u8)).toArray 23 (0, 0))).alloc (.cells (i.map (Value.int .u8)).toArray 23 (0, 0))).alloc (.cells (sideC false c d (.slice aa an ac)).toArray 28 (0, 0))).alloc (.cells (sideC true e f (.slice ba bn bc)).toArray 28 (0, 0))).cell? ⟨w.heap.size + 1 + 1 + 1, 0, none⟩ = some (.bool true) := by rw [Kb.out.cell]; rfl
  have C1 := hid (fun (W : World) (h1 : DigsAt W aa an ac ns) (h2 : Blk W w.heap.size (o.map (Value.int .u8)).toArray 23) (h3 : Blk W (w.heap.size + 1) (i.map (Value.int .u8)).toArray 23) (h4 : ShaTab W) => shown_false o i c d aa an ac ns w.heap.size (w.heap.size + 1) W ho hi hc hd h1 h2 h3 h4)
  rw [h1] at C1
  have C2 := hid (fun (W : World) (h1 : DigsAt W ba bn bc ms) (h2 : Blk W w.heap.size (o.map (Value.int .u8)).toArray 23) (h3 : Blk W (w.heap.size + 1) (i.map (Value.int .u8)).toArray 23) (h4 : ShaTab W) => shown_true o i e f ba bn bc ms w.heap.size (w.heap.size + 1) W ho hi he hf h1 h2 h3 h4)
  rw [h2] at C2
  obtain ⟨n1, s1, r1⟩ := isSide_sibs HN.out h1
  obtain ⟨n2, s2, r2⟩ := isSide_sibs HM.out h2
  obtain ⟨k, hk, hks⟩ := treeT_part (show unS false c true e = true by simp [unS]) s1 s2 r1 r2
  have hs1 : ∀ t ∈ treeT false i c d ns, t.length ≤ 65 := treeT_small hi hc r1
  have hs2 : ∀ t ∈ treeT true i e f ms, t.length ≤ 65 := treeT_small hi he r2
  have hka := firstU_at hk
  have T1 := hid (fun (W : World) (h1 : DigsAt W aa an ac ns) (h3 : ShaTab W) => treeTrail_good false i c d aa an ac ns W hi hc hd h1 h3 n1)
  have T2 := hid (fun (W : World) (h1 : DigsAt W ba bn bc ms) (h3 : ShaTab W) => treeTrail_good true i e f ba bn bc ms W hi he hf h1 h3 n2)
  have HL1 := hid (hs1 _ (show (treeT false i c d ns).getD k [] ∈ treeT false i c d ns by rw [List.getD_eq_getElem?_getD, List.getElem?_eq_getElem hka.1]; exact List.getElem_mem _))
  have HL2 := hid (hs2 _ (show (treeT true i e f ms).getD k [] ∈ treeT true i e f ms by rw [List.getD_eq_getElem?_getD, List.getElem?_eq_getElem hka.2.1]; exact List.getElem_mem _))
  have HNE := hid hka.2.2.2
  have HKS := hid hks
  have PS := hid (fun (a1 a2 : Option Addr) (n1 n2 c1 c2 : Nat) (W : World) (h1 : TextsAt W a1 n1 c1 (treeT false i c d ns)) (h2 : TextsAt W a2 n2 c2 (treeT true i e f ms)) => part_some a1 a2 n1 n2 c1 c2 _ _ W h1 h2 (fun t ht => by have := hs1 t ht; omega) (fun t ht => by have := hs2 t ht; omega) hk)
  clear h1 h2 n1 s1 r1 n2 s2 r2 hk hks hs1 hs2 hka
  generalize treeT false i c d ns = AA at *
  generalize treeT true i e f ms = BB at *
  go_enter Tryd.func22, Tryd.ntmps22
  go_wp2_with (with_reducible show wpList _ _ _ (⟨some 34, _, _, _, _, _⟩ :: _) _ _; refine wpList_load_blk_if (by first | rfl | go_simp) 28 _ rfl (w.heap.size + 1 + 1) rfl _ 28 Ka.out _ Tryd.underlying28 rfl 66 size_side (sideC_size hc hd) ?_)
  refine (C1.out _ (HN.out.below Hb.out) Ko.out Ki.out (Htab.out.below Hb.out)).mono ?_
  rintro e w1 ⟨rfl, bw1⟩
  have HBw1 := hid (Below.on Hb.out bw1)
  have hsw1 := HBw1.out.size
  have Kow1 := hid (Ko.out.below bw1)
  have Kiw1 := hid (Ki.out.below bw1)
  have Kaw1 := hid (Ka.out.below bw1)
  have Kbw1 := hid (Kb.out.below bw1)
  clear bw1
  go_wp2_with (with_reducible show wpList _ _ _ (⟨some 40, _, _, _, _, _⟩ :: _) _ _; refine wpList_load_blk_if (by first | rfl | go_simp) 28 _ rfl (w.heap.size + 1 + 1 + 1) rfl _ 28 Kbw1.out _ Tryd.underlying28 rfl 66 size_side (sideC_size he hf) ?_)
  refine (C2.out _ (HM.out.below HBw1.out) Kow1.out Kiw1.out (Htab.out.below HBw1.out)).mono ?_
  rintro e w2 ⟨rfl, bw2⟩
  have HBw2 := hid (Below.on HBw1.out bw2)
  have hsw2 := HBw2.out.size
  have Kow2 := hid (Kow1.out.below bw2)
  have Kiw2 := hid (Kiw1.out.below bw2)
  have Kaw2 := hid (Kaw1.out.below bw2)
  have Kbw2 := hid (Kbw1.out.below bw2)
  clear bw2
  go_wp2_with fail
  refine wp_region_flow 10 [0, 1, 3, 4] [] [(.c 2, [], []), (.c 5, [], []), (.c 6, [7, 8, 9], [])] (by kernel_rfl) (by kernel_rfl) ?_
  apply Exists.intro
  refine ⟨fun w0 hb0 hF0 => ?_, ?_⟩
  · skip
    have x0 : ∀ w', (∃ x : Ext w0, w' = x.at_) → ∃ T, Blk w' (w.heap.size + 1) (i.map (Value.int .u8)).toArray T := fun w' ⟨x, hx⟩ => ⟨_, hx ▸ (Kiw2.out.below hb0).below x.same⟩
    have x1 : ∀ w', (∃ x : Ext w0, w' = x.at_) → ∃ T, Blk w' (w.heap.size + 1 + 1) (sideC false c d (.slice aa an ac)).toArray T := fun w' ⟨x, hx⟩ => ⟨_, hx ▸ (Kaw2.out.below hb0).below x.same⟩
    have x2 : ∀ w', (∃ x : Ext w0, w' = x.at_) → ∃ T, Blk w' (w.heap.size + 1 + 1 + 1) (sideC true e f (.slice ba bn bc)).toArray T := fun w' ⟨x, hx⟩ => ⟨_, hx ▸ (Kbw2.out.below hb0).below x.same⟩
    simp only [pick, List.getElem?_toArray, List.getElem?_cons_succ, List.getElem?_cons_zero, Option.toList_some, List.cons_append, List.nil_append]
    repeat (first | (go_big_quiet_want; refine quiet_load_blk 23 _ rfl (w.heap.size + 1) rfl _ x0 _ Tryd.underlying23 rfl 32 size_digest hi.size ?_; go_big_quiet_on; simp only [Act.put, List.setIfInBounds_toArray, List.set_cons_zero, List.set_cons_succ]) | (go_big_quiet_want; refine quiet_load_blk 28 _ rfl (w.heap.size + 1 + 1) rfl _ x1 _ Tryd.underlying28 rfl 66 size_side (sideC_size hc hd) ?_; go_big_quiet_on; simp only [Act.put, List.setIfInBounds_toArray, List.set_cons_zero, List.set_cons_succ]) | (go_big_quiet_want; refine quiet_load_blk 28 _ rfl (w.heap.size + 1 + 1 + 1) rfl _ x2 _ Tryd.underlying28 rfl 66 size_side (sideC_size he hf) ?_; go_big_quiet_on; simp only [Act.put, List.setIfInBounds_toArray, List.set_cons_zero, List.set_cons_succ]) | go_big_quiet_step (fail))
    exact wpQuiet_nil rfl
  refine AlChk.nil ?_
  refine Walk.call rfl 10 #[.agg (i.map (Value.int .u8)).toArray, .agg (sideC false c d (.slice aa an ac)).toArray] (TextsV AA) (fun v w' w'' h k => h.below k) rfl (fun w1 hb1 hF1 => ⟨by go_simp, ?_⟩) ?_
  · skip
    refine (T1.out w1 (HN.out.below (Below.on HBw2.out hb1)) (Htab.out.below (Below.on HBw2.out hb1))).mono ?_
    rintro e' w2 ⟨v', rfl, S', base', -, o', b'⟩
    obtain ⟨p', c', rfl, t'⟩ := o'.texts
    exact ⟨_, rfl, b', _, _, _, rfl, t'⟩
  rintro v0 w1 hb1 hF1 ⟨p1, n1, c1, rfl, _⟩
  apply Exists.intro
  refine ⟨fun w0 hb0 hF0 => ?_, ?_⟩
  · skip
    exact wpQuiet_nil rfl
  refine AlChk.nil ?_
  refine Walk.call rfl 10 #[.agg (i.map (Value.int .u8)).toArray, .agg (sideC true e f (.slice ba bn bc)).toArray] (TextsV BB) (fun v w' w'' h k => h.below k) rfl (fun w1 hb1 hF1 => ⟨by go_simp, ?_⟩) ?_
  · skip
    refine (T2.out w1 (HM.out.below (Below.on HBw2.out hb1)) (Htab.out.below (Below.on HBw2.out hb1))).mono ?_
    rintro e' w2 ⟨v', rfl, S', base', -, o', b'⟩
    obtain ⟨p', c', rfl, t'⟩ := o'.texts
    exact ⟨_, rfl, b', _, _, _, rfl, t'⟩
  rintro v1 w1 hb1 hF1 ⟨p2, n2, c2, rfl, _⟩
  apply Exists.intro
  refine ⟨fun w0 hb0 hF0 => ?_, ?_⟩
  · skip
    exact wpQuiet_nil rfl
  refine AlChk.nil ?_
  refine Walk.call rfl 19 #[.slice p1 n1 c1, .slice p2 n2 c2] (PairV (AA.getD k []) (BB.getD k [])) (fun v w' w'' h k => h.below k) rfl (fun w1 hb1 hF1 => ⟨by go_simp, ?_⟩) ?_
  · skip
    obtain ⟨_, _, _, hq1, ht1⟩ := hF1.1.2
    obtain ⟨_, _, _, hq2, ht2⟩ := hF1.2
    cases hq1
    cases hq2
    refine (PS.out _ _ _ _ _ _ _ ht1 ht2).mono ?_
    rintro e' w2 ⟨x3, y3, rfl, r1, r2, b3⟩
    exact ⟨_, rfl, b3, _, _, rfl, r1, r2⟩
  rintro v2 w1 hb1 hF1 ⟨x3, y3, rfl, _⟩
  apply Exists.intro
  refine ⟨fun w0 hb0 hF0 => ?_, ?_⟩
  · skip
    simp only [pick, List.getElem?_toArray, List.getElem?_cons_succ, List.getElem?_cons_zero, Option.toList_some, List.cons_append, List.nil_append, Act.put, List.setIfInBounds_toArray, List.set_cons_zero, List.set_cons_succ]
    repeat (first | go_big_quiet_step (fail))
    exact wpQuiet_nil rfl
  refine AlChk.nil ?_
  refine Walk.fin fun w3 hw3 hFw3 _ => ?_
  simp only [List.drop_succ_cons, List.drop_zero]
  have HFw3 := hid hFw3
  have HBw3 := hid (Below.on HBw2.out hw3)
  have hsw3 := HBw3.out.size
  have Kow3 := hid (Kow2.out.below hw3)
  have Kiw3 := hid (Kiw2.out.below hw3)
  have Kaw3 := hid (Kaw2.out.below hw3)
  have Kbw3 := hid (Kbw2.out.below hw3)
  clear hw3 hFw3
  go_wp2_with fail
  obtain ⟨x4, y4, hq, r1, r2⟩ := HFw3.out.2
  cases hq
  go_returns
  exact ⟨_, _, _, _, rfl, r1, r2, HL1.out, HL2.out, HNE.out, HKS.out, HBw3.out⟩
set_option maxHeartbeats 4000000 in
theorem trees_same (o i c d e f : List Int) (aa ba : Option Addr) (an ac bn bc : Nat) (ns ms : List (List Int)) (w : World) (_ho : Dg o) (_hi : Dg i) (hc : Dg c) (_hd : Dg d) (he : Dg e) (_hf : Dg f) (hN : DigsAt w aa an ac ns) (hM : DigsAt w ba bn bc ms) (tab : ShaTab w) (hce : c = e) :
    Calls Tryd.prog 22 #[.agg (o.map (Value.int .u8)).toArray, .agg (i.map (Value.int .u8)).toArray, .agg (sideC true c d (.slice aa an ac)).toArray, .agg (sideC true e f (.slice ba bn bc)).toArray] w fun e' w' => e' = .returned (.tuple #[.slice none 0 0, .slice none 0 0, .bool false]) ∧ Below w.heap.size w w' := by
  have b1 := (Below.refl w.heap.size w).alloc (Nat.le_refl _) (.cells (o.map (Value.int .u8)).toArray 23 (0, 0))
  have b2 := b1.alloc b1.size (.cells (i.map (Value.int .u8)).toArray 23 (0, 0))
  have b3 := b2.alloc b2.size (.cells (sideC true c d (.slice aa an ac)).toArray 28 (0, 0))
  have b4 := b3.alloc b3.size (.cells (sideC true e f (.slice ba bn bc)).toArray 28 (0, 0))
  have Ko := hid ((((Blk.new (w := w) (n := w.heap.size) rfl (o.map (Value.int .u8)).toArray 23).old (.cells (i.map (Value.int .u8)).toArray 23 (0, 0))).old (.cells (sideC true c d (.slice aa an ac)).toArray 28 (0, 0))).old (.cells (sideC true e f (.slice ba bn bc)).toArray 28 (0, 0)))
  have Ki := hid (((Blk.new (w := (w.alloc (.cells (o.map (Value.int .u8)).toArray 23 (0, 0)))) (n := w.heap.size + 1) (by simp only [World.size_alloc]) (i.map (Value.int .u8)).toArray 23).old (.cells (sideC true c d (.slice aa an ac)).toArray 28 (0, 0))).old (.cells (sideC true e f (.slice ba bn bc)).toArray 28 (0, 0)))
  have Ka := hid ((Blk.new (w := ((w.alloc (.cells (o.map (Value.int .u8)).toArray 23 (0, 0))).alloc (.cells (i.map (Value.int .u8)).toArray 23 (0, 0)))) (n := w.heap.size + 1 + 1) (by simp only [World.size_alloc]) (sideC true c d (.slice aa an ac)).toArray 28).old (.cells (sideC true e f (.slice ba bn bc)).toArray 28 (0, 0)))
  have Kb := hid (Blk.new (w := (((w.alloc (.cells (o.map (Value.int .u8)).toArray 23 (0, 0))).alloc (.cells (i.map (Value.int .u8)).toArray 23 (0, 0))).alloc (.cells (sideC true c d (.slice aa an ac)).toArray 28 (0, 0)))) (n := w.heap.size + 1 + 1 + 1) (by simp only [World.size_alloc]) (sideC true e f (.slice ba bn bc)).toArray 28)
  have Hb := hid b4
  have hbz := b4.size
  have Hbs := hid (show w.heap.size + 1 + 1 + 1 + 1 = ((((w.alloc (.cells (o.map (Value.int .u8)).toArray 23 (0, 0))).alloc (.cells (i.map (Value.int .u8)).toArray 23 (0, 0))).alloc (.cells (sideC true c d (.slice aa an ac)).toArray 28 (0, 0))).alloc (.cells (sideC true e f (.slice ba bn bc)).toArray 28 (0, 0))).heap.size by simp only [World.size_alloc])
  have Htab := hid tab
  clear b1 b2 b3 b4 tab 
  have HN := hid hN
  have HM := hid hM
  clear hN hM
  have cpa : ((((w.alloc (.cells (o.map (Value.int .u8)).toArray 23 (0, 0))).alloc (.cells (i.map (Value.int .u8)).toArray 23 (0, 0))).alloc (.cells (sideC true c d (.slice aa an ac)).toArray 28 (0, 0))).alloc (.cells (sideC true e f (.slice ba bn bc)).toArray 28 (0, 0))).cell? ⟨w.heap.size + 1 + 1, 0, none⟩ = some (.bool true) := by rw [Ka.out.cell]; rfl
  have cpb : ((((w.alloc (.cells (o.map (Value.int .u8)).toArray 23 (0, 0))).alloc (.cells (i.map (Value.int .u8)).toArray 23 (0, 0))).alloc (.cells (sideC true c d (.slice aa an ac)).toArray 28 (0, 0))).alloc (.cells (sideC true e f (.slice ba bn bc)).toArray 28 (0, 0))).cell? ⟨w.heap.size + 1 + 1 + 1, 0, none⟩ = some (.bool true) := by rw [Kb.out.cell]; rfl
  have qq : ∀ W : World, (binOp .neq 23 (.agg (c.map (Value.int .u8)).toArray) (.agg (e.map (Value.int .u8)).toArray)).run Tryd.prog W = .ok (.bool false) W := fun W => by
    have h := neD c e hc.len he.len W
    rw [decide_eq_true hce] at h
    exact h
  clear hce
  go_enter Tryd.func22, Tryd.ntmps22
  go_wp2_with (first
     | (with_reducible show wpList _ _ _ (⟨some 24, _, _, _, _, _⟩ :: _) _ _; refine wpList_load_mid_if (by first | rfl | go_simp) 23 _ rfl (w.heap.size + 1 + 1) 1 rfl _ _ (sideC_com Ka.out) Tryd.underlying23 rfl (by rw [List.length_map, hc.len]; exact size_digest) ?_)
     | (with_reducible show wpList _ _ _ (⟨some 26, _, _, _, _, _⟩ :: _) _ _; refine wpList_load_mid_if (by first | rfl | go_simp) 23 _ rfl (w.heap.size + 1 + 1 + 1) 1 rfl _ _ (sideC_com Kb.out) Tryd.underlying23 rfl (by rw [List.length_map, he.len]; exact size_digest) ?_))
  go_returns
  exact ⟨rfl, Hb.out⟩
set_option maxHeartbeats 4000000 in
theorem trees_ff (o i c d e f : List Int) (aa ba : Option Addr) (an ac bn bc : Nat) (ns ms : List (List Int)) (w : World) (_ho : Dg o) (_hi : Dg i) (_hc : Dg c) (_hd : Dg d) (_he : Dg e) (_hf : Dg f) (hN : DigsAt w aa an ac ns) (hM : DigsAt w ba bn bc ms) (tab : ShaTab w)  :
    Calls Tryd.prog 22 #[.agg (o.map (Value.int .u8)).toArray, .agg (i.map (Value.int .u8)).toArray, .agg (sideC false c d (.slice aa an ac)).toArray, .agg (sideC false e f (.slice ba bn bc)).toArray] w fun e' w' => e' = .returned (.tuple #[.slice none 0 0, .slice none 0 0, .bool false]) ∧ Below w.heap.size w w' := by
  have b1 := (Below.refl w.heap.size w).alloc (Nat.le_refl _) (.cells (o.map (Value.int .u8)).toArray 23 (0, 0))
  have b2 := b1.alloc b1.size (.cells (i.map (Value.int .u8)).toArray 23 (0, 0))
  have b3 := b2.alloc b2.size (.cells (sideC false c d (.slice aa an ac)).toArray 28 (0, 0))
  have b4 := b3.alloc b3.size (.cells (sideC false e f (.slice ba bn bc)).toArray 28 (0, 0))
  have Ko := hid ((((Blk.new (w := w) (n := w.heap.size) rfl (o.map (Value.int .u8)).toArray 23).old (.cells (i.map (Value.int .u8)).toArray 23 (0, 0))).old (.cells (sideC false c d (.slice aa an ac)).toArray 28 (0, 0))).old (.cells (sideC false e f (.slice ba bn bc)).toArray 28 (0, 0)))
  have Ki := hid (((Blk.new (w := (w.alloc (.cells (o.map (Value.int .u8)).toArray 23 (0, 0)))) (n := w.heap.size + 1) (by simp only [World.size_alloc]) (i.map (Value.int .u8)).toArray 23).old (.cells (sideC false c d (.slice aa an ac)).toArray 28 (0, 0))).old (.cells (sideC false e f (.slice ba bn bc)).toArray 28 (0, 0)))
  have Ka := hid ((Blk.new (w := ((w.alloc (.cells (o.map (Value.int .u8)).toArray 23 (0, 0))).alloc (.cells (i.map (Value.int .u8)).toArray 23 (0, 0)))) (n := w.heap.size + 1 + 1) (by simp only [World.size_alloc]) (sideC false c d (.slice aa an ac)).toArray 28).old (.cells (sideC false e f (.slice ba bn bc)).toArray 28 (0, 0)))
  have Kb := hid (Blk.new (w := (((w.alloc (.cells (o.map (Value.int .u8)).toArray 23 (0, 0))).alloc (.cells (i.map (Value.int .u8)).toArray 23 (0, 0))).alloc (.cells (sideC false c d (.slice aa an ac)).toArray 28 (0, 0)))) (n := w.heap.size + 1 + 1 + 1) (by simp only [World.size_alloc]) (sideC false e f (.slice ba bn bc)).toArray 28)
  have Hb := hid b4
  have hbz := b4.size
  have Hbs := hid (show w.heap.size + 1 + 1 + 1 + 1 = ((((w.alloc (.cells (o.map (Value.int .u8)).toArray 23 (0, 0))).alloc (.cells (i.map (Value.int .u8)).toArray 23 (0, 0))).alloc (.cells (sideC false c d (.slice aa an ac)).toArray 28 (0, 0))).alloc (.cells (sideC false e f (.slice ba bn bc)).toArray 28 (0, 0))).heap.size by simp only [World.size_alloc])
  have Htab := hid tab
  clear b1 b2 b3 b4 tab 
  have HN := hid hN
  have HM := hid hM
  clear hN hM
  have cpa : ((((w.alloc (.cells (o.map (Value.int .u8)).toArray 23 (0, 0))).alloc (.cells (i.map (Value.int .u8)).toArray 23 (0, 0))).alloc (.cells (sideC false c d (.slice aa an ac)).toArray 28 (0, 0))).alloc (.cells (sideC false e f (.slice ba bn bc)).toArray 28 (0, 0))).cell? ⟨w.heap.size + 1 + 1, 0, none⟩ = some (.bool false) := by rw [Ka.out.cell]; rfl
  have cpb : ((((w.alloc (.cells (o.map (Value.int .u8)).toArray 23 (0, 0))).alloc (.cells (i.map (Value.int .u8)).toArray 23 (0, 0))).alloc (.cells (sideC false c d (.slice aa an ac)).toArray 28 (0, 0))).alloc (.cells (sideC false e f (.slice ba bn bc)).toArray 28 (0, 0))).cell? ⟨w.heap.size + 1 + 1 + 1, 0, none⟩ = some (.bool false) := by rw [Kb.out.cell]; rfl
  go_enter Tryd.func22, Tryd.ntmps22
  go_wp2_with fail
  go_returns
  exact ⟨rfl, Hb.out⟩
end Go.Proofs.YtkakoiaahgchmaaDoor
namespace Go.Proofs.YtkakoiaahgchmaaDoor
set_option maxRecDepth 100000
open Go.ChangeShapes Go.WideShapes Go.ChangeAt Go.RowKit
theorem sideC_nodes' {p : Bool} {c d : List Int} {v : Value} {w : World} {b : Nat} {T : TypeId} (hc : Dg c) (hd : Dg d) (k : Blk w b (sideC p c d v).toArray T) : w.cell? ⟨b, 33 + 32, none⟩ = some v := sideC_nodes hc hd k
set_option maxHeartbeats 4000000 in
theorem open_side {H : Type} {enc : TypeId × Value → H} {W : World} {base : Nat} {v : Value} {d : DataW H} {p : List MemPlace} (hv : Value.okWide Tryd.prog W .any base 28 v) (h : DataW.Trod enc Tryd.prog W 0 (fun _ => true) true 28 v d p) :
    ∃ (b : Bool) (e k : List Int) (a : Option Addr) (n c : Nat) (ds : List (List Int)), v = .agg (sideC b e k (.slice a n c)).toArray ∧ Dg e ∧ Dg k ∧ DigsAt W a n c ds := by
  obtain ⟨f0, f1, f2, hu, t0, t1, t2, o0, o1, o2⟩ : ∃ f0 f1 f2 : Field, Tryd.prog.underlying 28 = some (.struct #[f0, f1, f2]) ∧ f0.type = 4 ∧ f1.type = 23 ∧ f2.type = 26 ∧ f0.offset = 0 ∧ f1.offset = 1 ∧ f2.offset = 33 := ⟨_, _, _, Tryd.underlying28, rfl, rfl, rfl, rfl, rfl, rfl⟩
  obtain ⟨g0, g1, hs, s0, s1, p0, p1⟩ : ∃ f0 f1 : Field, Tryd.prog.underlying 26 = some (.struct #[f0, f1]) ∧ f0.type = 23 ∧ f1.type = 24 ∧ f0.offset = 0 ∧ f1.offset = 32 := ⟨_, _, Tryd.underlying26, rfl, rfl, rfl, rfl⟩
  have c32 : Tryd.prog.cellsOf 23 = 32 := by kernel_rfl
  have c33 : Tryd.prog.cellsOf 26 = 33 := by kernel_rfl
  have c66 : Tryd.prog.cellsOf 28 = 66 := by kernel_rfl
  have c1 : Tryd.prog.cellsOf 5 = 1 := by kernel_rfl
  have cb : Tryd.prog.cellsOf 4 = 1 := by kernel_rfl
  have cd : Tryd.prog.cellsOf 24 = 1 := by kernel_rfl
  unfold Value.okWide at hv
  rw [hu] at hv
  obtain ⟨cs, rfl, hsz, _⟩ := hv
  obtain ⟨fuel, hf⟩ := h
  have hf : DataW.trod enc Tryd.prog W 0 (fun _ => true) true fuel 28 cs.toList = some (d, p) := hf
  obtain ⟨y0, y1, y2, n, _, hl, q0, q1, q2⟩ := Go.Deep.trod_struct3 hu hf
  rw [t0, o0, cb] at q0
  rw [t1, o1, c32] at q1
  rw [t2, o2, c33] at q2
  obtain ⟨z0, z1, m, _, hl2, r0, r1⟩ := trod_struct2 hs q2
  rw [s0, p0, c32] at r0
  rw [s1, p1, cd] at r1
  obtain ⟨b, e0, _⟩ := DataW.trod_bool Tryd.underlying4 q0
  obtain ⟨e, k1, e1⟩ := digest_cells Tryd.underlying23 Tryd.underlying5 c32 c1 q1
  obtain ⟨d0, k2, e2⟩ := digest_cells Tryd.underlying23 Tryd.underlying5 c32 c1 r0
  obtain ⟨a, m, c, ds, e3, k3⟩ := digs_cells Tryd.underlying24 Tryd.underlying23 Tryd.underlying5 c32 c1 r1
  refine ⟨b, e, d0, a, m, c, ds, ?_, k1, k2, k3⟩
  refine congrArg Value.agg ?_
  apply Array.ext'
  rw [c66] at hl
  rw [c33] at hl2
  unfold sideC prC
  rw [← e1, ← e2, ← e3]
  have h3 : cs.toList = (cs.toList.drop 0).take 1 ++ ((cs.toList.drop 1).take 32 ++ (cs.toList.drop 33).take 33) := by
    rw [List.take_of_length_le (l := cs.toList.drop 33) (by rw [List.length_drop]; omega)]
    rw [show cs.toList.drop 33 = (cs.toList.drop 1).drop 32 by rw [List.drop_drop], List.take_append_drop, List.drop_zero, List.take_append_drop]
  have h4 : (cs.toList.drop 33).take 33 = (((cs.toList.drop 33).take 33).drop 0).take 32 ++ (((cs.toList.drop 33).take 33).drop 32).take 1 := by
    rw [List.take_of_length_le (l := ((cs.toList.drop 33).take 33).drop 32) (by rw [List.length_drop]; omega), List.drop_zero, List.take_append_drop]
  rw [e0] at h3
  rw [← h4]
  exact h3
end Go.Proofs.YtkakoiaahgchmaaDoor
namespace Go.Proofs.YtkakoiaahgchmaaDoor
set_option maxRecDepth 100000
open Go.ChangeShapes Go.WideShapes Go.ChangeAt Go.RowKit
set_option maxHeartbeats 4000000 in
theorem extrees_tte_yy (o i c d e f : List Int) (aa ba : Option Addr) (an ac bn bc : Nat) (ns ms : List (List Int)) (w : World) (ho : Dg o) (hi : Dg i) (hc : Dg c) (hd : Dg d) (he : Dg e) (hf : Dg f) (hN : DigsAt w aa an ac ns) (hM : DigsAt w ba bn bc ms) (tab : ShaTab w) (hb1 : an ≤ 300) (hb2 : bn ≤ 300) (hce : c = e) (q1 : isSide o i true c d ns = true) (q2 : isSide o i true e f ms = true) :
    Calls Tryd.prog 5 #[.agg (o.map (Value.int .u8)).toArray, .agg (i.map (Value.int .u8)).toArray, .agg (sideC true c d (.slice aa an ac)).toArray, .agg (sideC true e f (.slice ba bn bc)).toArray] w fun e' w' => e' = .returned (.bool true) ∧ Below w.heap.size w w' := by
  have b1 := (Below.refl w.heap.size w).alloc (Nat.le_refl _) (.cells (o.map (Value.int .u8)).toArray 23 (0, 0))
  have b2 := b1.alloc b1.size (.cells (i.map (Value.int .u8)).toArray 23 (0, 0))
  have b3 := b2.alloc b2.size (.cells (sideC true c d (.slice aa an ac)).toArray 28 (0, 0))
  have b4 := b3.alloc b3.size (.cells (sideC true e f (.slice ba bn bc)).toArray 28 (0, 0))
  have Ko := hid ((((Blk.new (w := w) (n := w.heap.size) rfl (o.map (Value.int .u8)).toArray 23).old (.cells (i.map (Value.int .u8)).toArray 23 (0, 0))).old (.cells (sideC true c d (.slice aa an ac)).toArray 28 (0, 0))).old (.cells (sideC true e f (.slice ba bn bc)).toArray 28 (0, 0)))
  have Ki := hid (((Blk.new (w := (w.alloc (.cells (o.map (Value.int .u8)).toArray 23 (0, 0)))) (n := w.heap.size + 1) (by simp only [World.size_alloc]) (i.map (Value.int .u8)).toArray 23).old (.cells (sideC true c d (.slice aa an ac)).toArray 28 (0, 0))).old (.cells (sideC true e f (.slice ba bn bc)).toArray 28 (0, 0)))
  have Ka := hid ((Blk.new (w := ((w.alloc (.cells (o.map (Value.int .u8)).toArray 23 (0, 0))).alloc (.cells (i.map (Value.int .u8)).toArray 23 (0, 0)))) (n := w.heap.size + 1 + 1) (by simp only [World.size_alloc]) (sideC true c d (.slice aa an ac)).toArray 28).old (.cells (sideC true e f (.slice ba bn bc)).toArray 28 (0, 0)))
  have Kb := hid (Blk.new (w := (((w.alloc (.cells (o.map (Value.int .u8)).toArray 23 (0, 0))).alloc (.cells (i.map (Value.int .u8)).toArray 23 (0, 0))).alloc (.cells (sideC true c d (.slice aa an ac)).toArray 28 (0, 0)))) (n := w.heap.size + 1 + 1 + 1) (by simp only [World.size_alloc]) (sideC true e f (.slice ba bn bc)).toArray 28)
  have Hb := hid b4
  have hbz := b4.size
  have Hbs := hid (show w.heap.size + 1 + 1 + 1 + 1 = ((((w.alloc (.cells (o.map (Value.int .u8)).toArray 23 (0, 0))).alloc (.cells (i.map (Value.int .u8)).toArray 23 (0, 0))).alloc (.cells (sideC true c d (.slice aa an ac)).toArray 28 (0, 0))).alloc (.cells (sideC true e f (.slice ba bn bc)).toArray 28 (0, 0))).heap.size by simp only [World.size_alloc])
  have Htab := hid tab
  clear b1 b2 b3 b4 tab 
  have HN := hid hN
  have HM := hid hM
  have qq : ∀ W : World, (binOp .neq 23 (.agg (c.map (Value.int .u8)).toArray) (.agg (e.map (Value.int .u8)).toArray)).run Tryd.prog W = .ok (.bool false) W := fun W => by
    have h := neD c e hc.len he.len W
    rw [decide_eq_true hce] at h
    exact h
  have VV := hid (fun (W : World) (h1 : DigsAt W aa an ac ns) (h2 : DigsAt W ba bn bc ms) (h3 : ShaTab W) => trees_same o i c d e f aa ba an ac bn bc ns ms W ho hi hc hd he hf h1 h2 h3 hce)
  have I1 := hid (fun (W : World) (h1 : DigsAt W aa an ac ns ) (h3 : ShaTab W) => present_is o i c d aa an ac ns W ho hi hc hd h1 h3)
  rw [q1] at I1
  have I2 := hid (fun (W : World) (h1 : DigsAt W ba bn bc ms ) (h3 : ShaTab W) => present_is o i e f ba bn bc ms W ho hi he hf h1 h3)
  rw [q2] at I2
  clear hce
  have hca : ¬ (300 : Int) < (an : Int) := by omega
  have hcb : ¬ (300 : Int) < (bn : Int) := by omega
  clear hN hM
  have cna : ((((w.alloc (.cells (o.map (Value.int .u8)).toArray 23 (0, 0))).alloc (.cells (i.map (Value.int .u8)).toArray 23 (0, 0))).alloc (.cells (sideC true c d (.slice aa an ac)).toArray 28 (0, 0))).alloc (.cells (sideC true e f (.slice ba bn bc)).toArray 28 (0, 0))).cell? ⟨w.heap.size + 1 + 1, 33 + 32, none⟩ = some (.slice aa an ac) := sideC_nodes' hc hd Ka.out
  have cnb : ((((w.alloc (.cells (o.map (Value.int .u8)).toArray 23 (0, 0))).alloc (.cells (i.map (Value.int .u8)).toArray 23 (0, 0))).alloc (.cells (sideC true c d (.slice aa an ac)).toArray 28 (0, 0))).alloc (.cells (sideC true e f (.slice ba bn bc)).toArray 28 (0, 0))).cell? ⟨w.heap.size + 1 + 1 + 1, 33 + 32, none⟩ = some (.slice ba bn bc) := sideC_nodes' he hf Kb.out
  go_enter Tryd.func5, Tryd.ntmps5
  go_wp2_with (first
     | (refine wpList_load_blk rfl 23 _ rfl (w.heap.size) rfl _ 23 Ko.out _ Tryd.underlying23 rfl 32 size_digest ho.size ?_)
     | (refine wpList_load_blk rfl 23 _ rfl (w.heap.size + 1) rfl _ 23 Ki.out _ Tryd.underlying23 rfl 32 size_digest hi.size ?_)
     | (refine wpList_load_blk rfl 28 _ rfl (w.heap.size + 1 + 1) rfl _ 28 Ka.out _ Tryd.underlying28 rfl 66 size_side (sideC_size hc hd) ?_)
     | (refine wpList_load_blk rfl 28 _ rfl (w.heap.size + 1 + 1 + 1) rfl _ 28 Kb.out _ Tryd.underlying28 rfl 66 size_side (sideC_size he hf) ?_))
  clear cna cnb
  refine (VV.out _ (HN.out.below Hb.out) (HM.out.below Hb.out) (Htab.out.below Hb.out)).mono ?_
  rintro e w1 ⟨rfl, bw1⟩
  have HBw1 := hid (Below.on Hb.out bw1)
  have hsw1 := HBw1.out.size
  have Kow1 := hid (Ko.out.below bw1)
  have Kiw1 := hid (Ki.out.below bw1)
  have Kaw1 := hid (Ka.out.below bw1)
  have Kbw1 := hid (Kb.out.below bw1)
  clear bw1
  have cpa : w1.cell? ⟨w.heap.size + 1 + 1, 0, none⟩ = some (.bool true) := by rw [Kaw1.out.cell]; rfl
  have cpb : w1.cell? ⟨w.heap.size + 1 + 1 + 1, 0, none⟩ = some (.bool true) := by rw [Kbw1.out.cell]; rfl
  go_wp2_with (first
     | (with_reducible show wpList _ _ _ (⟨some 40, _, _, _, _, _⟩ :: _) _ _; refine wpList_load_blk_if (by first | rfl | go_simp) 23 _ rfl (w.heap.size) rfl _ 23 Kow1.out _ Tryd.underlying23 rfl 32 size_digest ho.size ?_)
     | (with_reducible show wpList _ _ _ (⟨some 41, _, _, _, _, _⟩ :: _) _ _; refine wpList_load_blk_if (by first | rfl | go_simp) 23 _ rfl (w.heap.size + 1) rfl _ 23 Kiw1.out _ Tryd.underlying23 rfl 32 size_digest hi.size ?_)
     | (with_reducible show wpList _ _ _ (⟨some 43, _, _, _, _, _⟩ :: _) _ _; refine wpList_load_mid_if (by first | rfl | go_simp) 23 _ rfl (w.heap.size + 1 + 1) 1 rfl _ _ (sideC_com Kaw1.out) Tryd.underlying23 rfl (by rw [List.length_map, hc.len]; exact size_digest) ?_)
     | (with_reducible show wpList _ _ _ (⟨some 45, _, _, _, _, _⟩ :: _) _ _; refine wpList_load_mid_if (by first | rfl | go_simp) 26 _ rfl (w.heap.size + 1 + 1) 33 rfl _ _ (sideC_proof hc Kaw1.out) Tryd.underlying26 rfl (by rw [show (prC d (.slice aa an ac)).length = 33 by simp [prC, hd.len]]; exact size_proof) ?_))
  clear cpa cpb
  refine (I1.out _ (HN.out.below HBw1.out) (Htab.out.below HBw1.out)).mono ?_
  rintro e w2 ⟨rfl, bw2⟩
  have HBw2 := hid (Below.on HBw1.out bw2)
  have hsw2 := HBw2.out.size
  have Kow2 := hid (Kow1.out.below bw2)
  have Kiw2 := hid (Kiw1.out.below bw2)
  have Kaw2 := hid (Kaw1.out.below bw2)
  have Kbw2 := hid (Kbw1.out.below bw2)
  clear bw2
  have cpa : w2.cell? ⟨w.heap.size + 1 + 1, 0, none⟩ = some (.bool true) := by rw [Kaw2.out.cell]; rfl
  have cpb : w2.cell? ⟨w.heap.size + 1 + 1 + 1, 0, none⟩ = some (.bool true) := by rw [Kbw2.out.cell]; rfl
  go_wp2_with (first
     | (with_reducible show wpList _ _ _ (⟨some 63, _, _, _, _, _⟩ :: _) _ _; refine wpList_load_blk_if (by first | rfl | go_simp) 23 _ rfl (w.heap.size) rfl _ 23 Kow2.out _ Tryd.underlying23 rfl 32 size_digest ho.size ?_)
     | (with_reducible show wpList _ _ _ (⟨some 64, _, _, _, _, _⟩ :: _) _ _; refine wpList_load_blk_if (by first | rfl | go_simp) 23 _ rfl (w.heap.size + 1) rfl _ 23 Kiw2.out _ Tryd.underlying23 rfl 32 size_digest hi.size ?_)
     | (with_reducible show wpList _ _ _ (⟨some 66, _, _, _, _, _⟩ :: _) _ _; refine wpList_load_mid_if (by first | rfl | go_simp) 23 _ rfl (w.heap.size + 1 + 1 + 1) 1 rfl _ _ (sideC_com Kbw2.out) Tryd.underlying23 rfl (by rw [List.length_map, he.len]; exact size_digest) ?_)
     | (with_reducible show wpList _ _ _ (⟨some 68, _, _, _, _, _⟩ :: _) _ _; refine wpList_load_mid_if (by first | rfl | go_simp) 26 _ rfl (w.heap.size + 1 + 1 + 1) 33 rfl _ _ (sideC_proof he Kbw2.out) Tryd.underlying26 rfl (by rw [show (prC f (.slice ba bn bc)).length = 33 by simp [prC, hf.len]]; exact size_proof) ?_))
  clear cpa cpb
  refine (I2.out _ (HM.out.below HBw2.out) (Htab.out.below HBw2.out)).mono ?_
  rintro e w3 ⟨rfl, bw3⟩
  have HBw3 := hid (Below.on HBw2.out bw3)
  have hsw3 := HBw3.out.size
  have Kow3 := hid (Kow2.out.below bw3)
  have Kiw3 := hid (Kiw2.out.below bw3)
  have Kaw3 := hid (Kaw2.out.below bw3)
  have Kbw3 := hid (Kbw2.out.below bw3)
  clear bw3
  have cpa : w3.cell? ⟨w.heap.size + 1 + 1, 0, none⟩ = some (.bool true) := by rw [Kaw3.out.cell]; rfl
  have cpb : w3.cell? ⟨w.heap.size + 1 + 1 + 1, 0, none⟩ = some (.bool true) := by rw [Kbw3.out.cell]; rfl
  go_wp2_with (first
     | (with_reducible show wpList _ _ _ (⟨some 93, _, _, _, _, _⟩ :: _) _ _; refine wpList_load_mid_if (by first | rfl | go_simp) 23 _ rfl (w.heap.size + 1 + 1) 1 rfl _ _ (sideC_com Kaw3.out) Tryd.underlying23 rfl (by rw [List.length_map, hc.len]; exact size_digest) ?_)
     | (with_reducible show wpList _ _ _ (⟨some 95, _, _, _, _, _⟩ :: _) _ _; refine wpList_load_mid_if (by first | rfl | go_simp) 23 _ rfl (w.heap.size + 1 + 1 + 1) 1 rfl _ _ (sideC_com Kbw3.out) Tryd.underlying23 rfl (by rw [List.length_map, he.len]; exact size_digest) ?_))
  clear cpa cpb
  refine (lnone_yes _).mono ?_
  rintro e w4 ⟨rfl, bw4⟩
  have HBw4 := hid (Below.on HBw3.out bw4)
  have hsw4 := HBw4.out.size
  have Kow4 := hid (Kow3.out.below bw4)
  have Kiw4 := hid (Kiw3.out.below bw4)
  have Kaw4 := hid (Kaw3.out.below bw4)
  have Kbw4 := hid (Kbw3.out.below bw4)
  clear bw4
  go_wp2_with fail
  refine (knows23 _ (Htab.out.below HBw4.out)).mono ?_
  rintro e w5 ⟨rfl, bw5⟩
  have HBw5 := hid (Below.on HBw4.out bw5)
  have hsw5 := HBw5.out.size
  have Kow5 := hid (Kow4.out.below bw5)
  have Kiw5 := hid (Kiw4.out.below bw5)
  have Kaw5 := hid (Kaw4.out.below bw5)
  have Kbw5 := hid (Kbw4.out.below bw5)
  clear bw5
  go_wp2_with fail
  go_returns
  exact ⟨by first | rfl | simp, HBw5.out⟩
set_option maxHeartbeats 4000000 in
theorem extrees_tte_yn (o i c d e f : List Int) (aa ba : Option Addr) (an ac bn bc : Nat) (ns ms : List (List Int)) (w : World) (ho : Dg o) (hi : Dg i) (hc : Dg c) (hd : Dg d) (he : Dg e) (hf : Dg f) (hN : DigsAt w aa an ac ns) (hM : DigsAt w ba bn bc ms) (tab : ShaTab w) (hb1 : an ≤ 300) (hb2 : bn ≤ 300) (hce : c = e) (q1 : isSide o i true c d ns = true) (q2 : isSide o i true e f ms = false) :
    Calls Tryd.prog 5 #[.agg (o.map (Value.int .u8)).toArray, .agg (i.map (Value.int .u8)).toArray, .agg (sideC true c d (.slice aa an ac)).toArray, .agg (sideC true e f (.slice ba bn bc)).toArray] w fun e' w' => e' = .returned (.bool true) ∧ Below w.heap.size w w' := by
  have b1 := (Below.refl w.heap.size w).alloc (Nat.le_refl _) (.cells (o.map (Value.int .u8)).toArray 23 (0, 0))
  have b2 := b1.alloc b1.size (.cells (i.map (Value.int .u8)).toArray 23 (0, 0))
  have b3 := b2.alloc b2.size (.cells (sideC true c d (.slice aa an ac)).toArray 28 (0, 0))
  have b4 := b3.alloc b3.size (.cells (sideC true e f (.slice ba bn bc)).toArray 28 (0, 0))
  have Ko := hid ((((Blk.new (w := w) (n := w.heap.size) rfl (o.map (Value.int .u8)).toArray 23).old (.cells (i.map (Value.int .u8)).toArray 23 (0, 0))).old (.cells (sideC true c d (.slice aa an ac)).toArray 28 (0, 0))).old (.cells (sideC true e f (.slice ba bn bc)).toArray 28 (0, 0)))
  have Ki := hid (((Blk.new (w := (w.alloc (.cells (o.map (Value.int .u8)).toArray 23 (0, 0)))) (n := w.heap.size + 1) (by simp only [World.size_alloc]) (i.map (Value.int .u8)).toArray 23).old (.cells (sideC true c d (.slice aa an ac)).toArray 28 (0, 0))).old (.cells (sideC true e f (.slice ba bn bc)).toArray 28 (0, 0)))
  have Ka := hid ((Blk.new (w := ((w.alloc (.cells (o.map (Value.int .u8)).toArray 23 (0, 0))).alloc (.cells (i.map (Value.int .u8)).toArray 23 (0, 0)))) (n := w.heap.size + 1 + 1) (by simp only [World.size_alloc]) (sideC true c d (.slice aa an ac)).toArray 28).old (.cells (sideC true e f (.slice ba bn bc)).toArray 28 (0, 0)))
  have Kb := hid (Blk.new (w := (((w.alloc (.cells (o.map (Value.int .u8)).toArray 23 (0, 0))).alloc (.cells (i.map (Value.int .u8)).toArray 23 (0, 0))).alloc (.cells (sideC true c d (.slice aa an ac)).toArray 28 (0, 0)))) (n := w.heap.size + 1 + 1 + 1) (by simp only [World.size_alloc]) (sideC true e f (.slice ba bn bc)).toArray 28)
  have Hb := hid b4
  have hbz := b4.size
  have Hbs := hid (show w.heap.size + 1 + 1 + 1 + 1 = ((((w.alloc (.cells (o.map (Value.int .u8)).toArray 23 (0, 0))).alloc (.cells (i.map (Value.int .u8)).toArray 23 (0, 0))).alloc (.cells (sideC true c d (.slice aa an ac)).toArray 28 (0, 0))).alloc (.cells (sideC true e f (.slice ba bn bc)).toArray 28 (0, 0))).heap.size by simp only [World.size_alloc])
  have Htab := hid tab
  clear b1 b2 b3 b4 tab 
  have HN := hid hN
  have HM := hid hM
  have qq : ∀ W : World, (binOp .neq 23 (.agg (c.map (Value.int .u8)).toArray) (.agg (e.map (Value.int .u8)).toArray)).run Tryd.prog W = .ok (.bool false) W := fun W => by
    have h := neD c e hc.len he.len W
    rw [decide_eq_true hce] at h
    exact h
  have VV := hid (fun (W : World) (h1 : DigsAt W aa an ac ns) (h2 : DigsAt W ba bn bc ms) (h3 : ShaTab W) => trees_same o i c d e f aa ba an ac bn bc ns ms W ho hi hc hd he hf h1 h2 h3 hce)
  have I1 := hid (fun (W : World) (h1 : DigsAt W aa an ac ns ) (h3 : ShaTab W) => present_is o i c d aa an ac ns W ho hi hc hd h1 h3)
  rw [q1] at I1
  have I2 := hid (fun (W : World) (h1 : DigsAt W ba bn bc ms ) (h3 : ShaTab W) => present_is o i e f ba bn bc ms W ho hi he hf h1 h3)
  rw [q2] at I2
  clear hce
  have hca : ¬ (300 : Int) < (an : Int) := by omega
  have hcb : ¬ (300 : Int) < (bn : Int) := by omega
  clear hN hM
  have cna : ((((w.alloc (.cells (o.map (Value.int .u8)).toArray 23 (0, 0))).alloc (.cells (i.map (Value.int .u8)).toArray 23 (0, 0))).alloc (.cells (sideC true c d (.slice aa an ac)).toArray 28 (0, 0))).alloc (.cells (sideC true e f (.slice ba bn bc)).toArray 28 (0, 0))).cell? ⟨w.heap.size + 1 + 1, 33 + 32, none⟩ = some (.slice aa an ac) := sideC_nodes' hc hd Ka.out
  have cnb : ((((w.alloc (.cells (o.map (Value.int .u8)).toArray 23 (0, 0))).alloc (.cells (i.map (Value.int .u8)).toArray 23 (0, 0))).alloc (.cells (sideC true c d (.slice aa an ac)).toArray 28 (0, 0))).alloc (.cells (sideC true e f (.slice ba bn bc)).toArray 28 (0, 0))).cell? ⟨w.heap.size + 1 + 1 + 1, 33 + 32, none⟩ = some (.slice ba bn bc) := sideC_nodes' he hf Kb.out
  go_enter Tryd.func5, Tryd.ntmps5
  go_wp2_with (first
     | (refine wpList_load_blk rfl 23 _ rfl (w.heap.size) rfl _ 23 Ko.out _ Tryd.underlying23 rfl 32 size_digest ho.size ?_)
     | (refine wpList_load_blk rfl 23 _ rfl (w.heap.size + 1) rfl _ 23 Ki.out _ Tryd.underlying23 rfl 32 size_digest hi.size ?_)
     | (refine wpList_load_blk rfl 28 _ rfl (w.heap.size + 1 + 1) rfl _ 28 Ka.out _ Tryd.underlying28 rfl 66 size_side (sideC_size hc hd) ?_)
     | (refine wpList_load_blk rfl 28 _ rfl (w.heap.size + 1 + 1 + 1) rfl _ 28 Kb.out _ Tryd.underlying28 rfl 66 size_side (sideC_size he hf) ?_))
  clear cna cnb
  refine (VV.out _ (HN.out.below Hb.out) (HM.out.below Hb.out) (Htab.out.below Hb.out)).mono ?_
  rintro e w1 ⟨rfl, bw1⟩
  have HBw1 := hid (Below.on Hb.out bw1)
  have hsw1 := HBw1.out.size
  have Kow1 := hid (Ko.out.below bw1)
  have Kiw1 := hid (Ki.out.below bw1)
  have Kaw1 := hid (Ka.out.below bw1)
  have Kbw1 := hid (Kb.out.below bw1)
  clear bw1
  have cpa : w1.cell? ⟨w.heap.size + 1 + 1, 0, none⟩ = some (.bool true) := by rw [Kaw1.out.cell]; rfl
  have cpb : w1.cell? ⟨w.heap.size + 1 + 1 + 1, 0, none⟩ = some (.bool true) := by rw [Kbw1.out.cell]; rfl
  go_wp2_with (first
     | (with_reducible show wpList _ _ _ (⟨some 40, _, _, _, _, _⟩ :: _) _ _; refine wpList_load_blk_if (by first | rfl | go_simp) 23 _ rfl (w.heap.size) rfl _ 23 Kow1.out _ Tryd.underlying23 rfl 32 size_digest ho.size ?_)
     | (with_reducible show wpList _ _ _ (⟨some 41, _, _, _, _, _⟩ :: _) _ _; refine wpList_load_blk_if (by first | rfl | go_simp) 23 _ rfl (w.heap.size + 1) rfl _ 23 Kiw1.out _ Tryd.underlying23 rfl 32 size_digest hi.size ?_)
     | (with_reducible show wpList _ _ _ (⟨some 43, _, _, _, _, _⟩ :: _) _ _; refine wpList_load_mid_if (by first | rfl | go_simp) 23 _ rfl (w.heap.size + 1 + 1) 1 rfl _ _ (sideC_com Kaw1.out) Tryd.underlying23 rfl (by rw [List.length_map, hc.len]; exact size_digest) ?_)
     | (with_reducible show wpList _ _ _ (⟨some 45, _, _, _, _, _⟩ :: _) _ _; refine wpList_load_mid_if (by first | rfl | go_simp) 26 _ rfl (w.heap.size + 1 + 1) 33 rfl _ _ (sideC_proof hc Kaw1.out) Tryd.underlying26 rfl (by rw [show (prC d (.slice aa an ac)).length = 33 by simp [prC, hd.len]]; exact size_proof) ?_))
  clear cpa cpb
  refine (I1.out _ (HN.out.below HBw1.out) (Htab.out.below HBw1.out)).mono ?_
  rintro e w2 ⟨rfl, bw2⟩
  have HBw2 := hid (Below.on HBw1.out bw2)
  have hsw2 := HBw2.out.size
  have Kow2 := hid (Kow1.out.below bw2)
  have Kiw2 := hid (Kiw1.out.below bw2)
  have Kaw2 := hid (Kaw1.out.below bw2)
  have Kbw2 := hid (Kbw1.out.below bw2)
  clear bw2
  have cpa : w2.cell? ⟨w.heap.size + 1 + 1, 0, none⟩ = some (.bool true) := by rw [Kaw2.out.cell]; rfl
  have cpb : w2.cell? ⟨w.heap.size + 1 + 1 + 1, 0, none⟩ = some (.bool true) := by rw [Kbw2.out.cell]; rfl
  go_wp2_with (first
     | (with_reducible show wpList _ _ _ (⟨some 63, _, _, _, _, _⟩ :: _) _ _; refine wpList_load_blk_if (by first | rfl | go_simp) 23 _ rfl (w.heap.size) rfl _ 23 Kow2.out _ Tryd.underlying23 rfl 32 size_digest ho.size ?_)
     | (with_reducible show wpList _ _ _ (⟨some 64, _, _, _, _, _⟩ :: _) _ _; refine wpList_load_blk_if (by first | rfl | go_simp) 23 _ rfl (w.heap.size + 1) rfl _ 23 Kiw2.out _ Tryd.underlying23 rfl 32 size_digest hi.size ?_)
     | (with_reducible show wpList _ _ _ (⟨some 66, _, _, _, _, _⟩ :: _) _ _; refine wpList_load_mid_if (by first | rfl | go_simp) 23 _ rfl (w.heap.size + 1 + 1 + 1) 1 rfl _ _ (sideC_com Kbw2.out) Tryd.underlying23 rfl (by rw [List.length_map, he.len]; exact size_digest) ?_)
     | (with_reducible show wpList _ _ _ (⟨some 68, _, _, _, _, _⟩ :: _) _ _; refine wpList_load_mid_if (by first | rfl | go_simp) 26 _ rfl (w.heap.size + 1 + 1 + 1) 33 rfl _ _ (sideC_proof he Kbw2.out) Tryd.underlying26 rfl (by rw [show (prC f (.slice ba bn bc)).length = 33 by simp [prC, hf.len]]; exact size_proof) ?_))
  clear cpa cpb
  refine (I2.out _ (HM.out.below HBw2.out) (Htab.out.below HBw2.out)).mono ?_
  rintro e w3 ⟨rfl, bw3⟩
  have HBw3 := hid (Below.on HBw2.out bw3)
  have hsw3 := HBw3.out.size
  have Kow3 := hid (Kow2.out.below bw3)
  have Kiw3 := hid (Kiw2.out.below bw3)
  have Kaw3 := hid (Kaw2.out.below bw3)
  have Kbw3 := hid (Kbw2.out.below bw3)
  clear bw3
  have cpa : w3.cell? ⟨w.heap.size + 1 + 1, 0, none⟩ = some (.bool true) := by rw [Kaw3.out.cell]; rfl
  have cpb : w3.cell? ⟨w.heap.size + 1 + 1 + 1, 0, none⟩ = some (.bool true) := by rw [Kbw3.out.cell]; rfl
  go_wp2_with (first
     | (with_reducible show wpList _ _ _ (⟨some 93, _, _, _, _, _⟩ :: _) _ _; refine wpList_load_mid_if (by first | rfl | go_simp) 23 _ rfl (w.heap.size + 1 + 1) 1 rfl _ _ (sideC_com Kaw3.out) Tryd.underlying23 rfl (by rw [List.length_map, hc.len]; exact size_digest) ?_)
     | (with_reducible show wpList _ _ _ (⟨some 95, _, _, _, _, _⟩ :: _) _ _; refine wpList_load_mid_if (by first | rfl | go_simp) 23 _ rfl (w.heap.size + 1 + 1 + 1) 1 rfl _ _ (sideC_com Kbw3.out) Tryd.underlying23 rfl (by rw [List.length_map, he.len]; exact size_digest) ?_))
  clear cpa cpb
  refine (lnone_yes _).mono ?_
  rintro e w4 ⟨rfl, bw4⟩
  have HBw4 := hid (Below.on HBw3.out bw4)
  have hsw4 := HBw4.out.size
  have Kow4 := hid (Kow3.out.below bw4)
  have Kiw4 := hid (Kiw3.out.below bw4)
  have Kaw4 := hid (Kaw3.out.below bw4)
  have Kbw4 := hid (Kbw3.out.below bw4)
  clear bw4
  go_wp2_with fail
  refine (knows23 _ (Htab.out.below HBw4.out)).mono ?_
  rintro e w5 ⟨rfl, bw5⟩
  have HBw5 := hid (Below.on HBw4.out bw5)
  have hsw5 := HBw5.out.size
  have Kow5 := hid (Kow4.out.below bw5)
  have Kiw5 := hid (Kiw4.out.below bw5)
  have Kaw5 := hid (Kaw4.out.below bw5)
  have Kbw5 := hid (Kbw4.out.below bw5)
  clear bw5
  go_wp2_with fail
  go_returns
  exact ⟨by first | rfl | simp, HBw5.out⟩
set_option maxHeartbeats 4000000 in
theorem extrees_tte_ny (o i c d e f : List Int) (aa ba : Option Addr) (an ac bn bc : Nat) (ns ms : List (List Int)) (w : World) (ho : Dg o) (hi : Dg i) (hc : Dg c) (hd : Dg d) (he : Dg e) (hf : Dg f) (hN : DigsAt w aa an ac ns) (hM : DigsAt w ba bn bc ms) (tab : ShaTab w) (hb1 : an ≤ 300) (hb2 : bn ≤ 300) (hce : c = e) (q1 : isSide o i true c d ns = false) (q2 : isSide o i true e f ms = true) :
    Calls Tryd.prog 5 #[.agg (o.map (Value.int .u8)).toArray, .agg (i.map (Value.int .u8)).toArray, .agg (sideC true c d (.slice aa an ac)).toArray, .agg (sideC true e f (.slice ba bn bc)).toArray] w fun e' w' => e' = .returned (.bool true) ∧ Below w.heap.size w w' := by
  have b1 := (Below.refl w.heap.size w).alloc (Nat.le_refl _) (.cells (o.map (Value.int .u8)).toArray 23 (0, 0))
  have b2 := b1.alloc b1.size (.cells (i.map (Value.int .u8)).toArray 23 (0, 0))
  have b3 := b2.alloc b2.size (.cells (sideC true c d (.slice aa an ac)).toArray 28 (0, 0))
  have b4 := b3.alloc b3.size (.cells (sideC true e f (.slice ba bn bc)).toArray 28 (0, 0))
  have Ko := hid ((((Blk.new (w := w) (n := w.heap.size) rfl (o.map (Value.int .u8)).toArray 23).old (.cells (i.map (Value.int .u8)).toArray 23 (0, 0))).old (.cells (sideC true c d (.slice aa an ac)).toArray 28 (0, 0))).old (.cells (sideC true e f (.slice ba bn bc)).toArray 28 (0, 0)))
  have Ki := hid (((Blk.new (w := (w.alloc (.cells (o.map (Value.int .u8)).toArray 23 (0, 0)))) (n := w.heap.size + 1) (by simp only [World.size_alloc]) (i.map (Value.int .u8)).toArray 23).old (.cells (sideC true c d (.slice aa an ac)).toArray 28 (0, 0))).old (.cells (sideC true e f (.slice ba bn bc)).toArray 28 (0, 0)))
  have Ka := hid ((Blk.new (w := ((w.alloc (.cells (o.map (Value.int .u8)).toArray 23 (0, 0))).alloc (.cells (i.map (Value.int .u8)).toArray 23 (0, 0)))) (n := w.heap.size + 1 + 1) (by simp only [World.size_alloc]) (sideC true c d (.slice aa an ac)).toArray 28).old (.cells (sideC true e f (.slice ba bn bc)).toArray 28 (0, 0)))
  have Kb := hid (Blk.new (w := (((w.alloc (.cells (o.map (Value.int .u8)).toArray 23 (0, 0))).alloc (.cells (i.map (Value.int .u8)).toArray 23 (0, 0))).alloc (.cells (sideC true c d (.slice aa an ac)).toArray 28 (0, 0)))) (n := w.heap.size + 1 + 1 + 1) (by simp only [World.size_alloc]) (sideC true e f (.slice ba bn bc)).toArray 28)
  have Hb := hid b4
  have hbz := b4.size
  have Hbs := hid (show w.heap.size + 1 + 1 + 1 + 1 = ((((w.alloc (.cells (o.map (Value.int .u8)).toArray 23 (0, 0))).alloc (.cells (i.map (Value.int .u8)).toArray 23 (0, 0))).alloc (.cells (sideC true c d (.slice aa an ac)).toArray 28 (0, 0))).alloc (.cells (sideC true e f (.slice ba bn bc)).toArray 28 (0, 0))).heap.size by simp only [World.size_alloc])
  have Htab := hid tab
  clear b1 b2 b3 b4 tab 
  have HN := hid hN
  have HM := hid hM
  have qq : ∀ W : World, (binOp .neq 23 (.agg (c.map (Value.int .u8)).toArray) (.agg (e.map (Value.int .u8)).toArray)).run Tryd.prog W = .ok (.bool false) W := fun W => by
    have h := neD c e hc.len he.len W
    rw [decide_eq_true hce] at h
    exact h
  have VV := hid (fun (W : World) (h1 : DigsAt W aa an ac ns) (h2 : DigsAt W ba bn bc ms) (h3 : ShaTab W) => trees_same o i c d e f aa ba an ac bn bc ns ms W ho hi hc hd he hf h1 h2 h3 hce)
  have I1 := hid (fun (W : World) (h1 : DigsAt W aa an ac ns ) (h3 : ShaTab W) => present_is o i c d aa an ac ns W ho hi hc hd h1 h3)
  rw [q1] at I1
  have I2 := hid (fun (W : World) (h1 : DigsAt W ba bn bc ms ) (h3 : ShaTab W) => present_is o i e f ba bn bc ms W ho hi he hf h1 h3)
  rw [q2] at I2
  clear hce
  have hca : ¬ (300 : Int) < (an : Int) := by omega
  have hcb : ¬ (300 : Int) < (bn : Int) := by omega
  clear hN hM
  have cna : ((((w.alloc (.cells (o.map (Value.int .u8)).toArray 23 (0, 0))).alloc (.cells (i.map (Value.int .u8)).toArray 23 (0, 0))).alloc (.cells (sideC true c d (.slice aa an ac)).toArray 28 (0, 0))).alloc (.cells (sideC true e f (.slice ba bn bc)).toArray 28 (0, 0))).cell? ⟨w.heap.size + 1 + 1, 33 + 32, none⟩ = some (.slice aa an ac) := sideC_nodes' hc hd Ka.out
  have cnb : ((((w.alloc (.cells (o.map (Value.int .u8)).toArray 23 (0, 0))).alloc (.cells (i.map (Value.int .u8)).toArray 23 (0, 0))).alloc (.cells (sideC true c d (.slice aa an ac)).toArray 28 (0, 0))).alloc (.cells (sideC true e f (.slice ba bn bc)).toArray 28 (0, 0))).cell? ⟨w.heap.size + 1 + 1 + 1, 33 + 32, none⟩ = some (.slice ba bn bc) := sideC_nodes' he hf Kb.out
  go_enter Tryd.func5, Tryd.ntmps5
  go_wp2_with (first
     | (refine wpList_load_blk rfl 23 _ rfl (w.heap.size) rfl _ 23 Ko.out _ Tryd.underlying23 rfl 32 size_digest ho.size ?_)
     | (refine wpList_load_blk rfl 23 _ rfl (w.heap.size + 1) rfl _ 23 Ki.out _ Tryd.underlying23 rfl 32 size_digest hi.size ?_)
     | (refine wpList_load_blk rfl 28 _ rfl (w.heap.size + 1 + 1) rfl _ 28 Ka.out _ Tryd.underlying28 rfl 66 size_side (sideC_size hc hd) ?_)
     | (refine wpList_load_blk rfl 28 _ rfl (w.heap.size + 1 + 1 + 1) rfl _ 28 Kb.out _ Tryd.underlying28 rfl 66 size_side (sideC_size he hf) ?_))
  clear cna cnb
  refine (VV.out _ (HN.out.below Hb.out) (HM.out.below Hb.out) (Htab.out.below Hb.out)).mono ?_
  rintro e w1 ⟨rfl, bw1⟩
  have HBw1 := hid (Below.on Hb.out bw1)
  have hsw1 := HBw1.out.size
  have Kow1 := hid (Ko.out.below bw1)
  have Kiw1 := hid (Ki.out.below bw1)
  have Kaw1 := hid (Ka.out.below bw1)
  have Kbw1 := hid (Kb.out.below bw1)
  clear bw1
  have cpa : w1.cell? ⟨w.heap.size + 1 + 1, 0, none⟩ = some (.bool true) := by rw [Kaw1.out.cell]; rfl
  have cpb : w1.cell? ⟨w.heap.size + 1 + 1 + 1, 0, none⟩ = some (.bool true) := by rw [Kbw1.out.cell]; rfl
  go_wp2_with (first
     | (with_reducible show wpList _ _ _ (⟨some 40, _, _, _, _, _⟩ :: _) _ _; refine wpList_load_blk_if (by first | rfl | go_simp) 23 _ rfl (w.heap.size) rfl _ 23 Kow1.out _ Tryd.underlying23 rfl 32 size_digest ho.size ?_)
     | (with_reducible show wpList _ _ _ (⟨some 41, _, _, _, _, _⟩ :: _) _ _; refine wpList_load_blk_if (by first | rfl | go_simp) 23 _ rfl (w.heap.size + 1) rfl _ 23 Kiw1.out _ Tryd.underlying23 rfl 32 size_digest hi.size ?_)
     | (with_reducible show wpList _ _ _ (⟨some 43, _, _, _, _, _⟩ :: _) _ _; refine wpList_load_mid_if (by first | rfl | go_simp) 23 _ rfl (w.heap.size + 1 + 1) 1 rfl _ _ (sideC_com Kaw1.out) Tryd.underlying23 rfl (by rw [List.length_map, hc.len]; exact size_digest) ?_)
     | (with_reducible show wpList _ _ _ (⟨some 45, _, _, _, _, _⟩ :: _) _ _; refine wpList_load_mid_if (by first | rfl | go_simp) 26 _ rfl (w.heap.size + 1 + 1) 33 rfl _ _ (sideC_proof hc Kaw1.out) Tryd.underlying26 rfl (by rw [show (prC d (.slice aa an ac)).length = 33 by simp [prC, hd.len]]; exact size_proof) ?_))
  clear cpa cpb
  refine (I1.out _ (HN.out.below HBw1.out) (Htab.out.below HBw1.out)).mono ?_
  rintro e w2 ⟨rfl, bw2⟩
  have HBw2 := hid (Below.on HBw1.out bw2)
  have hsw2 := HBw2.out.size
  have Kow2 := hid (Kow1.out.below bw2)
  have Kiw2 := hid (Kiw1.out.below bw2)
  have Kaw2 := hid (Kaw1.out.below bw2)
  have Kbw2 := hid (Kbw1.out.below bw2)
  clear bw2
  have cpa : w2.cell? ⟨w.heap.size + 1 + 1, 0, none⟩ = some (.bool true) := by rw [Kaw2.out.cell]; rfl
  have cpb : w2.cell? ⟨w.heap.size + 1 + 1 + 1, 0, none⟩ = some (.bool true) := by rw [Kbw2.out.cell]; rfl
  go_wp2_with (first
     | (with_reducible show wpList _ _ _ (⟨some 63, _, _, _, _, _⟩ :: _) _ _; refine wpList_load_blk_if (by first | rfl | go_simp) 23 _ rfl (w.heap.size) rfl _ 23 Kow2.out _ Tryd.underlying23 rfl 32 size_digest ho.size ?_)
     | (with_reducible show wpList _ _ _ (⟨some 64, _, _, _, _, _⟩ :: _) _ _; refine wpList_load_blk_if (by first | rfl | go_simp) 23 _ rfl (w.heap.size + 1) rfl _ 23 Kiw2.out _ Tryd.underlying23 rfl 32 size_digest hi.size ?_)
     | (with_reducible show wpList _ _ _ (⟨some 66, _, _, _, _, _⟩ :: _) _ _; refine wpList_load_mid_if (by first | rfl | go_simp) 23 _ rfl (w.heap.size + 1 + 1 + 1) 1 rfl _ _ (sideC_com Kbw2.out) Tryd.underlying23 rfl (by rw [List.length_map, he.len]; exact size_digest) ?_)
     | (with_reducible show wpList _ _ _ (⟨some 68, _, _, _, _, _⟩ :: _) _ _; refine wpList_load_mid_if (by first | rfl | go_simp) 26 _ rfl (w.heap.size + 1 + 1 + 1) 33 rfl _ _ (sideC_proof he Kbw2.out) Tryd.underlying26 rfl (by rw [show (prC f (.slice ba bn bc)).length = 33 by simp [prC, hf.len]]; exact size_proof) ?_))
  clear cpa cpb
  refine (I2.out _ (HM.out.below HBw2.out) (Htab.out.below HBw2.out)).mono ?_
  rintro e w3 ⟨rfl, bw3⟩
  have HBw3 := hid (Below.on HBw2.out bw3)
  have hsw3 := HBw3.out.size
  have Kow3 := hid (Kow2.out.below bw3)
  have Kiw3 := hid (Kiw2.out.below bw3)
  have Kaw3 := hid (Kaw2.out.below bw3)
  have Kbw3 := hid (Kbw2.out.below bw3)
  clear bw3
  have cpa : w3.cell? ⟨w.heap.size + 1 + 1, 0, none⟩ = some (.bool true) := by rw [Kaw3.out.cell]; rfl
  have cpb : w3.cell? ⟨w.heap.size + 1 + 1 + 1, 0, none⟩ = some (.bool true) := by rw [Kbw3.out.cell]; rfl
  go_wp2_with (first
     | (with_reducible show wpList _ _ _ (⟨some 93, _, _, _, _, _⟩ :: _) _ _; refine wpList_load_mid_if (by first | rfl | go_simp) 23 _ rfl (w.heap.size + 1 + 1) 1 rfl _ _ (sideC_com Kaw3.out) Tryd.underlying23 rfl (by rw [List.length_map, hc.len]; exact size_digest) ?_)
     | (with_reducible show wpList _ _ _ (⟨some 95, _, _, _, _, _⟩ :: _) _ _; refine wpList_load_mid_if (by first | rfl | go_simp) 23 _ rfl (w.heap.size + 1 + 1 + 1) 1 rfl _ _ (sideC_com Kbw3.out) Tryd.underlying23 rfl (by rw [List.length_map, he.len]; exact size_digest) ?_))
  clear cpa cpb
  refine (lnone_yes _).mono ?_
  rintro e w4 ⟨rfl, bw4⟩
  have HBw4 := hid (Below.on HBw3.out bw4)
  have hsw4 := HBw4.out.size
  have Kow4 := hid (Kow3.out.below bw4)
  have Kiw4 := hid (Kiw3.out.below bw4)
  have Kaw4 := hid (Kaw3.out.below bw4)
  have Kbw4 := hid (Kbw3.out.below bw4)
  clear bw4
  go_wp2_with fail
  refine (knows23 _ (Htab.out.below HBw4.out)).mono ?_
  rintro e w5 ⟨rfl, bw5⟩
  have HBw5 := hid (Below.on HBw4.out bw5)
  have hsw5 := HBw5.out.size
  have Kow5 := hid (Kow4.out.below bw5)
  have Kiw5 := hid (Kiw4.out.below bw5)
  have Kaw5 := hid (Kaw4.out.below bw5)
  have Kbw5 := hid (Kbw4.out.below bw5)
  clear bw5
  go_wp2_with fail
  go_returns
  exact ⟨by first | rfl | simp, HBw5.out⟩
set_option maxHeartbeats 4000000 in
theorem extrees_tte_nn (o i c d e f : List Int) (aa ba : Option Addr) (an ac bn bc : Nat) (ns ms : List (List Int)) (w : World) (ho : Dg o) (hi : Dg i) (hc : Dg c) (hd : Dg d) (he : Dg e) (hf : Dg f) (hN : DigsAt w aa an ac ns) (hM : DigsAt w ba bn bc ms) (tab : ShaTab w) (hb1 : an ≤ 300) (hb2 : bn ≤ 300) (hce : c = e) (q1 : isSide o i true c d ns = false) (q2 : isSide o i true e f ms = false) :
    Calls Tryd.prog 5 #[.agg (o.map (Value.int .u8)).toArray, .agg (i.map (Value.int .u8)).toArray, .agg (sideC true c d (.slice aa an ac)).toArray, .agg (sideC true e f (.slice ba bn bc)).toArray] w fun e' w' => e' = .returned (.bool true) ∧ Below w.heap.size w w' := by
  have b1 := (Below.refl w.heap.size w).alloc (Nat.le_refl _) (.cells (o.map (Value.int .u8)).toArray 23 (0, 0))
  have b2 := b1.alloc b1.size (.cells (i.map (Value.int .u8)).toArray 23 (0, 0))
  have b3 := b2.alloc b2.size (.cells (sideC true c d (.slice aa an ac)).toArray 28 (0, 0))
  have b4 := b3.alloc b3.size (.cells (sideC true e f (.slice ba bn bc)).toArray 28 (0, 0))
  have Ko := hid ((((Blk.new (w := w) (n := w.heap.size) rfl (o.map (Value.int .u8)).toArray 23).old (.cells (i.map (Value.int .u8)).toArray 23 (0, 0))).old (.cells (sideC true c d (.slice aa an ac)).toArray 28 (0, 0))).old (.cells (sideC true e f (.slice ba bn bc)).toArray 28 (0, 0)))
  have Ki := hid (((Blk.new (w := (w.alloc (.cells (o.map (Value.int .u8)).toArray 23 (0, 0)))) (n := w.heap.size + 1) (by simp only [World.size_alloc]) (i.map (Value.int .u8)).toArray 23).old (.cells (sideC true c d (.slice aa an ac)).toArray 28 (0, 0))).old (.cells (sideC true e f (.slice ba bn bc)).toArray 28 (0, 0)))
  have Ka := hid ((Blk.new (w := ((w.alloc (.cells (o.map (Value.int .u8)).toArray 23 (0, 0))).alloc (.cells (i.map (Value.int .u8)).toArray 23 (0, 0)))) (n := w.heap.size + 1 + 1) (by simp only [World.size_alloc]) (sideC true c d (.slice aa an ac)).toArray 28).old (.cells (sideC true e f (.slice ba bn bc)).toArray 28 (0, 0)))
  have Kb := hid (Blk.new (w := (((w.alloc (.cells (o.map (Value.int .u8)).toArray 23 (0, 0))).alloc (.cells (i.map (Value.int .u8)).toArray 23 (0, 0))).alloc (.cells (sideC true c d (.slice aa an ac)).toArray 28 (0, 0)))) (n := w.heap.size + 1 + 1 + 1) (by simp only [World.size_alloc]) (sideC true e f (.slice ba bn bc)).toArray 28)
  have Hb := hid b4
  have hbz := b4.size
  have Hbs := hid (show w.heap.size + 1 + 1 + 1 + 1 = ((((w.alloc (.cells (o.map (Value.int .u8)).toArray 23 (0, 0))).alloc (.cells (i.map (Value.int .u8)).toArray 23 (0, 0))).alloc (.cells (sideC true c d (.slice aa an ac)).toArray 28 (0, 0))).alloc (.cells (sideC true e f (.slice ba bn bc)).toArray 28 (0, 0))).heap.size by simp only [World.size_alloc])
  have Htab := hid tab
  clear b1 b2 b3 b4 tab 
  have HN := hid hN
  have HM := hid hM
  have qq : ∀ W : World, (binOp .neq 23 (.agg (c.map (Value.int .u8)).toArray) (.agg (e.map (Value.int .u8)).toArray)).run Tryd.prog W = .ok (.bool false) W := fun W => by
    have h := neD c e hc.len he.len W
    rw [decide_eq_true hce] at h
    exact h
  have VV := hid (fun (W : World) (h1 : DigsAt W aa an ac ns) (h2 : DigsAt W ba bn bc ms) (h3 : ShaTab W) => trees_same o i c d e f aa ba an ac bn bc ns ms W ho hi hc hd he hf h1 h2 h3 hce)
  have I1 := hid (fun (W : World) (h1 : DigsAt W aa an ac ns ) (h3 : ShaTab W) => present_is o i c d aa an ac ns W ho hi hc hd h1 h3)
  rw [q1] at I1
  have I2 := hid (fun (W : World) (h1 : DigsAt W ba bn bc ms ) (h3 : ShaTab W) => present_is o i e f ba bn bc ms W ho hi he hf h1 h3)
  rw [q2] at I2
  clear hce
  have hca : ¬ (300 : Int) < (an : Int) := by omega
  have hcb : ¬ (300 : Int) < (bn : Int) := by omega
  clear hN hM
  have cna : ((((w.alloc (.cells (o.map (Value.int .u8)).toArray 23 (0, 0))).alloc (.cells (i.map (Value.int .u8)).toArray 23 (0, 0))).alloc (.cells (sideC true c d (.slice aa an ac)).toArray 28 (0, 0))).alloc (.cells (sideC true e f (.slice ba bn bc)).toArray 28 (0, 0))).cell? ⟨w.heap.size + 1 + 1, 33 + 32, none⟩ = some (.slice aa an ac) := sideC_nodes' hc hd Ka.out
  have cnb : ((((w.alloc (.cells (o.map (Value.int .u8)).toArray 23 (0, 0))).alloc (.cells (i.map (Value.int .u8)).toArray 23 (0, 0))).alloc (.cells (sideC true c d (.slice aa an ac)).toArray 28 (0, 0))).alloc (.cells (sideC true e f (.slice ba bn bc)).toArray 28 (0, 0))).cell? ⟨w.heap.size + 1 + 1 + 1, 33 + 32, none⟩ = some (.slice ba bn bc) := sideC_nodes' he hf Kb.out
  go_enter Tryd.func5, Tryd.ntmps5
  go_wp2_with (first
     | (refine wpList_load_blk rfl 23 _ rfl (w.heap.size) rfl _ 23 Ko.out _ Tryd.underlying23 rfl 32 size_digest ho.size ?_)
     | (refine wpList_load_blk rfl 23 _ rfl (w.heap.size + 1) rfl _ 23 Ki.out _ Tryd.underlying23 rfl 32 size_digest hi.size ?_)
     | (refine wpList_load_blk rfl 28 _ rfl (w.heap.size + 1 + 1) rfl _ 28 Ka.out _ Tryd.underlying28 rfl 66 size_side (sideC_size hc hd) ?_)
     | (refine wpList_load_blk rfl 28 _ rfl (w.heap.size + 1 + 1 + 1) rfl _ 28 Kb.out _ Tryd.underlying28 rfl 66 size_side (sideC_size he hf) ?_))
  clear cna cnb
  refine (VV.out _ (HN.out.below Hb.out) (HM.out.below Hb.out) (Htab.out.below Hb.out)).mono ?_
  rintro e w1 ⟨rfl, bw1⟩
  have HBw1 := hid (Below.on Hb.out bw1)
  have hsw1 := HBw1.out.size
  have Kow1 := hid (Ko.out.below bw1)
  have Kiw1 := hid (Ki.out.below bw1)
  have Kaw1 := hid (Ka.out.below bw1)
  have Kbw1 := hid (Kb.out.below bw1)
  clear bw1
  have cpa : w1.cell? ⟨w.heap.size + 1 + 1, 0, none⟩ = some (.bool true) := by rw [Kaw1.out.cell]; rfl
  have cpb : w1.cell? ⟨w.heap.size + 1 + 1 + 1, 0, none⟩ = some (.bool true) := by rw [Kbw1.out.cell]; rfl
  go_wp2_with (first
     | (with_reducible show wpList _ _ _ (⟨some 40, _, _, _, _, _⟩ :: _) _ _; refine wpList_load_blk_if (by first | rfl | go_simp) 23 _ rfl (w.heap.size) rfl _ 23 Kow1.out _ Tryd.underlying23 rfl 32 size_digest ho.size ?_)
     | (with_reducible show wpList _ _ _ (⟨some 41, _, _, _, _, _⟩ :: _) _ _; refine wpList_load_blk_if (by first | rfl | go_simp) 23 _ rfl (w.heap.size + 1) rfl _ 23 Kiw1.out _ Tryd.underlying23 rfl 32 size_digest hi.size ?_)
     | (with_reducible show wpList _ _ _ (⟨some 43, _, _, _, _, _⟩ :: _) _ _; refine wpList_load_mid_if (by first | rfl | go_simp) 23 _ rfl (w.heap.size + 1 + 1) 1 rfl _ _ (sideC_com Kaw1.out) Tryd.underlying23 rfl (by rw [List.length_map, hc.len]; exact size_digest) ?_)
     | (with_reducible show wpList _ _ _ (⟨some 45, _, _, _, _, _⟩ :: _) _ _; refine wpList_load_mid_if (by first | rfl | go_simp) 26 _ rfl (w.heap.size + 1 + 1) 33 rfl _ _ (sideC_proof hc Kaw1.out) Tryd.underlying26 rfl (by rw [show (prC d (.slice aa an ac)).length = 33 by simp [prC, hd.len]]; exact size_proof) ?_))
  clear cpa cpb
  refine (I1.out _ (HN.out.below HBw1.out) (Htab.out.below HBw1.out)).mono ?_
  rintro e w2 ⟨rfl, bw2⟩
  have HBw2 := hid (Below.on HBw1.out bw2)
  have hsw2 := HBw2.out.size
  have Kow2 := hid (Kow1.out.below bw2)
  have Kiw2 := hid (Kiw1.out.below bw2)
  have Kaw2 := hid (Kaw1.out.below bw2)
  have Kbw2 := hid (Kbw1.out.below bw2)
  clear bw2
  have cpa : w2.cell? ⟨w.heap.size + 1 + 1, 0, none⟩ = some (.bool true) := by rw [Kaw2.out.cell]; rfl
  have cpb : w2.cell? ⟨w.heap.size + 1 + 1 + 1, 0, none⟩ = some (.bool true) := by rw [Kbw2.out.cell]; rfl
  go_wp2_with (first
     | (with_reducible show wpList _ _ _ (⟨some 63, _, _, _, _, _⟩ :: _) _ _; refine wpList_load_blk_if (by first | rfl | go_simp) 23 _ rfl (w.heap.size) rfl _ 23 Kow2.out _ Tryd.underlying23 rfl 32 size_digest ho.size ?_)
     | (with_reducible show wpList _ _ _ (⟨some 64, _, _, _, _, _⟩ :: _) _ _; refine wpList_load_blk_if (by first | rfl | go_simp) 23 _ rfl (w.heap.size + 1) rfl _ 23 Kiw2.out _ Tryd.underlying23 rfl 32 size_digest hi.size ?_)
     | (with_reducible show wpList _ _ _ (⟨some 66, _, _, _, _, _⟩ :: _) _ _; refine wpList_load_mid_if (by first | rfl | go_simp) 23 _ rfl (w.heap.size + 1 + 1 + 1) 1 rfl _ _ (sideC_com Kbw2.out) Tryd.underlying23 rfl (by rw [List.length_map, he.len]; exact size_digest) ?_)
     | (with_reducible show wpList _ _ _ (⟨some 68, _, _, _, _, _⟩ :: _) _ _; refine wpList_load_mid_if (by first | rfl | go_simp) 26 _ rfl (w.heap.size + 1 + 1 + 1) 33 rfl _ _ (sideC_proof he Kbw2.out) Tryd.underlying26 rfl (by rw [show (prC f (.slice ba bn bc)).length = 33 by simp [prC, hf.len]]; exact size_proof) ?_))
  clear cpa cpb
  refine (I2.out _ (HM.out.below HBw2.out) (Htab.out.below HBw2.out)).mono ?_
  rintro e w3 ⟨rfl, bw3⟩
  have HBw3 := hid (Below.on HBw2.out bw3)
  have hsw3 := HBw3.out.size
  have Kow3 := hid (Kow2.out.below bw3)
  have Kiw3 := hid (Kiw2.out.below bw3)
  have Kaw3 := hid (Kaw2.out.below bw3)
  have Kbw3 := hid (Kbw2.out.below bw3)
  clear bw3
  have cpa : w3.cell? ⟨w.heap.size + 1 + 1, 0, none⟩ = some (.bool true) := by rw [Kaw3.out.cell]; rfl
  have cpb : w3.cell? ⟨w.heap.size + 1 + 1 + 1, 0, none⟩ = some (.bool true) := by rw [Kbw3.out.cell]; rfl
  go_wp2_with (first
     | (with_reducible show wpList _ _ _ (⟨some 93, _, _, _, _, _⟩ :: _) _ _; refine wpList_load_mid_if (by first | rfl | go_simp) 23 _ rfl (w.heap.size + 1 + 1) 1 rfl _ _ (sideC_com Kaw3.out) Tryd.underlying23 rfl (by rw [List.length_map, hc.len]; exact size_digest) ?_)
     | (with_reducible show wpList _ _ _ (⟨some 95, _, _, _, _, _⟩ :: _) _ _; refine wpList_load_mid_if (by first | rfl | go_simp) 23 _ rfl (w.heap.size + 1 + 1 + 1) 1 rfl _ _ (sideC_com Kbw3.out) Tryd.underlying23 rfl (by rw [List.length_map, he.len]; exact size_digest) ?_))
  clear cpa cpb
  refine (lnone_yes _).mono ?_
  rintro e w4 ⟨rfl, bw4⟩
  have HBw4 := hid (Below.on HBw3.out bw4)
  have hsw4 := HBw4.out.size
  have Kow4 := hid (Kow3.out.below bw4)
  have Kiw4 := hid (Kiw3.out.below bw4)
  have Kaw4 := hid (Kaw3.out.below bw4)
  have Kbw4 := hid (Kbw3.out.below bw4)
  clear bw4
  go_wp2_with fail
  refine (knows23 _ (Htab.out.below HBw4.out)).mono ?_
  rintro e w5 ⟨rfl, bw5⟩
  have HBw5 := hid (Below.on HBw4.out bw5)
  have hsw5 := HBw5.out.size
  have Kow5 := hid (Kow4.out.below bw5)
  have Kiw5 := hid (Kiw4.out.below bw5)
  have Kaw5 := hid (Kaw4.out.below bw5)
  have Kbw5 := hid (Kbw4.out.below bw5)
  clear bw5
  go_wp2_with fail
  go_returns
  exact ⟨by first | rfl | simp, HBw5.out⟩
end Go.Proofs.YtkakoiaahgchmaaDoor
