/-
  Layer 11: verifying, by the reference; HyperVerifies.
-/
import Derived.Test.YtjkfbeillmeomaaDoorQVer
namespace Go.Proofs.YtjkfbeillmeomaaDoor
set_option maxRecDepth 100000
open Go.ChangeShapes Go.WideShapes Go.ChangeAt Go.RowKit
set_option maxHeartbeats 4000000 in
theorem refmsg11_any (L V i : Int) (root pub r m : List Int) (ta : Option Addr) (tn tc : Nat) (w : World) (hr : Dg r) (hroot : Dg root) (_hpub : Dg pub) (h0 : 0 ≤ i) (h1 : i < 65536) (hT : TextAt w ta tn tc m) (hn : tn ≤ 140737488320000) :
    Calls Tryd.prog 105 #[.agg (pubC L V root pub).toArray, .agg (r.map (Value.int .u8)).toArray, .int .i64 i, .slice ta tn tc] w fun e w' => e = .returned (.agg ((msgZ r root i m).map (Value.int .u8)).toArray) ∧ Below w.heap.size w w' := by
  have CM := hid (fun (W : World) (h : TextAt W ta tn tc m) => refMessage_any r root m i ta tn tc W hr hroot h0 (by omega) h hn)
  have HM := hid (Dg.msg r root i m)
  generalize msgZ r root i m = M at *
  have b1 := (Below.refl w.heap.size w).alloc (Nat.le_refl _) (.cells (pubC L V root pub).toArray 68 (0, 0))
  have b2 := b1.alloc b1.size (.cells (r.map (Value.int .u8)).toArray 23 (0, 0))
  have b3 := b2.alloc b2.size (.cells (byteCells 32 []) 23 (0, 0))
  have Kp := hid (((Blk.new (w := w) (n := w.heap.size) rfl (pubC L V root pub).toArray 68).old (.cells (r.map (Value.int .u8)).toArray 23 (0, 0))).old (.cells (byteCells 32 []) 23 (0, 0)))
  have Kd := hid ((Blk.new (w := (w.alloc (.cells (pubC L V root pub).toArray 68 (0, 0)))) (n := w.heap.size + 1) (by simp only [World.size_alloc]) (r.map (Value.int .u8)).toArray 23).old (.cells (byteCells 32 []) 23 (0, 0)))
  have Kr := hid (Blk.new (w := ((w.alloc (.cells (pubC L V root pub).toArray 68 (0, 0))).alloc (.cells (r.map (Value.int .u8)).toArray 23 (0, 0)))) (n := w.heap.size + 1 + 1) (by simp only [World.size_alloc]) (byteCells 32 []) 23)
  have Hb := hid b3
  have hbz := b3.size
  have Hbs := hid (show w.heap.size + 1 + 1 + 1 = (((w.alloc (.cells (pubC L V root pub).toArray 68 (0, 0))).alloc (.cells (r.map (Value.int .u8)).toArray 23 (0, 0))).alloc (.cells (byteCells 32 []) 23 (0, 0))).heap.size by simp only [World.size_alloc])
  clear b1 b2 b3 
  go_enter Tryd.func105, Tryd.ntmps105
  go_wp2_with (first
     | (refine wpList_load_blk rfl 23 _ rfl (w.heap.size + 1) rfl _ 23 Kd.out _ Tryd.underlying23 rfl 32 size_digest hr.size ?_)
     | (refine wpList_load_mid rfl 23 _ rfl (w.heap.size) 2 rfl _ _ (pubC_root Kp.out) Tryd.underlying23 rfl (by rw [List.length_map, hroot.len]; exact size_digest) ?_))
  refine (CM.out _ (hT.below Hb.out)).mono ?_
  rintro e w1 ⟨rfl, bw1⟩
  have HBw1 := hid (Below.on Hb.out bw1)
  have hsw1 := HBw1.out.size
  have Kpw1 := hid (Kp.out.below bw1)
  have Kdw1 := hid (Kd.out.below bw1)
  have Krw1 := hid (Kr.out.below bw1)
  clear bw1
  go_wp2_with (
      refine wpList_store_blk rfl 23 _ _ rfl (w.heap.size + 1 + 1) (M.map (Value.int .u8)).toArray rfl rfl _ 23 Krw1.out 32 size_digest zsize HM.out.size (ints_one _ _) ?_
      intro w9 hb9 hk9
      have HB9 := hid (hb9.below HBw1.out HBw1.out.size (by omega))
      have HK9 := hid hk9
      clear hb9 hk9)
  exact bodyPost_ret (v := .agg (M.map (Value.int .u8)).toArray) (results_blk Tryd.results105 _ (w.heap.size + 1 + 1) rfl _ 23 HK9.out _ Tryd.underlying23 rfl 32 size_digest HM.out.size) rfl ⟨rfl, HB9.out⟩
set_option maxHeartbeats 4000000 in
theorem refverify_bad (L V i : Int) (root pub r : List Int) (a : Option Addr) (pn c : Nat) (ps : List Prt) (v : Value) (w : World) (hrt : rightS L V = false) (_hr : Dg r) (_hP : PartsAt w a pn c ps) :
    Calls Tryd.prog 52 #[.agg (pubC L V root pub).toArray, .agg (sigC i r (.slice a pn c)).toArray, v] w fun e w' => e = .returned (.bool false) ∧ Below w.heap.size w w' := by
  have b1 := (Below.refl w.heap.size w).alloc (Nat.le_refl _) (.cells (pubC L V root pub).toArray 68 (0, 0))
  have b2 := b1.alloc b1.size (.cells (sigC i r (.slice a pn c)).toArray 75 (0, 0))
  have Kp := hid ((Blk.new (w := w) (n := w.heap.size) rfl (pubC L V root pub).toArray 68).old (.cells (sigC i r (.slice a pn c)).toArray 75 (0, 0)))
  have Kg := hid (Blk.new (w := (w.alloc (.cells (pubC L V root pub).toArray 68 (0, 0)))) (n := w.heap.size + 1) (by simp only [World.size_alloc]) (sigC i r (.slice a pn c)).toArray 75)
  have Hb := hid b2
  have hbz := b2.size
  have Hbs := hid (show w.heap.size + 1 + 1 = ((w.alloc (.cells (pubC L V root pub).toArray 68 (0, 0))).alloc (.cells (sigC i r (.slice a pn c)).toArray 75 (0, 0))).heap.size by simp only [World.size_alloc])
  clear b1 b2 
  go_enter Tryd.func52, Tryd.ntmps52
  go_wp2_with (refine wpList_load_mid rfl 63 _ rfl (w.heap.size) 0 rfl _ _ (pubC_shape Kp.out) Tryd.underlying63 rfl (by exact size_shape) ?_)
  refine (refright_b L V false hrt _).mono ?_
  rintro e w1 ⟨rfl, bw1⟩
  have HBw1 := hid (Below.on Hb.out bw1)
  have hsw1 := HBw1.out.size
  have Kpw1 := hid (Kp.out.below bw1)
  have Kgw1 := hid (Kg.out.below bw1)
  clear bw1
  go_wp2_with fail
  go_returns
  exact ⟨rfl, HBw1.out⟩
theorem wpList_load_mid_if {P : Program} {ops : Array Oper} {rest : List Oper} {op : Oper} {a : Act} {w : World} {Q : Exit → Act → World → Prop} (hw : Region.wanted op (yielded ops a.tmps) = true) (ty : TypeId) (x : Operand) (ho : op.op = .load ty x) (b o : Nat) (hx : a.eval x = .pointer (some ⟨b, o, none⟩)) (cs : List Value) (d : TypeDesc) (hk : w.rangeAt b o cs)
    (hu : P.underlying ty = some d) (hd : d.isRow = true) (hi : (P.info? ty).map (·.size) = some cs.length)
    (h : wpList P ops Q rest (a.put op.dst (.agg cs.toArray)) w) : wpList P ops Q (op :: rest) a w := by
  unfold wpList
  rw [if_pos hw]
  exact .inl (wp_load_mid ty x ho b o hx cs d hk hu hd hi h)
set_option maxHeartbeats 4000000 in
theorem refverify_false (L V i : Int) (root pub r : List Int) (a : Option Addr) (pn c : Nat) (ps : List Prt) (v : Value) (w : World) (hrt : rightS L V = true) (hf : formB L V i ps = false) (hr : Dg r) (hP : PartsAt w a pn c ps) :
    Calls Tryd.prog 52 #[.agg (pubC L V root pub).toArray, .agg (sigC i r (.slice a pn c)).toArray, v] w fun e w' => e = .returned (.bool false) ∧ Below w.heap.size w w' := by
  have CF := hid (fun (W : World) (h : PartsAt W a pn c ps) => by have := refformed_right L V i r a pn c ps W hrt hr h; rw [hf] at this; exact this)
  have b1 := (Below.refl w.heap.size w).alloc (Nat.le_refl _) (.cells (pubC L V root pub).toArray 68 (0, 0))
  have b2 := b1.alloc b1.size (.cells (sigC i r (.slice a pn c)).toArray 75 (0, 0))
  have Kp := hid ((Blk.new (w := w) (n := w.heap.size) rfl (pubC L V root pub).toArray 68).old (.cells (sigC i r (.slice a pn c)).toArray 75 (0, 0)))
  have Kg := hid (Blk.new (w := (w.alloc (.cells (pubC L V root pub).toArray 68 (0, 0)))) (n := w.heap.size + 1) (by simp only [World.size_alloc]) (sigC i r (.slice a pn c)).toArray 75)
  have Hb := hid b2
  have hbz := b2.size
  have Hbs := hid (show w.heap.size + 1 + 1 = ((w.alloc (.cells (pubC L V root pub).toArray 68 (0, 0))).alloc (.cells (sigC i r (.slice a pn c)).toArray 75 (0, 0))).heap.size by simp only [World.size_alloc])
  clear b1 b2 
  go_enter Tryd.func52, Tryd.ntmps52
  go_wp2_with (refine wpList_load_mid rfl 63 _ rfl (w.heap.size) 0 rfl _ _ (pubC_shape Kp.out) Tryd.underlying63 rfl (by exact size_shape) ?_)
  refine (refright_b L V true hrt _).mono ?_
  rintro e w1 ⟨rfl, bw1⟩
  have HBw1 := hid (Below.on Hb.out bw1)
  have hsw1 := HBw1.out.size
  have Kpw1 := hid (Kp.out.below bw1)
  have Kgw1 := hid (Kg.out.below bw1)
  clear bw1
  go_wp2_with (first
     | (refine wpList_load_mid_if (by first | rfl | go_simp) 63 _ rfl (w.heap.size) 0 rfl _ _ (pubC_shape Kpw1.out) Tryd.underlying63 rfl (by exact size_shape) ?_)
     | (refine wpList_load_blk_if (by first | rfl | go_simp) 75 _ rfl (w.heap.size + 1) rfl _ 75 Kgw1.out _ Tryd.underlying75 rfl 34 size_sig (sigC_size hr) ?_))
  refine (CF.out _ (hP.below HBw1.out)).mono ?_
  rintro e w2 ⟨rfl, bw2⟩
  have HBw2 := hid (Below.on HBw1.out bw2)
  have hsw2 := HBw2.out.size
  have Kpw2 := hid (Kpw1.out.below bw2)
  have Kgw2 := hid (Kgw1.out.below bw2)
  clear bw2
  go_wp2_with fail
  go_returns
  exact ⟨rfl, HBw2.out⟩
set_option maxHeartbeats 4000000 in
theorem refverify_good (L i : Int) (n : Nat) (root pub r : List Int) (a : Option Addr) (pn c : Nat) (ps : List Prt) (ta : Option Addr) (tn tc : Nat) (m : List Int) (w : World) (hf : formB L n i ps = true) (hr : Dg r) (hroot : Dg root) (hpub : Dg pub) (hP : PartsAt w a pn c ps) (hT : TextAt w ta tn tc m) (htn : tn ≤ 140737488320000) :
    Calls Tryd.prog 52 #[.agg (pubC L n root pub).toArray, .agg (sigC i r (.slice a pn c)).toArray, .slice ta tn tc] w fun e w' => e = .returned (.bool (decide (verK pub n ((2 ^ n : Nat) : Int) i ps (msgZ r root i m) ps.length = root))) ∧ Below w.heap.size w w' := by
  obtain ⟨hrt, h0, h1, h2, hall⟩ := formB_spec hf
  have hrt2 := hrt
  simp only [rightS, decide_eq_true_eq] at hrt2
  have hn : 1 ≤ n ∧ n ≤ 4 := by omega
  have hmy := manyS_le hrt
  have hlen := hP.length
  have hdg := hP.dg
  have CF := hid (fun (W : World) (h : PartsAt W a pn c ps) => by have := refformed_right L n i r a pn c ps W hrt hr h; rw [hf] at this; exact this)
  have CM := hid (fun (W : World) (h : TextAt W ta tn tc m) => refmsg11_any L n i root pub r m ta tn tc W hr hroot hpub h0 (by omega) h htn)
  have HM := hid (Dg.msg r root i m)
  have CP := hid (fun W : World => power_any n (by omega) W)
  have Hlf := hid (fun x : Int => leaf_right (x := x) hn)
  have hp0 : (0 : Int) < ((2 ^ n : Nat) : Int) := by have := Nat.pow_pos (n := n) (show 0 < 2 by omega); omega
  have hp16 : ((2 ^ n : Nat) : Int) ≤ 16 := by
    rcases (show n = 1 ∨ n = 2 ∨ n = 3 ∨ n = 4 by omega) with h | h | h | h <;> rw [h] <;> decide
  generalize msgZ r root i m = M at *
  generalize ((2 ^ n : Nat) : Int) = p at *
  have h1 : i < 65536 := by omega
  clear hf hmy
  have b1 := (Below.refl w.heap.size w).alloc (Nat.le_refl _) (.cells (pubC L n root pub).toArray 68 (0, 0))
  have b2 := b1.alloc b1.size (.cells (sigC i r (.slice a pn c)).toArray 75 (0, 0))
  have Kp := hid ((Blk.new (w := w) (n := w.heap.size) rfl (pubC L n root pub).toArray 68).old (.cells (sigC i r (.slice a pn c)).toArray 75 (0, 0)))
  have Kg := hid (Blk.new (w := (w.alloc (.cells (pubC L n root pub).toArray 68 (0, 0)))) (n := w.heap.size + 1) (by simp only [World.size_alloc]) (sigC i r (.slice a pn c)).toArray 75)
  have Hb := hid b2
  have hbz := b2.size
  have Hbs := hid (show w.heap.size + 1 + 1 = ((w.alloc (.cells (pubC L n root pub).toArray 68 (0, 0))).alloc (.cells (sigC i r (.slice a pn c)).toArray 75 (0, 0))).heap.size by simp only [World.size_alloc])
  clear b1 b2 
  go_enter Tryd.func52, Tryd.ntmps52
  go_wp2_with (refine wpList_load_mid rfl 63 _ rfl (w.heap.size) 0 rfl _ _ (pubC_shape Kp.out) Tryd.underlying63 rfl (by exact size_shape) ?_)
  refine (refright_b L n true hrt _).mono ?_
  rintro e w1 ⟨rfl, bw1⟩
  have HBw1 := hid (Below.on Hb.out bw1)
  have hsw1 := HBw1.out.size
  have Kpw1 := hid (Kp.out.below bw1)
  have Kgw1 := hid (Kg.out.below bw1)
  clear bw1
  go_wp2_with (first
     | (refine wpList_load_mid_if (by first | rfl | go_simp) 63 _ rfl (w.heap.size) 0 rfl _ _ (pubC_shape Kpw1.out) Tryd.underlying63 rfl (by exact size_shape) ?_)
     | (refine wpList_load_blk_if (by first | rfl | go_simp) 75 _ rfl (w.heap.size + 1) rfl _ 75 Kgw1.out _ Tryd.underlying75 rfl 34 size_sig (sigC_size hr) ?_))
  refine (CF.out _ (hP.below HBw1.out)).mono ?_
  rintro e w2 ⟨rfl, bw2⟩
  have HBw2 := hid (Below.on HBw1.out bw2)
  have hsw2 := HBw2.out.size
  have Kpw2 := hid (Kpw1.out.below bw2)
  have Kgw2 := hid (Kgw1.out.below bw2)
  clear bw2
  have gi := sigC_index Kgw2.out
  go_wp2_with (first
     | (refine wpList_load_mid rfl 23 _ rfl (w.heap.size + 1) 1 rfl _ _ (sigC_r Kgw2.out) Tryd.underlying23 rfl (by rw [List.length_map, hr.len]; exact size_digest) ?_)
     | (refine wpList_load_blk rfl 68 _ rfl (w.heap.size) rfl _ 68 Kpw2.out _ Tryd.underlying68 rfl 66 size_public (pubC_size hroot hpub) ?_))
  refine (CM.out _ (hT.below HBw2.out)).mono ?_
  rintro e w3 ⟨rfl, bw3⟩
  have HBw3 := hid (Below.on HBw2.out bw3)
  have hsw3 := HBw3.out.size
  have Kpw3 := hid (Kpw2.out.below bw3)
  have Kgw3 := hid (Kgw2.out.below bw3)
  clear bw3
  go_wp2_with (
        refine wpList_store_blk rfl 23 _ _ rfl (w3.heap.size) (M.map (Value.int .u8)).toArray rfl rfl _ 23 (Blk.new rfl (byteCells 32 []) _) 32 size_digest zsize HM.out.size (ints_one _ _) ?_
        intro w4 hbw4 hkw4
        have hw4 := hbw4.below ((Below.refl w3.heap.size w3).alloc (Nat.le_refl _) _) (by simp only [World.size_alloc]; omega) (Nat.le_refl _)
        have HBw4 := hid (Below.on HBw3.out hw4)
        have hsw4 := HBw4.out.size
        have Kpw4 := hid (Kpw3.out.below hw4)
        have hlpw4 := Kpw3.out.lt
        have Kgw4 := hid (Kgw3.out.below hw4)
        have hlgw4 := Kgw3.out.lt
        have Kmw4 := hid hkw4
        have hfw4 : w.heap.size ≤ w3.heap.size := HBw3.out.size
        clear hbw4 hkw4 hw4
        have gi2 := sigC_index Kgw4.out
        have s1 : w4.cell? ⟨w.heap.size, 1, none⟩ = some (.int .i64 n) := by rw [Kpw4.out.cell]; rfl)
  refine (CP.out _).mono ?_
  rintro e w5 ⟨rfl, bw5⟩
  have HBw5 := hid (Below.on HBw4.out bw5)
  have hsw5 := HBw5.out.size
  have Kpw5 := hid (Kpw4.out.below bw5)
  have Kgw5 := hid (Kgw4.out.below bw5)
  have Kmw5 := hid (Kmw4.out.below bw5)
  clear bw5
  have gi3 := sigC_index Kgw5.out
  go_wp2_with fail
  have hm7 : w.heap.size + 1 < w3.heap.size := by have := HBw4.out.size; omega
  have Hmb := hid Kmw5.out
  have Hbe := hid HBw5.out
  have Hpb := hid Kpw5.out
  have Hgb := hid Kgw5.out
  generalize w3.heap.size = bm at *
  go_loopw [9, 10] (fun av iv wr => ∃ k : Nat, k ≤ pn ∧ iv = .int .i64 k ∧ av = .int .i64 (atK p i k) ∧ Blk wr (w.heap.size) (pubC L n root pub).toArray 68 ∧ Blk wr (w.heap.size + 1) (sigC i r (.slice a pn c)).toArray 75 ∧ Blk wr bm ((verK pub n p i ps M k).map (Value.int .u8)).toArray 23 ∧ Below w.heap.size w wr) (fun _ iv _ => pn - (intOf iv).toNat)
  case atStart => exact ⟨0, Nat.zero_le _, rfl, rfl, Hpb.out, Hgb.out, Hmb.out, Hbe.out⟩
  case round =>
    obtain ⟨k, hk, rfl, rfl, kp, kg, km, bel⟩ := hrel
    have Kpwr := hid kp
    have Kgwr := hid kg
    have Kmwr := hid km
    have HBwr := hid bel
    have hswr := bel.size
    have hbmlt := km.lt
    have s0 : wr.cell? ⟨w.heap.size, 0, none⟩ = some (.int .i64 L) := by rw [kp.cell]; rfl
    clear kp kg km bel
    have HX := hid (Dg.ver (pub := pub) (V := n) (p := p) (i := i) HM.out hdg k (by omega))
    by_cases hlt : k < pn
    · have hc0 : (k : Int) < L := by omega
      obtain ⟨x, o, oa, oc, aa, ac, rfl, hpc⟩ := hP.part hlt
      have hkl : k < ps.length := by omega
      obtain ⟨hq1, hq2⟩ := hall k hkl
      have hq2 : (ps.getD k ([], [])).2.length = n := by omega
      have HPC := hid hpc
      clear hpc
      have Hnx := hid (show verK pub n p i ps M (k + 1) = rootZ pub n (k : Int) (atK p i (k + 1)) (atK p i k % p) (ps.getD k ([], [])).1 (ps.getD k ([], [])).2 (verK pub n p i ps M k) from rfl)
      have Hat := hid (show atK p i (k + 1) = atK p i k / p from rfl)
      have ha0 : 0 ≤ atK p i k ∧ atK p i k < 65536 := ⟨atK_nonneg hp0 h0 _, by have := atK_le hp0 h0 k; omega⟩
      have ha1 : 0 ≤ atK p i (k + 1) ∧ atK p i (k + 1) < 65536 := ⟨atK_nonneg hp0 h0 _, by have := atK_le hp0 h0 (k + 1); omega⟩
      have hl0 : 0 ≤ atK p i k % p ∧ atK p i k % p < 16 := ⟨Int.emod_nonneg _ (by omega), Int.lt_of_lt_of_le (Int.emod_lt_of_pos _ hp0) hp16⟩
      have HX2 := hid (Dg.ver (pub := pub) (V := n) (p := p) (i := i) HM.out hdg (k + 1) (by omega))
      have Hrz := hid (Hlf.out (atK p i k))
      have g33 := sigC_parts hr Kgwr.out
      obtain ⟨q, hq⟩ : ∃ q, ps.getD k ([], []) = q := ⟨_, rfl⟩
      rw [hq] at HPC hq1 hq2 Hnx
      clear hq
      have HO := hid HPC.out.ots
      have HAu := hid HPC.out.auth
      have Hrg := hid (HPC.out.below HBwr.out).range
      rw [hq1] at HO Hrg
      rw [hq2] at HAu Hrg
      have HLF := hid (compZ_dg pub (ltrZ (k : Int) (atK p i (k + 1)) (atK p i k % p)) 67 0 _ (rowW_each (Dg.fromP HO.out.each (verK pub n p i ps M k) pub (otsZ (k : Int) (atK p i (k + 1)) (atK p i k % p)))) (by rw [rowW_length]; omega) (by rw [rowW_length]; omega))
      rw [show rootZ pub n (k : Int) (atK p i (k + 1)) (atK p i k % p) q.1 q.2 (verK pub n p i ps M k) = climbZ pub (treeZ (k : Int) (atK p i (k + 1))) (atK p i k % p) q.2 (compZ pub (ltrZ (k : Int) (atK p i (k + 1)) (atK p i k % p)) 67 0 (rowW (fromP q.1 (verK pub n p i ps M k) pub (otsZ (k : Int) (atK p i (k + 1)) (atK p i k % p))))) n by unfold rootZ; rfl] at Hnx
      generalize hdl : verK pub n p i ps M (k + 1) = dl at *
      generalize hdk : verK pub n p i ps M k = dk at *
      generalize ha0' : atK p i k = a0 at *
      generalize ha1' : atK p i (k + 1) = a1 at *
      have hz0 : ¬ p = 0 := by omega
      have hl1' : Int.tmod a0 p = a0 % p := Int.tmod_eq_emod_of_nonneg ha0.1
      have hq1' : Int.tdiv a0 p = a1 := by rw [Int.tdiv_eq_ediv_of_nonneg ha0.1, ← Hat.out]
      have hq2' : a0 / p = a1 := Hat.out.symm
      have hw1 : wrap64 a1 = a1 := by unfold wrap64; omega
      have HAo := hid (Aw.ots (la := (k : Int)) (tr := a1) (i := a0 % p) (by omega) (by omega) (by omega))
      have HAl := hid (Aw.ltr (la := (k : Int)) (tr := a1) (i := a0 % p) (by omega) (by omega) (by omega))
      have Kpw31 := hid (Kpwr.out.old (.cells #[.slice oa 67 oc, .slice aa n ac] 88 (0, 0)))
      have hlpw31 := Kpwr.out.lt
      have Kgw31 := hid (Kgwr.out.old (.cells #[.slice oa 67 oc, .slice aa n ac] 88 (0, 0)))
      have hlgw31 := Kgwr.out.lt
      have Kmw31 := hid (Kmwr.out.old (.cells #[.slice oa 67 oc, .slice aa n ac] 88 (0, 0)))
      have hlmw31 := Kmwr.out.lt
      have Kxw31 := hid (Blk.new (w := wr) rfl #[.slice oa 67 oc, .slice aa n ac] 88)
      have HBw31 := hid (HBwr.out.alloc HBwr.out.size (.cells #[.slice oa 67 oc, .slice aa n ac] 88 (0, 0)))
      have hsw31 := HBw31.out.size
      have hfw31 : w.heap.size ≤ wr.heap.size := HBwr.out.size
      go_wp2_with (first
         | (refine wpList_index_s 2 (by first | rfl | go_simp) 73 _ _ rfl Tryd.underlying73 size_part x (o) (pn) (c) rfl _ _ rfl k (by omega) (by omega) ?_)
         | (refine wpList_load_mid rfl 88 _ rfl x (o + k * 2) rfl _ _ Hrg.out Tryd.underlying88 rfl (by exact size_part) ?_))
      refine wp_region_flow 13 [0, 1, 2, 3, 4, 5, 6, 7, 8, 9, 10, 11] [] [(.c 12, [], [])] (by kernel_rfl) (by kernel_rfl) ?_
      apply Exists.intro
      refine ⟨fun w0 hb0 hF0 => ?_, ?_⟩
      · skip
        have x0 : ∀ w', (∃ x : Ext w0, w' = x.at_) → ∃ T, Blk w' (bm) (dk.map (Value.int .u8)).toArray T := fun w' ⟨x, hx⟩ => ⟨_, hx ▸ (Kmw31.out.below hb0).below x.same⟩
        have y0 : ∀ w', (∃ x : Ext w0, w' = x.at_) → w'.cell? ⟨wr.heap.size, 0, none⟩ = some (.slice oa 67 oc) := fun w' ⟨x, hx⟩ => by rw [hx, ((Kxw31.out.below hb0).below x.same).cell]; rfl
        have z0 : ∀ w', (∃ x : Ext w0, w' = x.at_) → w'.rangeAt (w.heap.size) 34 (pub.map (Value.int .u8)) := fun w' ⟨x, hx⟩ => hx ▸ pubC_pub hroot ((Kpw31.out.below hb0).below x.same)
        have c0 := fun e : Ext w0 => refbase_ots k a1 (a0 % p) e.at_ (by omega) (by omega)
        simp only [pick, List.getElem?_toArray, List.getElem?_cons_succ, List.getElem?_cons_zero, Option.toList_some, List.cons_append, List.nil_append]
        repeat (first | (go_big_quiet_want; refine quiet_load_blk 23 _ rfl (bm) rfl _ x0 _ Tryd.underlying23 rfl 32 size_digest HX.out.size ?_; go_big_quiet_on; simp only [Act.put, List.setIfInBounds_toArray, List.set_cons_zero, List.set_cons_succ]) | (go_big_quiet_want; refine quiet_load_one 28 _ rfl ⟨wr.heap.size, 0, none⟩ rfl _ y0 _ Tryd.underlying28 rfl ?_; go_big_quiet_on; simp only [Act.put, List.setIfInBounds_toArray, List.set_cons_zero, List.set_cons_succ]) | (go_big_quiet_want; refine quiet_load_mid 23 _ rfl (w.heap.size) 34 rfl _ z0 _ Tryd.underlying23 rfl (by rw [List.length_map, hpub.len]; exact size_digest) ?_; go_big_quiet_on; simp only [Act.put, List.setIfInBounds_toArray, List.set_cons_zero, List.set_cons_succ]) | go_big_quiet_step (first | (go_at_call 95; with_reducible exact Calls.ext (c0 _))))
        exact wpQuiet_nil rfl
      refine AlChk.nil ?_
      refine Walk.call rfl 26 #[.slice oa 67 oc, .agg (dk.map (Value.int .u8)).toArray, .agg (pub.map (Value.int .u8)).toArray, .agg ((otsZ k a1 (a0 % p)).map (Value.int .u32)).toArray] (RowV 67 (rowW (fromP q.1 dk pub (otsZ k a1 (a0 % p))))) (fun v w' w'' h k => h.below k) rfl (fun w1 hb1 hF1 => ⟨by go_simp, ?_⟩) ?_
      · skip
        exact reffrom_any q.1 oa oc dk pub (otsZ k a1 (a0 % p)) w1 ((HO.out.below HBw31.out).below hb1) HX.out hpub HAo.out
      rintro v0 w1 hb1 hF1 ⟨pa, pc, rfl, _⟩
      apply Exists.intro
      refine ⟨fun w0 hb0 hF0 => ?_, ?_⟩
      · skip
        exact wpQuiet_nil rfl
      refine AlChk.nil ?_
      refine Walk.fin fun w32 hw32 hFw32 _ => ?_
      simp only [List.drop_succ_cons, List.drop_zero]
      have HFw32 := hid hFw32
      have HBw32 := hid (Below.on HBw31.out hw32)
      have hsw32 := HBw32.out.size
      have Kpw32 := hid (Kpw31.out.below hw32)
      have Kgw32 := hid (Kgw31.out.below hw32)
      have Kmw32 := hid (Kmw31.out.below hw32)
      have Kxw32 := hid (Kxw31.out.below hw32)
      clear hw32 hFw32
      have Hp := hid ((show RowV 67 (rowW (fromP q.1 dk pub (otsZ k a1 (a0 % p)))) (.slice pa 67 pc) w32 from HFw32.out.2).digs.2)
      clear HFw32
      have CC := hid (fun (W : World) (h : DigsAt W pa 67 pc (rowW (fromP q.1 dk pub (otsZ k a1 (a0 % p))))) => refcompress_any pa 67 pc (rowW (fromP q.1 dk pub (otsZ k a1 (a0 % p)))) pub (ltrZ k a1 (a0 % p)) W h (by omega) hpub HAl.out)
      generalize hlf : compZ pub (ltrZ k a1 (a0 % p)) 67 0 (rowW (fromP q.1 dk pub (otsZ k a1 (a0 % p)))) = lf at *
      go_wp2_with fail
      refine wp_region_flow 12 [0, 1, 2, 3, 4, 5, 6, 7, 8, 9, 10] [11] [(.b 11, [], [])] (by kernel_rfl) (by kernel_rfl) ?_
      apply Exists.intro
      refine ⟨fun w0 hb0 hF0 => ?_, ?_⟩
      · skip
        have z0 : ∀ w', (∃ x : Ext w0, w' = x.at_) → w'.rangeAt (w.heap.size) 34 (pub.map (Value.int .u8)) := fun w' ⟨x, hx⟩ => hx ▸ pubC_pub hroot ((Kpw32.out.below hb0).below x.same)
        have c0 := fun e : Ext w0 => refbase_ltr k a1 (a0 % p) e.at_ (by omega) (by omega)
        have c1 := fun e : Ext w0 => CC.out e.at_ ((Hp.out.below hb0).below e.same)
        simp only [pick, List.getElem?_toArray, List.getElem?_cons_succ, List.getElem?_cons_zero, Option.toList_some, List.cons_append, List.nil_append]
        repeat (first | (go_big_quiet_want; refine quiet_load_mid 23 _ rfl (w.heap.size) 34 rfl _ z0 _ Tryd.underlying23 rfl (by rw [List.length_map, hpub.len]; exact size_digest) ?_; go_big_quiet_on; simp only [Act.put, List.setIfInBounds_toArray, List.set_cons_zero, List.set_cons_succ]) | go_big_quiet_step (first | (go_at_call 95; with_reducible exact Calls.ext (c0 _)) | (go_at_call 31; with_reducible exact Calls.ext (c1 _))))
        exact wpQuiet_nil rfl
      refine AlChk.one rfl (fun b => .pointer (some ⟨b, 0, none⟩)) (.cells (byteCells 32 []) 23 (0, 0)) rfl (fun w3 hb3 hF3 => by go_simp; rfl) ?_
      refine AlChk.nil ?_
      refine Walk.blk rfl (fun b => .pointer (some ⟨b, 0, none⟩)) (.cells (byteCells 32 []) 23 (0, 0)) (by simp) ?_
      intro bw33 wz hbz_ hFz hgew33 _
      apply Exists.intro
      refine ⟨fun w4 hb4 hF4 => wpQuiet_nil rfl, ?_⟩
      refine AlChk.nil ?_
      refine Walk.fin fun w33 hw33 hFw33 _ => ?_
      simp only [List.drop_succ_cons, List.drop_zero]
      have kbw33 : Blk w33 bw33 (byteCells 32 []) 23 := hFw33.2
      have Kzw33 := hid kbw33
      have hgww33 : w.heap.size ≤ bw33 := Nat.le_trans HBw32.out.size hgew33
      clear hbz_ hFz hFw33 kbw33
      have hnpw33 : w.heap.size ≠ bw33 := by have := Kpw32.out.lt; omega
      have hngw33 : w.heap.size + 1 ≠ bw33 := by have := Kgw32.out.lt; omega
      have hnmw33 : bm ≠ bw33 := by have := Kmw32.out.lt; omega
      have hnxw33 : wr.heap.size ≠ bw33 := by have := Kxw32.out.lt; omega
      have HBw33 := hid (Below.on HBw32.out hw33)
      have hsw33 := HBw33.out.size
      have Kpw33 := hid (Kpw32.out.below hw33)
      have Kgw33 := hid (Kgw32.out.below hw33)
      have Kmw33 := hid (Kmw32.out.below hw33)
      have Kxw33 := hid (Kxw32.out.below hw33)
      clear hw33
      go_wp2_with (first
         | (
            refine wpList_store_blk rfl 23 _ _ rfl bw33 (lf.map (Value.int .u8)).toArray rfl rfl _ 23 Kzw33.out 32 size_digest zsize HLF.out.size (ints_one _ _) ?_
            intro w34 hbw34 hkw34
            have HBw34 := hid (hbw34.below HBw33.out HBw33.out.size hgww33)
            have hsw34 := HBw34.out.size
            have Kyw34 := hid hkw34
            have Kpw34 := hid (hbw34.blk Kpw33.out hnpw33)
            have Kgw34 := hid (hbw34.blk Kgw33.out hngw33)
            have Kmw34 := hid (hbw34.blk Kmw33.out hnmw33)
            have Kxw34 := hid (hbw34.blk Kxw33.out hnxw33)
            clear hbw34 hkw34
            have d1 : w34.cell? ⟨wr.heap.size, 1, none⟩ = some (.slice aa n ac) := by rw [Kxw34.out.cell]; rfl)
         | (refine wpList_load_blk rfl 23 _ rfl (bw33) rfl _ 23 Kyw34.out _ Tryd.underlying23 rfl 32 size_digest HLF.out.size ?_)
         | (refine wpList_load_mid rfl 23 _ rfl (w.heap.size) 34 rfl _ _ (pubC_pub hroot Kpw34.out) Tryd.underlying23 rfl (by rw [List.length_map, hpub.len]; exact size_digest) ?_))
      refine (refclimb_any lf pub aa n ac q.2 (a0 % p) k a1 _ HLF.out hpub (HAu.out.below HBw34.out) (by omega) (by omega) Hrz.out).mono ?_
      rintro e w35 ⟨rfl, bw35⟩
      have HBw35 := hid (Below.on HBw34.out bw35)
      have hsw35 := HBw35.out.size
      have Kpw35 := hid (Kpw34.out.below bw35)
      have Kgw35 := hid (Kgw34.out.below bw35)
      have Kmw35 := hid (Kmw34.out.below bw35)
      have Kxw35 := hid (Kxw34.out.below bw35)
      have Kyw35 := hid (Kyw34.out.below bw35)
      clear bw35
      rw [← Hnx.out]
      go_wp2_with (
            refine wpList_store_blk rfl 23 _ _ rfl (bm) (dl.map (Value.int .u8)).toArray rfl rfl _ 23 Kmw35.out 32 size_digest HX.out.size HX2.out.size (ints_one _ _) ?_
            intro w36 hbw36 hkw36
            have HBw36 := hid (hbw36.below HBw35.out HBw35.out.size (by omega))
            have hsw36 := HBw36.out.size
            have Kpw36 := hid (hbw36.blk Kpw35.out (by have := Kpw35.out.lt; omega))
            have Kgw36 := hid (hbw36.blk Kgw35.out (by have := Kgw35.out.lt; omega))
            have Kxw36 := hid (hbw36.blk Kxw35.out (by have := Kxw35.out.lt; omega))
            have Kyw36 := hid (hbw36.blk Kyw35.out (by have := Kyw35.out.lt; omega))
            have Kmw36 := hid hkw36
            clear hbw36 hkw36)
      exact ⟨⟨k + 1, by omega, by first | rfl | simp, by rw [ha1'], Kpw36.out, Kgw36.out, by rw [hdl]; exact Kmw36.out, HBw36.out⟩, by simp [intOf]; omega⟩
    · obtain rfl : k = pn := by omega
      have hc0 : ¬ ((k : Int) < L) := by omega
      have hl := hP.length
      obtain ⟨X, hX⟩ : ∃ X, verK pub n p i ps M k = X := ⟨_, rfl⟩
      rw [hX] at HX Kmwr
      have q1 := fun W => eqD X root HX.out.len hroot.len W
      go_wp2_with (first
         | (refine wpList_load_blk rfl 23 _ rfl (bm) rfl _ 23 Kmwr.out _ Tryd.underlying23 rfl 32 size_digest HX.out.size ?_)
         | (refine wpList_load_mid rfl 23 _ rfl (w.heap.size) 2 rfl _ _ (pubC_root Kpwr.out) Tryd.underlying23 rfl (by rw [List.length_map, hroot.len]; exact size_digest) ?_))
      go_returns
      exact ⟨by first | (rw [hX]; rfl) | (rw [hl, hX]; rfl) | rfl, HBwr.out⟩
end Go.Proofs.YtjkfbeillmeomaaDoor
