/-
  Layer 11: verifying, by the program and by the reference.
-/
import Derived.Test.YtjkfbeillmeomaaDoorRPlace
import Derived.Test.YtjkfbeillmeomaaDoorRSigH
namespace Go.Proofs.YtjkfbeillmeomaaDoor
set_option maxRecDepth 100000
open Go.ChangeShapes Go.WideShapes Go.ChangeAt Go.RowKit
/-- Where the way of an index is, so many layers up. -/
def atK (p i : Int) : Nat → Int
  | 0 => i
  | k + 1 => atK p i k / p
/-- What the first so many parts lead to. -/
def verK (pub : List Int) (V : Nat) (p i : Int) (ps : List Prt) (m : List Int) : Nat → List Int
  | 0 => m
  | k + 1 => rootZ pub V (k : Int) (atK p i (k + 1)) (atK p i k % p) (ps.getD k ([], [])).1 (ps.getD k ([], [])).2 (verK pub V p i ps m k)
/-- Does a signature hold? -/
def verB (L V i : Int) (root pub r : List Int) (ps : List Prt) (text : List Int) : Bool :=
  formB L V i ps && decide (verK pub V.toNat ((2 ^ V.toNat : Nat) : Int) i ps (msgZ r root i text) ps.length = root)
theorem atK_nonneg {p i : Int} (hp : 0 < p) (hi : 0 ≤ i) : ∀ k, 0 ≤ atK p i k
  | 0 => hi
  | k + 1 => Int.ediv_nonneg (atK_nonneg hp hi k) (Int.le_of_lt hp)
theorem atK_le {p i : Int} (hp : 0 < p) (hi : 0 ≤ i) : ∀ k, atK p i k ≤ i
  | 0 => Int.le_refl _
  | k + 1 => Int.le_trans (Int.ediv_le_self _ (atK_nonneg hp hi k)) (atK_le hp hi k)
theorem Dg.ver {pub : List Int} {V : Nat} {p i : Int} {ps : List Prt} {m : List Int} (hm : Dg m) (hps : ∀ k, k < ps.length → ∀ d ∈ (ps.getD k ([], [])).1, Dg d) : ∀ k, k ≤ ps.length → Dg (verK pub V p i ps m k)
  | 0, _ => hm
  | k + 1, h => Dg.root (hps k h)
theorem PartsAt.dg {w : World} {a : Option Addr} {len cap : Nat} {ps : List Prt} (h : PartsAt w a len cap ps) : ∀ k, k < ps.length → ∀ d ∈ (ps.getD k ([], [])).1, Dg d := fun k hk => by
  obtain ⟨x, o, oa, oc, aa, ac, _, hpc⟩ := h.part (k := k) (by rw [← h.length]; exact hk)
  exact hpc.ots.each
theorem formB_spec {L V i : Int} {ps : List Prt} (h : formB L V i ps = true) : rightS L V = true ∧ 0 ≤ i ∧ i < manyS L V ∧ (ps.length : Int) = L ∧ ∀ j, j < ps.length → (ps.getD j ([], [])).1.length = 67 ∧ ((ps.getD j ([], [])).2.length : Int) = V := by
  simp only [formB, Bool.and_eq_true, decide_eq_true_eq] at h
  exact ⟨h.1.1.1.1, h.1.1.1.2, h.1.1.2, h.1.2, h.2⟩
theorem manyS_le {L V : Int} (h : rightS L V = true) : manyS L V ≤ 65536 := by
  have h2 := h
  simp only [rightS, decide_eq_true_eq] at h2
  obtain ⟨n, hn⟩ : ∃ n : Nat, L * V = (n : Int) := ⟨(L * V).toNat, by have := Int.mul_nonneg (show 0 ≤ L by omega) (show 0 ≤ V by omega); omega⟩
  have hm16 : n ≤ 16 := by
    have h1 : L * V ≤ 4 * 4 := Int.mul_le_mul (by omega) (by omega) (by omega) (by omega)
    omega
  have hmz : manyS L V = ((2 ^ n : Nat) : Int) := by rw [manyS, if_pos h, hn]; rfl
  have : 2 ^ n ≤ 2 ^ 16 := Nat.pow_le_pow_right (by omega) hm16
  rw [hmz]
  omega
theorem leaf_right {n : Nat} {x : Int} (hn : 1 ≤ n ∧ n ≤ 4) : rightZ n (x % ((2 ^ n : Nat) : Int)) = true := by
  simp only [rightZ, decide_eq_true_eq]
  rcases (show n = 1 ∨ n = 2 ∨ n = 3 ∨ n = 4 by omega) with rfl | rfl | rfl | rfl <;> simp <;> omega
set_option maxHeartbeats 4000000 in
theorem verify_false (L V i : Int) (root pub r : List Int) (a : Option Addr) (pn c : Nat) (ps : List Prt) (v : Value) (w : World) (hrt : rightS L V = true) (hf : formB L V i ps = false) (hr : Dg r) (hP : PartsAt w a pn c ps) :
    Calls Tryd.prog 51 #[.agg (pubC L V root pub).toArray, .agg (sigC i r (.slice a pn c)).toArray, v] w fun e w' => e = .returned (.bool false) ∧ Below w.heap.size w w' := by
  have CF := hid (fun (W : World) (h : PartsAt W a pn c ps) => by have := formed_right L V i r a pn c ps W hrt hr h; rw [hf] at this; exact this)
  have b1 := (Below.refl w.heap.size w).alloc (Nat.le_refl _) (.cells (pubC L V root pub).toArray 68 (0, 0))
  have b2 := b1.alloc b1.size (.cells (sigC i r (.slice a pn c)).toArray 75 (0, 0))
  have Kp := hid ((Blk.new (w := w) (n := w.heap.size) rfl (pubC L V root pub).toArray 68).old (.cells (sigC i r (.slice a pn c)).toArray 75 (0, 0)))
  have Kg := hid (Blk.new (w := (w.alloc (.cells (pubC L V root pub).toArray 68 (0, 0)))) (n := w.heap.size + 1) (by simp only [World.size_alloc]) (sigC i r (.slice a pn c)).toArray 75)
  have Hb := hid b2
  have hbz := b2.size
  have Hbs := hid (show w.heap.size + 1 + 1 = ((w.alloc (.cells (pubC L V root pub).toArray 68 (0, 0))).alloc (.cells (sigC i r (.slice a pn c)).toArray 75 (0, 0))).heap.size by simp only [World.size_alloc])
  clear b1 b2 
  go_enter Tryd.func51, Tryd.ntmps51
  go_wp2_with (first
     | (refine wpList_load_mid rfl 63 _ rfl (w.heap.size) 0 rfl _ _ (pubC_shape Kp.out) Tryd.underlying63 rfl (by exact size_shape) ?_)
     | (refine wpList_load_blk rfl 75 _ rfl (w.heap.size + 1) rfl _ 75 Kg.out _ Tryd.underlying75 rfl 34 size_sig (sigC_size hr) ?_))
  have hb := hf
  refine (CF.out _ (hP.below Hb.out)).mono ?_
  rintro e w1 ⟨rfl, bw1⟩
  have HBw1 := hid (Below.on Hb.out bw1)
  have hsw1 := HBw1.out.size
  have Kpw1 := hid (Kp.out.below bw1)
  have Kgw1 := hid (Kg.out.below bw1)
  clear bw1
  go_wp2_with fail
  go_returns
  exact ⟨rfl, HBw1.out⟩
set_option maxHeartbeats 4000000 in
theorem verify_good (L i : Int) (n : Nat) (root pub r : List Int) (a : Option Addr) (pn c : Nat) (ps : List Prt) (ta : Option Addr) (tn tc : Nat) (ts : List (List Int)) (w : World) (hf : formB L n i ps = true) (hr : Dg r) (hroot : Dg root) (hpub : Dg pub) (hP : PartsAt w a pn c ps) (hT : TextsAt w ta tn tc ts) (htn : tn ≤ 4000000000000) (hsl : sumLen ts < 1000000000000000000) (tab : ShaTab w) :
    Calls Tryd.prog 51 #[.agg (pubC L n root pub).toArray, .agg (sigC i r (.slice a pn c)).toArray, .slice ta tn tc] w fun e w' => e = .returned (.bool (decide (verK pub n ((2 ^ n : Nat) : Int) i ps (msgZ r root i ts.flatten) ps.length = root))) ∧ Below w.heap.size w w' := by
  obtain ⟨hrt, h0, h1, h2, hall⟩ := formB_spec hf
  have hrt2 := hrt
  simp only [rightS, decide_eq_true_eq] at hrt2
  have hn : 1 ≤ n ∧ n ≤ 4 := by omega
  have hmy := manyS_le hrt
  have hlen := hP.length
  have hdg := hP.dg
  have CF := hid (fun (W : World) (h : PartsAt W a pn c ps) => by have := formed_right L n i r a pn c ps W hrt hr h; rw [hf] at this; exact this)
  have CM := hid (fun (W : World) (h : TextsAt W ta tn tc ts) (t : ShaTab W) => Message_any r root i ta tn tc ts W hr hroot h0 (by omega) h htn hsl t)
  have HM := hid (Dg.msg r root i ts.flatten)
  have CLo := hid (fun W : World => lowest_any L i n W hn h0 (by omega))
  have CAb := hid (fun (la tr leaf : Int) (W : World) (hla : 0 ≤ la ∧ la < 100) (q0 : 0 ≤ tr) (q1 : tr < 18446744073709551616) => above_pl la tr leaf n W hn hla q0 q1)
  have Hlf := hid (fun x : Int => leaf_right (x := x) hn)
  have hp0 : (0 : Int) < ((2 ^ n : Nat) : Int) := by have := Nat.pow_pos (n := n) (show 0 < 2 by omega); omega
  generalize msgZ r root i ts.flatten = M at *
  generalize ((2 ^ n : Nat) : Int) = p at *
  have h1 : i < 65536 := by omega
  clear hf hmy
  have b1 := (Below.refl w.heap.size w).alloc (Nat.le_refl _) (.cells (pubC L n root pub).toArray 68 (0, 0))
  have b2 := b1.alloc b1.size (.cells (sigC i r (.slice a pn c)).toArray 75 (0, 0))
  have Kp := hid ((Blk.new (w := w) (n := w.heap.size) rfl (pubC L n root pub).toArray 68).old (.cells (sigC i r (.slice a pn c)).toArray 75 (0, 0)))
  have Kg := hid (Blk.new (w := (w.alloc (.cells (pubC L n root pub).toArray 68 (0, 0)))) (n := w.heap.size + 1) (by simp only [World.size_alloc]) (sigC i r (.slice a pn c)).toArray 75)
  have Hb := hid b2
  have hbz := b2.size
  have Hbs := hid (show w.heap.size + 1 + 1 = ((w.alloc (.cells (pubC L n root pub).toArray 68 (0, 0))).alloc (.cells (sigC i r (.slice a pn c)).toArray 75 (0, 0))).heap.size by simp only [World.size_alloc])
  have Htab := hid tab
  clear b1 b2 tab 
  go_enter Tryd.func51, Tryd.ntmps51
  go_wp2_with (first
     | (refine wpList_load_mid rfl 63 _ rfl (w.heap.size) 0 rfl _ _ (pubC_shape Kp.out) Tryd.underlying63 rfl (by exact size_shape) ?_)
     | (refine wpList_load_blk rfl 75 _ rfl (w.heap.size + 1) rfl _ 75 Kg.out _ Tryd.underlying75 rfl 34 size_sig (sigC_size hr) ?_))
  refine (CF.out _ (hP.below Hb.out)).mono ?_
  rintro e w1 ⟨rfl, bw1⟩
  have HBw1 := hid (Below.on Hb.out bw1)
  have hsw1 := HBw1.out.size
  have Kpw1 := hid (Kp.out.below bw1)
  have Kgw1 := hid (Kg.out.below bw1)
  clear bw1
  have gi := sigC_index Kgw1.out
  go_wp2_with (first
     | (refine wpList_load_mid rfl 23 _ rfl (w.heap.size + 1) 1 rfl _ _ (sigC_r Kgw1.out) Tryd.underlying23 rfl (by rw [List.length_map, hr.len]; exact size_digest) ?_)
     | (refine wpList_load_mid rfl 23 _ rfl (w.heap.size) 2 rfl _ _ (pubC_root Kpw1.out) Tryd.underlying23 rfl (by rw [List.length_map, hroot.len]; exact size_digest) ?_))
  refine (CM.out _ (hT.below HBw1.out) (Htab.out.below HBw1.out)).mono ?_
  rintro e w2 ⟨rfl, bw2⟩
  have HBw2 := hid (Below.on HBw1.out bw2)
  have hsw2 := HBw2.out.size
  have Kpw2 := hid (Kpw1.out.below bw2)
  have Kgw2 := hid (Kgw1.out.below bw2)
  clear bw2
  go_wp2_with (first
     | (
        refine wpList_store_blk rfl 23 _ _ rfl (w2.heap.size) (M.map (Value.int .u8)).toArray rfl rfl _ 23 (Blk.new rfl (byteCells 32 []) _) 32 size_digest zsize HM.out.size (ints_one _ _) ?_
        intro w3 hbw3 hkw3
        have hw3 := hbw3.below ((Below.refl w2.heap.size w2).alloc (Nat.le_refl _) _) (by simp only [World.size_alloc]; omega) (Nat.le_refl _)
        have HBw3 := hid (Below.on HBw2.out hw3)
        have hsw3 := HBw3.out.size
        have Kpw3 := hid (Kpw2.out.below hw3)
        have hlpw3 := Kpw2.out.lt
        have Kgw3 := hid (Kgw2.out.below hw3)
        have hlgw3 := Kgw2.out.lt
        have Kmw3 := hid hkw3
        have hfw3 : w.heap.size ≤ w2.heap.size := HBw2.out.size
        clear hbw3 hkw3 hw3
        have gi2 := sigC_index Kgw3.out)
     | (refine wpList_load_mid rfl 63 _ rfl (w.heap.size) 0 rfl _ _ (pubC_shape Kpw3.out) Tryd.underlying63 rfl (by exact size_shape) ?_))
  refine (CLo.out _).mono ?_
  rintro e w4 ⟨rfl, bw4⟩
  have HBw4 := hid (Below.on HBw3.out bw4)
  have hsw4 := HBw4.out.size
  have Kpw4 := hid (Kpw3.out.below bw4)
  have Kgw4 := hid (Kgw3.out.below bw4)
  have Kmw4 := hid (Kmw3.out.below bw4)
  clear bw4
  have Kpw5 := hid (Kpw4.out.old (.cells #[.int .u32 0, .int .u64 (i / p), .int .i64 (i % p), .int .i64 n] 142 (0, 0)))
  have hlpw5 := Kpw4.out.lt
  have Kgw5 := hid (Kgw4.out.old (.cells #[.int .u32 0, .int .u64 (i / p), .int .i64 (i % p), .int .i64 n] 142 (0, 0)))
  have hlgw5 := Kgw4.out.lt
  have Kmw5 := hid (Kmw4.out.old (.cells #[.int .u32 0, .int .u64 (i / p), .int .i64 (i % p), .int .i64 n] 142 (0, 0)))
  have hlmw5 := Kmw4.out.lt
  have Ktw5 := hid (Blk.new (w := w4) rfl #[.int .u32 0, .int .u64 (i / p), .int .i64 (i % p), .int .i64 n] 142)
  have HBw5 := hid (HBw4.out.alloc HBw4.out.size (.cells #[.int .u32 0, .int .u64 (i / p), .int .i64 (i % p), .int .i64 n] 142 (0, 0)))
  have hsw5 := HBw5.out.size
  have hfw5 : w.heap.size ≤ w4.heap.size := HBw4.out.size
  have gp := sigC_parts hr Kgw5.out
  go_wp2_with fail
  have hm7 : w.heap.size + 1 < w2.heap.size := by have := Kmw5.out.lt; omega
  have hm8 : w2.heap.size < w4.heap.size := by omega
  have Hmb := hid Kmw5.out
  have Htb := hid Ktw5.out
  have Hbe := hid HBw5.out
  have Hpb := hid Kpw5.out
  have Hgb := hid Kgw5.out
  generalize w2.heap.size = bm at *
  generalize w4.heap.size = bt at *
  clear hbz
  go_loopw [35] (fun iv wr => ∃ k : Nat, k ≤ pn ∧ iv = .int .i64 k ∧ Blk wr (w.heap.size) (pubC L n root pub).toArray 68 ∧ Blk wr (w.heap.size + 1) (sigC i r (.slice a pn c)).toArray 75 ∧ Blk wr bm ((verK pub n p i ps M k).map (Value.int .u8)).toArray 23 ∧ Blk wr bt #[.int .u32 k, .int .u64 (atK p i (k + 1)), .int .i64 (atK p i k % p), .int .i64 n] 142 ∧ Below w.heap.size w wr) (fun iv _ => pn - (intOf iv).toNat)
  case atStart => exact ⟨0, Nat.zero_le _, rfl, Hpb.out, Hgb.out, Hmb.out, Htb.out, Hbe.out⟩
  case round =>
    obtain ⟨k, hk, rfl, kp, kg, km, kt, bel⟩ := hrel
    have Kpwr := hid kp
    have Kgwr := hid kg
    have Kmwr := hid km
    have Ktwr := hid kt
    have HBwr := hid bel
    have hswr := bel.size
    have hbmlt := km.lt
    have hbtlt := kt.lt
    clear kp kg km kt bel
    have HX := hid (Dg.ver (pub := pub) (V := n) (p := p) (i := i) HM.out hdg k (by omega))
    by_cases hlt : k < pn
    · have hc0 : (k : Int) < pn := by omega
      obtain ⟨x, o, oa, oc, aa, ac, rfl, hpc⟩ := hP.part hlt
      have hkl : k < ps.length := by omega
      obtain ⟨hq1, hq2⟩ := hall k hkl
      have hq2 : (ps.getD k ([], [])).2.length = n := by omega
      have HPC := hid hpc
      clear hpc
      have Hnx := hid (show verK pub n p i ps M (k + 1) = rootZ pub n (k : Int) (atK p i (k + 1)) (atK p i k % p) (ps.getD k ([], [])).1 (ps.getD k ([], [])).2 (verK pub n p i ps M k) from rfl)
      have Hat := hid (show atK p i (k + 1 + 1) = atK p i (k + 1) / p from rfl)
      have ha1 : 0 ≤ atK p i (k + 1) ∧ atK p i (k + 1) < 18446744073709551616 := ⟨atK_nonneg hp0 h0 _, by have := atK_le hp0 h0 (k + 1); omega⟩
      have HX2 := hid (Dg.ver (pub := pub) (V := n) (p := p) (i := i) HM.out hdg (k + 1) (by omega))
      have CR := hid (fun (W : World) (hO : DigsAt W oa 67 oc (ps.getD k ([], [])).1) (hA : DigsAt W aa n ac (ps.getD k ([], [])).2) (t : ShaTab W) => root_good (k : Int) (atK p i (k + 1)) (atK p i k % p) n (ps.getD k ([], [])).1 (ps.getD k ([], [])).2 oa oc aa ac (verK pub n p i ps M k) pub W hO hA HX.out hpub (by omega) ha1 (Hlf.out (atK p i k)) t)
      have CA := hid (fun (W : World) => CAb.out (k : Int) (atK p i (k + 1)) (atK p i k % p) W (by omega) ha1.1 ha1.2)
      rw [← Hnx.out] at CR
      rw [← Hat.out] at CA
      clear Hnx Hat
      obtain ⟨q, hq⟩ : ∃ q, ps.getD k ([], []) = q := ⟨_, rfl⟩
      rw [hq] at HPC CR hq1 hq2
      clear hq
      have HO := hid HPC.out.ots
      have HAu := hid HPC.out.auth
      have Hrg := hid (HPC.out.below HBwr.out).range
      have hsz := HBwr.out
      rw [hq1] at HO Hrg
      rw [hq2] at HAu Hrg
      generalize hdl : verK pub n p i ps M (k + 1) = dl at *
      generalize hdk : verK pub n p i ps M k = dk at *
      generalize hll1 : atK p i (k + 1) % p = l2 at *
      generalize hl1 : atK p i k % p = l1 at *
      generalize ha2 : atK p i (k + 1 + 1) = a2 at *
      generalize ha1' : atK p i (k + 1) = a1 at *
      have Kpw31 := hid (Kpwr.out.old (.cells #[.slice oa 67 oc, .slice aa n ac] 88 (0, 0)))
      have hlpw31 := Kpwr.out.lt
      have Kgw31 := hid (Kgwr.out.old (.cells #[.slice oa 67 oc, .slice aa n ac] 88 (0, 0)))
      have hlgw31 := Kgwr.out.lt
      have Kmw31 := hid (Kmwr.out.old (.cells #[.slice oa 67 oc, .slice aa n ac] 88 (0, 0)))
      have hlmw31 := Kmwr.out.lt
      have Ktw31 := hid (Ktwr.out.old (.cells #[.slice oa 67 oc, .slice aa n ac] 88 (0, 0)))
      have hltw31 := Ktwr.out.lt
      have Kxw31 := hid (Blk.new (w := wr) rfl #[.slice oa 67 oc, .slice aa n ac] 88)
      have HBw31 := hid (HBwr.out.alloc HBwr.out.size (.cells #[.slice oa 67 oc, .slice aa n ac] 88 (0, 0)))
      have hsw31 := HBw31.out.size
      have hfw31 : w.heap.size ≤ wr.heap.size := HBwr.out.size
      go_wp2_with (first
         | (refine wpList_index_s 2 (by first | rfl | go_simp) 73 _ _ rfl Tryd.underlying73 size_part x (o) (pn) (c) rfl _ _ rfl k (by omega) (by omega) ?_)
         | (refine wpList_load_mid rfl 88 _ rfl x (o + k * 2) rfl _ _ Hrg.out Tryd.underlying88 rfl (by exact size_part) ?_)
         | (refine wpList_load_blk rfl 142 _ rfl (bt) rfl _ 142 Ktw31.out _ Tryd.underlying142 rfl 4 size_place rfl ?_)
         | (refine wpList_load_blk rfl 88 _ rfl (wr.heap.size) rfl _ 88 Kxw31.out _ Tryd.underlying88 rfl 2 size_part rfl ?_)
         | (refine wpList_load_blk rfl 23 _ rfl (bm) rfl _ 23 Kmw31.out _ Tryd.underlying23 rfl 32 size_digest HX.out.size ?_)
         | (refine wpList_load_mid rfl 23 _ rfl (w.heap.size) 34 rfl _ _ (pubC_pub hroot Kpw31.out) Tryd.underlying23 rfl (by rw [List.length_map, hpub.len]; exact size_digest) ?_))
      refine (CR.out _ (HO.out.below (HBw31.out)) (HAu.out.below (HBw31.out)) (Htab.out.below HBw31.out)).mono ?_
      rintro e w32 ⟨rfl, bw32⟩
      have HBw32 := hid (Below.on HBw31.out bw32)
      have hsw32 := HBw32.out.size
      have Kpw32 := hid (Kpw31.out.below bw32)
      have Kgw32 := hid (Kgw31.out.below bw32)
      have Kmw32 := hid (Kmw31.out.below bw32)
      have Ktw32 := hid (Ktw31.out.below bw32)
      have Kxw32 := hid (Kxw31.out.below bw32)
      clear bw32
      go_wp2_with (first
         | (
            refine wpList_store_blk rfl 23 _ _ rfl (w32.heap.size) (dl.map (Value.int .u8)).toArray rfl rfl _ 23 (Blk.new rfl (byteCells 32 []) _) 32 size_digest zsize HX2.out.size (ints_one _ _) ?_
            intro w33 hbw33 hkw33
            have hw33 := hbw33.below ((Below.refl w32.heap.size w32).alloc (Nat.le_refl _) _) (by simp only [World.size_alloc]; omega) (Nat.le_refl _)
            have HBw33 := hid (Below.on HBw32.out hw33)
            have hsw33 := HBw33.out.size
            have Kpw33 := hid (Kpw32.out.below hw33)
            have hlpw33 := Kpw32.out.lt
            have Kgw33 := hid (Kgw32.out.below hw33)
            have hlgw33 := Kgw32.out.lt
            have Kmw33 := hid (Kmw32.out.below hw33)
            have hlmw33 := Kmw32.out.lt
            have Ktw33 := hid (Ktw32.out.below hw33)
            have hltw33 := Ktw32.out.lt
            have Kxw33 := hid (Kxw32.out.below hw33)
            have hlxw33 := Kxw32.out.lt
            have Kyw33 := hid hkw33
            have hfw33 : w.heap.size ≤ w32.heap.size := HBw32.out.size
            clear hbw33 hkw33 hw33)
         | (refine wpList_load_blk rfl 23 _ rfl (w32.heap.size) rfl _ 23 Kyw33.out _ Tryd.underlying23 rfl 32 size_digest HX2.out.size ?_)
         | (
            refine wpList_store_blk rfl 23 _ _ rfl (bm) (dl.map (Value.int .u8)).toArray rfl rfl _ 23 Kmw33.out 32 size_digest HX.out.size HX2.out.size (ints_one _ _) ?_
            intro w34 hbw34 hkw34
            have HBw34 := hid (hbw34.below HBw33.out HBw33.out.size (by omega))
            have hsw34 := HBw34.out.size
            have Kpw34 := hid (hbw34.blk Kpw33.out (by have := Kpw33.out.lt; omega))
            have Kgw34 := hid (hbw34.blk Kgw33.out (by have := Kgw33.out.lt; omega))
            have Ktw34 := hid (hbw34.blk Ktw33.out (by have := Ktw33.out.lt; omega))
            have Kxw34 := hid (hbw34.blk Kxw33.out (by have := Kxw33.out.lt; omega))
            have Kyw34 := hid (hbw34.blk Kyw33.out (by have := Kyw33.out.lt; omega))
            have Kmw34 := hid hkw34
            clear hbw34 hkw34)
         | (refine wpList_load_blk rfl 142 _ rfl (bt) rfl _ 142 Ktw34.out _ Tryd.underlying142 rfl 4 size_place rfl ?_))
      refine (CA.out _).mono ?_
      rintro e w35 ⟨rfl, bw35⟩
      have HBw35 := hid (Below.on HBw34.out bw35)
      have hsw35 := HBw35.out.size
      have Kpw35 := hid (Kpw34.out.below bw35)
      have Kgw35 := hid (Kgw34.out.below bw35)
      have Kmw35 := hid (Kmw34.out.below bw35)
      have Ktw35 := hid (Ktw34.out.below bw35)
      have Kxw35 := hid (Kxw34.out.below bw35)
      have Kyw35 := hid (Kyw34.out.below bw35)
      clear bw35
      have Kpw36 : Hid (Blk ((((w35.setCell ⟨bt, 0, none⟩ (.int .u32 (k + 1))).setCell ⟨bt, 1, none⟩ (.int .u64 a2)).setCell ⟨bt, 2, none⟩ (.int .i64 l2)).setCell ⟨bt, 3, none⟩ (.int .i64 n)) (w.heap.size) (pubC L n root pub).toArray 68) := hid (Blk.setAll_other (b := bt) (by have := Kpw35.out.lt; omega) [.int .u32 (k + 1), .int .u64 a2, .int .i64 l2, .int .i64 n] 0 _ Kpw35.out)
      have Kgw36 : Hid (Blk ((((w35.setCell ⟨bt, 0, none⟩ (.int .u32 (k + 1))).setCell ⟨bt, 1, none⟩ (.int .u64 a2)).setCell ⟨bt, 2, none⟩ (.int .i64 l2)).setCell ⟨bt, 3, none⟩ (.int .i64 n)) (w.heap.size + 1) (sigC i r (.slice (some ⟨x, o, none⟩) pn c)).toArray 75) := hid (Blk.setAll_other (b := bt) (by have := Kgw35.out.lt; omega) [.int .u32 (k + 1), .int .u64 a2, .int .i64 l2, .int .i64 n] 0 _ Kgw35.out)
      have Kmw36 : Hid (Blk ((((w35.setCell ⟨bt, 0, none⟩ (.int .u32 (k + 1))).setCell ⟨bt, 1, none⟩ (.int .u64 a2)).setCell ⟨bt, 2, none⟩ (.int .i64 l2)).setCell ⟨bt, 3, none⟩ (.int .i64 n)) (bm) (dl.map (Value.int .u8)).toArray 23) := hid (Blk.setAll_other (b := bt) (by have := Kmw35.out.lt; omega) [.int .u32 (k + 1), .int .u64 a2, .int .i64 l2, .int .i64 n] 0 _ Kmw35.out)
      have Kxw36 : Hid (Blk ((((w35.setCell ⟨bt, 0, none⟩ (.int .u32 (k + 1))).setCell ⟨bt, 1, none⟩ (.int .u64 a2)).setCell ⟨bt, 2, none⟩ (.int .i64 l2)).setCell ⟨bt, 3, none⟩ (.int .i64 n)) (wr.heap.size) #[.slice oa 67 oc, .slice aa n ac] 88) := hid (Blk.setAll_other (b := bt) (by have := Kxw35.out.lt; omega) [.int .u32 (k + 1), .int .u64 a2, .int .i64 l2, .int .i64 n] 0 _ Kxw35.out)
      have Kyw36 : Hid (Blk ((((w35.setCell ⟨bt, 0, none⟩ (.int .u32 (k + 1))).setCell ⟨bt, 1, none⟩ (.int .u64 a2)).setCell ⟨bt, 2, none⟩ (.int .i64 l2)).setCell ⟨bt, 3, none⟩ (.int .i64 n)) (w32.heap.size) (dl.map (Value.int .u8)).toArray 23) := hid (Blk.setAll_other (b := bt) (by have := Kyw35.out.lt; omega) [.int .u32 (k + 1), .int .u64 a2, .int .i64 l2, .int .i64 n] 0 _ Kyw35.out)
      have q0w36 := (Ktw35.out.cell 0).trans (show _ = some _ from rfl)
      have r0w36 := Ktw35.out.free 0
      have q1w36 := (Ktw35.out.cell 1).trans (show _ = some _ from rfl)
      have r1w36 := Ktw35.out.free 1
      have q2w36 := (Ktw35.out.cell 2).trans (show _ = some _ from rfl)
      have r2w36 := Ktw35.out.free 2
      have q3w36 := (Ktw35.out.cell 3).trans (show _ = some _ from rfl)
      have r3w36 := Ktw35.out.free 3
      have Ktw36 : Hid (Blk ((((w35.setCell ⟨bt, 0, none⟩ (.int .u32 (k + 1))).setCell ⟨bt, 1, none⟩ (.int .u64 a2)).setCell ⟨bt, 2, none⟩ (.int .i64 l2)).setCell ⟨bt, 3, none⟩ (.int .i64 n)) (bt) #[.int .u32 (k + 1), .int .u64 a2, .int .i64 l2, .int .i64 n] 142) := hid (Blk.setAll_self Ktw35.out [.int .u32 (k + 1), .int .u64 a2, .int .i64 l2, .int .i64 n] rfl)
      have HBw36 : Hid (Below w.heap.size w ((((w35.setCell ⟨bt, 0, none⟩ (.int .u32 (k + 1))).setCell ⟨bt, 1, none⟩ (.int .u64 a2)).setCell ⟨bt, 2, none⟩ (.int .i64 l2)).setCell ⟨bt, 3, none⟩ (.int .i64 n))) := hid (Below.setAll (by omega) [.int .u32 (k + 1), .int .u64 a2, .int .i64 l2, .int .i64 n] 0 _ HBw35.out)
      have hsw36 := HBw36.out.size
      go_wp2_with fail
      exact ⟨⟨k + 1, by omega, by first | rfl | simp, Kpw36.out, Kgw36.out, by rw [hdl]; exact Kmw36.out, by rw [ha2, ha1', hll1]; exact Ktw36.out, HBw36.out⟩, by simp [intOf]; omega⟩
    · obtain rfl : k = pn := by omega
      have hc0 : ¬ ((k : Int) < k) := by omega
      have hl := hP.length
      obtain ⟨X, hX⟩ : ∃ X, verK pub n p i ps M k = X := ⟨_, rfl⟩
      rw [hX] at HX Kmwr
      have q1 := fun W => eqD X root HX.out.len hroot.len W
      go_wp2_with (first
         | (refine wpList_load_blk rfl 23 _ rfl (bm) rfl _ 23 Kmwr.out _ Tryd.underlying23 rfl 32 size_digest HX.out.size ?_)
         | (refine wpList_load_mid rfl 23 _ rfl (w.heap.size) 2 rfl _ _ (pubC_root Kpwr.out) Tryd.underlying23 rfl (by rw [List.length_map, hroot.len]; exact size_digest) ?_))
      go_returns
      exact ⟨by first | (rw [hX]; rfl) | (rw [hl, hX]; rfl) | rfl, HBwr.out⟩
end Go.Proofs.YtjkfbeillmeomaaDoor
