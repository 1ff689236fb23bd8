/-
  Layer 20: a signature is read from bytes by the reference.
-/
import Derived.Test.YtkakoiaahgchmaaGP5
namespace Go.Proofs.Ytkakoiaahgchmaa
open Go.ChangeShapes Go.WideShapes Go.ChangeAt Go.RowKit

set_option maxHeartbeats 4000000 in
set_option maxRecDepth 100000 in
theorem refget_short (L V : Int) (a : Option Addr) (n c : Nat) (t : List Int) (w : World) (hr : rightS L V = true) (hT : TextAt w a n c t) (hl : ¬ (n : Int) = 40 + L * (2144 + V * 32)) :
    Calls Try.prog 13 #[.agg (shC L V), .slice a n c] w fun e w' => e = .returned (.tuple #[.agg zSig.toArray, .bool false]) ∧ Below w.heap.size w w' := by
  have b1 := (Below.refl w.heap.size w).alloc (Nat.le_refl _) (.cells (shC L V) 23 (0, 0))
  have b2 := b1.alloc b1.size (.cells zSig.toArray 28 (0, 0))
  have Ksh := hid ((Blk.new (w := w) (n := w.heap.size) rfl (shC L V) 23).old (.cells zSig.toArray 28 (0, 0)))
  have Kr := hid (Blk.new (w := (w.alloc (.cells (shC L V) 23 (0, 0)))) (n := w.heap.size + 1) (by simp only [World.size_alloc]) zSig.toArray 28)
  have Hb := hid b2
  have hbz := b2.size
  have Hbs := hid (show w.heap.size + 1 + 1 = ((w.alloc (.cells (shC L V) 23 (0, 0))).alloc (.cells zSig.toArray 28 (0, 0))).heap.size by simp only [World.size_alloc])
  clear b1 b2 
  have HT := hid hT
  have htl := hT.length
  obtain ⟨hL1, hL2, hV1, hV2⟩ : 1 ≤ L ∧ L ≤ 4 ∧ 1 ≤ V ∧ V ≤ 4 := by simpa [rightS] using hr
  clear hT
  obtain ⟨E, hE⟩ : ∃ E, E = 40 + L * (2144 + V * 32) := ⟨_, rfl⟩
  have hEb : 40 ≤ E ∧ E ≤ 100000 := by
    subst hE
    rcases (show L = 1 ∨ L = 2 ∨ L = 3 ∨ L = 4 by omega) with rfl | rfl | rfl | rfl <;> omega
  have hE2 : wrap64 (40 + wrap64 (L * (32 * (67 + V)))) = E := by
    subst hE
    have hp : 0 ≤ L * (32 * (67 + V)) ∧ L * (32 * (67 + V)) ≤ 20000 ∧ 40 + L * (2144 + V * 32) = 40 + L * (32 * (67 + V)) := by
      rcases (show L = 1 ∨ L = 2 ∨ L = 3 ∨ L = 4 by omega) with rfl | rfl | rfl | rfl <;> omega
    obtain ⟨p1, p2, p3⟩ := hp
    rw [p3]
    generalize L * (32 * (67 + V)) = p at *
    have hw : ∀ z : Int, -9223372036854775808 ≤ z ∧ z ≤ 9223372036854775807 → wrap64 z = z := fun z h => by unfold wrap64; omega
    rw [hw p (by omega), hw (40 + p) (by omega)]
  have d0 : ((w.alloc (.cells (shC L V) 23 (0, 0))).alloc (.cells zSig.toArray 28 (0, 0))).cell? ⟨w.heap.size, 0, none⟩ = some (.int .i64 L) := by rw [Ksh.out.cell]; rfl
  have d1 : ((w.alloc (.cells (shC L V) 23 (0, 0))).alloc (.cells zSig.toArray 28 (0, 0))).cell? ⟨w.heap.size, 1, none⟩ = some (.int .i64 V) := by rw [Ksh.out.cell]; rfl
  have s0 : (shC L V)[0]? = some (.int .i64 L) := rfl
  have s1 : (shC L V)[1]? = some (.int .i64 V) := rfl
  have hne : ((n : Int) != E) = true := by simp; omega
  have hne2 : ((n : Int) == E) = false := by simp; omega
  clear hE hEb
  go_enter Try.func13, Try.ntmps13
  go_wp2_with (
      with_reducible show wpList _ _ _ (⟨none, _, _, _, _, _⟩ :: _) _ _
      refine wpList_store_blk rfl 28 _ _ rfl (w.heap.size + 1) zSig.toArray rfl rfl _ 28 Kr.out 34 size_sig zSig_size zSig_size (sigC_ones _ _ _ rfl) ?_
      intro w9 hb9 hk9
      have HB9 := hid (hb9.below Hb.out Hb.out.size (Nat.le_succ _))
      have HK9 := hid hk9
      clear hb9 hk9)
  exact bodyPost_ret (v := .tuple #[.agg zSig.toArray, .bool false]) (results_blk_tmp Try.results13 _ (w.heap.size + 1) rfl _ rfl _ 28 HK9.out _ Try.underlying28 rfl 34 size_sig zSig_size) rfl ⟨rfl, HB9.out⟩
set_option maxHeartbeats 4000000 in
set_option maxRecDepth 100000 in
theorem refget_big (L V : Int) (a : Option Addr) (n c : Nat) (t : List Int) (w : World) (hr : rightS L V = true) (hT : TextAt w a n c t) (hl : (n : Int) = 40 + L * (2144 + V * 32)) (hlt : manyS L V ≤ gotI t) :
    Calls Try.prog 13 #[.agg (shC L V), .slice a n c] w fun e w' => e = .returned (.tuple #[.agg zSig.toArray, .bool false]) ∧ Below w.heap.size w w' := by
  have b1 := (Below.refl w.heap.size w).alloc (Nat.le_refl _) (.cells (shC L V) 23 (0, 0))
  have b2 := b1.alloc b1.size (.cells zSig.toArray 28 (0, 0))
  have Ksh := hid ((Blk.new (w := w) (n := w.heap.size) rfl (shC L V) 23).old (.cells zSig.toArray 28 (0, 0)))
  have Kr := hid (Blk.new (w := (w.alloc (.cells (shC L V) 23 (0, 0)))) (n := w.heap.size + 1) (by simp only [World.size_alloc]) zSig.toArray 28)
  have Hb := hid b2
  have hbz := b2.size
  have Hbs := hid (show w.heap.size + 1 + 1 = ((w.alloc (.cells (shC L V) 23 (0, 0))).alloc (.cells zSig.toArray 28 (0, 0))).heap.size by simp only [World.size_alloc])
  clear b1 b2 
  have HT := hid hT
  have htl := hT.length
  obtain ⟨hL1, hL2, hV1, hV2⟩ : 1 ≤ L ∧ L ≤ 4 ∧ 1 ≤ V ∧ V ≤ 4 := by simpa [rightS] using hr
  clear hT
  obtain ⟨E, hE⟩ : ∃ E, E = 40 + L * (2144 + V * 32) := ⟨_, rfl⟩
  have hEb : 40 ≤ E ∧ E ≤ 100000 := by
    subst hE
    rcases (show L = 1 ∨ L = 2 ∨ L = 3 ∨ L = 4 by omega) with rfl | rfl | rfl | rfl <;> omega
  have hE2 : wrap64 (40 + wrap64 (L * (32 * (67 + V)))) = E := by
    subst hE
    have hp : 0 ≤ L * (32 * (67 + V)) ∧ L * (32 * (67 + V)) ≤ 20000 ∧ 40 + L * (2144 + V * 32) = 40 + L * (32 * (67 + V)) := by
      rcases (show L = 1 ∨ L = 2 ∨ L = 3 ∨ L = 4 by omega) with rfl | rfl | rfl | rfl <;> omega
    obtain ⟨p1, p2, p3⟩ := hp
    rw [p3]
    generalize L * (32 * (67 + V)) = p at *
    have hw : ∀ z : Int, -9223372036854775808 ≤ z ∧ z ≤ 9223372036854775807 → wrap64 z = z := fun z h => by unfold wrap64; omega
    rw [hw p (by omega), hw (40 + p) (by omega)]
  have d0 : ((w.alloc (.cells (shC L V) 23 (0, 0))).alloc (.cells zSig.toArray 28 (0, 0))).cell? ⟨w.heap.size, 0, none⟩ = some (.int .i64 L) := by rw [Ksh.out.cell]; rfl
  have d1 : ((w.alloc (.cells (shC L V) 23 (0, 0))).alloc (.cells zSig.toArray 28 (0, 0))).cell? ⟨w.heap.size, 1, none⟩ = some (.int .i64 V) := by rw [Ksh.out.cell]; rfl
  have s0 : (shC L V)[0]? = some (.int .i64 L) := rfl
  have s1 : (shC L V)[1]? = some (.int .i64 V) := rfl
  have hnE : (n : Int) = E := by rw [hE]; exact hl
  have hn40 : 40 ≤ n := by omega
  have hne : ((n : Int) != E) = false := by simp; omega
  have hne2 : ((n : Int) == E) = true := by simp; omega
  obtain ⟨x, o, rfl, hx, hc⟩ := HT.out.at_ (by omega)
  have HSM := hid HT.out.small
  have HG := hid (gotI_in HSM.out)
  have HMM := hid (manyS_in hr)
  have HX := hid hx
  have HCM := hid (fun W : World => refmany_any L V W)
  have hcut8 := fun W : World => run_cut_h (P := Try.prog) Try.underlying31 size_byte_ (some ⟨x, o, none⟩) n c 8 W (by omega) (by have := HT.out.le; omega)
  have CO := hid (fun (W : World) (h : TextAt W (some ⟨x, o, none⟩) n c t) => show Calls Try.prog 27 #[.slice (some ⟨x, o, none⟩) 8 c] W (fun e w' => e = .returned (.int .u64 (gotI t)) ∧ W = w') from ref_of x o (t.take 8) 8 c W (by rw [List.length_take]; omega) (by omega) (fun y hy => HSM.out y (List.mem_of_mem_take hy)) (fun i hi => by
    obtain ⟨x', o', he, -, hc1⟩ := h.at_ (by omega)
    cases he
    rw [hc1 i (by omega)]
    simp [List.getD_eq_getElem?_getD, hi]))
  obtain ⟨M, hM⟩ : ∃ M, manyS L V = M := ⟨_, rfl⟩
  obtain ⟨G, hG⟩ : ∃ G, gotI t = G := ⟨_, rfl⟩
  rw [hM] at HCM HMM hlt
  rw [hG] at HG CO hlt
  have HGI := hid hG
  have hM0 := HMM.out.1
  have hM1 := HMM.out.2
  have hG0 := HG.out.1
  have hG1 := HG.out.2
  have hwM : IntKind.u64.wrap M = M := by show M % 18446744073709551616 = M; omega
  have hwM2 : M % 18446744073709551616 = M := by omega
  have HNE := hid hnE
  have HL := hid hl
  clear hE hEb hM hG hc hx hnE hl
  have hge : decide (M ≤ G) = true := by simp; omega
  have hge2 : M ≤ G := by omega
  go_enter Try.func13, Try.ntmps13
  go_wp2_with fail
  refine (CO.out _ (HT.out.below Hb.out)).mono ?_
  rintro e w2 ⟨rfl, hw2⟩
  subst hw2
  clear hcut8 hE2 hne hne2
  go_wp2_with (refine wpList_load_blk rfl 23 _ rfl (w.heap.size) rfl _ 23 Ksh.out _ Try.underlying23 rfl 2 size_shape rfl ?_)
  clear d0 d1
  refine (HCM.out _).mono ?_
  rintro e w1 ⟨rfl, bw1⟩
  have HBw1 := hid (Below.on Hb.out bw1)
  have hsw1 := HBw1.out.size
  have Kshw1 := hid (Ksh.out.below bw1)
  have Krw1 := hid (Kr.out.below bw1)
  clear bw1
  have d0 : w1.cell? ⟨w.heap.size, 0, none⟩ = some (.int .i64 L) := by rw [Kshw1.out.cell]; rfl
  have d1 : w1.cell? ⟨w.heap.size, 1, none⟩ = some (.int .i64 V) := by rw [Kshw1.out.cell]; rfl
  go_wp2_with (
      with_reducible show wpList _ _ _ (⟨none, _, _, _, _, _⟩ :: _) _ _
      refine wpList_store_blk rfl 28 _ _ rfl (w.heap.size + 1) zSig.toArray rfl rfl _ 28 Krw1.out 34 size_sig zSig_size zSig_size (sigC_ones _ _ _ rfl) ?_
      intro w9 hb9 hk9
      have HB9 := hid (hb9.below HBw1.out HBw1.out.size (Nat.le_succ _))
      have HK9 := hid hk9
      clear hb9 hk9)
  exact bodyPost_ret (v := .tuple #[.agg zSig.toArray, .bool false]) (results_blk_tmp Try.results13 _ (w.heap.size + 1) rfl _ rfl _ 28 HK9.out _ Try.underlying28 rfl 34 size_sig zSig_size) rfl ⟨rfl, HB9.out⟩
set_option maxHeartbeats 4000000 in
set_option maxRecDepth 100000 in
theorem refget_good (L V : Int) (a : Option Addr) (n c : Nat) (t : List Int) (w : World) (hr : rightS L V = true) (hT : TextAt w a n c t) (hl : (n : Int) = 40 + L * (2144 + V * 32)) (hlt : gotI t < manyS L V) :
    Calls Try.prog 13 #[.agg (shC L V), .slice a n c] w fun e w' => ∃ pa pn pc, e = .returned (.tuple #[.agg (sigC (gotI t) (gotR t) (.slice pa pn pc)).toArray, .bool true]) ∧ PartsAt w' pa pn pc (partsZ V.toNat (t.drop 40) L.toNat) ∧ Below w.heap.size w w' := by
  have b1 := (Below.refl w.heap.size w).alloc (Nat.le_refl _) (.cells (shC L V) 23 (0, 0))
  have b2 := b1.alloc b1.size (.cells zSig.toArray 28 (0, 0))
  have Ksh := hid ((Blk.new (w := w) (n := w.heap.size) rfl (shC L V) 23).old (.cells zSig.toArray 28 (0, 0)))
  have Kr := hid (Blk.new (w := (w.alloc (.cells (shC L V) 23 (0, 0)))) (n := w.heap.size + 1) (by simp only [World.size_alloc]) zSig.toArray 28)
  have Hb := hid b2
  have hbz := b2.size
  have Hbs := hid (show w.heap.size + 1 + 1 = ((w.alloc (.cells (shC L V) 23 (0, 0))).alloc (.cells zSig.toArray 28 (0, 0))).heap.size by simp only [World.size_alloc])
  clear b1 b2 
  have HT := hid hT
  have htl := hT.length
  obtain ⟨hL1, hL2, hV1, hV2⟩ : 1 ≤ L ∧ L ≤ 4 ∧ 1 ≤ V ∧ V ≤ 4 := by simpa [rightS] using hr
  clear hT
  obtain ⟨E, hE⟩ : ∃ E, E = 40 + L * (2144 + V * 32) := ⟨_, rfl⟩
  have hEb : 40 ≤ E ∧ E ≤ 100000 := by
    subst hE
    rcases (show L = 1 ∨ L = 2 ∨ L = 3 ∨ L = 4 by omega) with rfl | rfl | rfl | rfl <;> omega
  have hE2 : wrap64 (40 + wrap64 (L * (32 * (67 + V)))) = E := by
    subst hE
    have hp : 0 ≤ L * (32 * (67 + V)) ∧ L * (32 * (67 + V)) ≤ 20000 ∧ 40 + L * (2144 + V * 32) = 40 + L * (32 * (67 + V)) := by
      rcases (show L = 1 ∨ L = 2 ∨ L = 3 ∨ L = 4 by omega) with rfl | rfl | rfl | rfl <;> omega
    obtain ⟨p1, p2, p3⟩ := hp
    rw [p3]
    generalize L * (32 * (67 + V)) = p at *
    have hw : ∀ z : Int, -9223372036854775808 ≤ z ∧ z ≤ 9223372036854775807 → wrap64 z = z := fun z h => by unfold wrap64; omega
    rw [hw p (by omega), hw (40 + p) (by omega)]
  have d0 : ((w.alloc (.cells (shC L V) 23 (0, 0))).alloc (.cells zSig.toArray 28 (0, 0))).cell? ⟨w.heap.size, 0, none⟩ = some (.int .i64 L) := by rw [Ksh.out.cell]; rfl
  have d1 : ((w.alloc (.cells (shC L V) 23 (0, 0))).alloc (.cells zSig.toArray 28 (0, 0))).cell? ⟨w.heap.size, 1, none⟩ = some (.int .i64 V) := by rw [Ksh.out.cell]; rfl
  have s0 : (shC L V)[0]? = some (.int .i64 L) := rfl
  have s1 : (shC L V)[1]? = some (.int .i64 V) := rfl
  have hnE : (n : Int) = E := by rw [hE]; exact hl
  have hn40 : 40 ≤ n := by omega
  have hne : ((n : Int) != E) = false := by simp; omega
  have hne2 : ((n : Int) == E) = true := by simp; omega
  obtain ⟨x, o, rfl, hx, hc⟩ := HT.out.at_ (by omega)
  have HSM := hid HT.out.small
  have HG := hid (gotI_in HSM.out)
  have HMM := hid (manyS_in hr)
  have HX := hid hx
  have HCM := hid (fun W : World => refmany_any L V W)
  have hcut8 := fun W : World => run_cut_h (P := Try.prog) Try.underlying31 size_byte_ (some ⟨x, o, none⟩) n c 8 W (by omega) (by have := HT.out.le; omega)
  have CO := hid (fun (W : World) (h : TextAt W (some ⟨x, o, none⟩) n c t) => show Calls Try.prog 27 #[.slice (some ⟨x, o, none⟩) 8 c] W (fun e w' => e = .returned (.int .u64 (gotI t)) ∧ W = w') from ref_of x o (t.take 8) 8 c W (by rw [List.length_take]; omega) (by omega) (fun y hy => HSM.out y (List.mem_of_mem_take hy)) (fun i hi => by
    obtain ⟨x', o', he, -, hc1⟩ := h.at_ (by omega)
    cases he
    rw [hc1 i (by omega)]
    simp [List.getD_eq_getElem?_getD, hi]))
  obtain ⟨M, hM⟩ : ∃ M, manyS L V = M := ⟨_, rfl⟩
  obtain ⟨G, hG⟩ : ∃ G, gotI t = G := ⟨_, rfl⟩
  rw [hM] at HCM HMM hlt
  rw [hG] at HG CO hlt
  have HGI := hid hG
  have hM0 := HMM.out.1
  have hM1 := HMM.out.2
  have hG0 := HG.out.1
  have hG1 := HG.out.2
  have hwM : IntKind.u64.wrap M = M := by show M % 18446744073709551616 = M; omega
  have hwM2 : M % 18446744073709551616 = M := by omega
  have HNE := hid hnE
  have HL := hid hl
  clear hE hEb hM hG hc hx hnE hl
  have hge : decide (M ≤ G) = false := by simp; omega
  have hge2 : ¬ M ≤ G := by omega
  have hwG : wrap64 G = G := by unfold wrap64; omega
  obtain ⟨LN, rfl⟩ := Int.eq_ofNat_of_zero_le (show 0 ≤ L by omega)
  obtain ⟨VN, rfl⟩ := Int.eq_ofNat_of_zero_le (show 0 ≤ V by omega)
  simp only [Int.toNat_natCast]
  go_enter Try.func13, Try.ntmps13
  go_wp2_with fail
  refine (CO.out _ (HT.out.below Hb.out)).mono ?_
  rintro e w2 ⟨rfl, hw2⟩
  subst hw2
  clear hcut8 hE2 hne hne2
  go_wp2_with (refine wpList_load_blk rfl 23 _ rfl (w.heap.size) rfl _ 23 Ksh.out _ Try.underlying23 rfl 2 size_shape rfl ?_)
  clear d0 d1
  refine (HCM.out _).mono ?_
  rintro e w1 ⟨rfl, bw1⟩
  have HBw1 := hid (Below.on Hb.out bw1)
  have hsw1 := HBw1.out.size
  have Kshw1 := hid (Ksh.out.below bw1)
  have Krw1 := hid (Kr.out.below bw1)
  clear bw1
  have d0 : w1.cell? ⟨w.heap.size, 0, none⟩ = some (.int .i64 LN) := by rw [Kshw1.out.cell]; rfl
  have d1 : w1.cell? ⟨w.heap.size, 1, none⟩ = some (.int .i64 VN) := by rw [Kshw1.out.cell]; rfl
  go_wp2_with fail
  have HRD := hid (gotR_dg (t := t) (by omega) HSM.out)
  have hn1e5 : n ≤ 100000 := by
    have h := HL.out
    rcases (show LN = 1 ∨ LN = 2 ∨ LN = 3 ∨ LN = 4 by omega) with h1 | h1 | h1 | h1 <;> rw [h1] at h <;> omega
  have hxl := HX.out
  have CRW := hid (fun (W : World) (h : TextAt W (some ⟨x, o, none⟩) n c t) (hw : w.heap.size ≤ W.heap.size) (p m : Nat) (hm : m ≤ 1000) (hl : p + 32 * m ≤ n) => refrows_any x o n c t p m W h (by omega) hm hl (by omega))
  refine (CRW.out _ (HT.out.below HBw1.out) HBw1.out.size 8 1 (by omega) (by omega)).mono ?_
  rintro e w3 ⟨v3, rfl, o3, b3⟩
  rw [show rowsZ (t.drop 8) 1 = [gotR t] by simp [rowsZ, gotR]] at o3
  obtain ⟨a3, c3, rfl, hd3, -⟩ := o3.digs
  have hd3 : DigsAt w3 a3 1 c3 [gotR t] := hd3
  obtain ⟨g3, o3', rfl, hg3, hr3⟩ := hd3.at_ (by omega)
  have HRG := hid (by have h := hr3 0 (by omega); simpa using h)
  have HB3 := hid (Below.on HBw1.out b3)
  have Kshw3 := hid (Kshw1.out.below b3)
  have Krw3 := hid (Krw1.out.below b3)
  have hlsh := Kshw3.out.lt
  have hlr := Krw3.out.lt
  clear b3 hd3 hr3 o3 d0 d1
  go_wp2_with (first
     | (refine wpList_index_digs rfl 44 _ _ rfl Try.underlying44 size_digest g3 o3' 1 c3 rfl _ _ rfl 0 rfl (by omega) ?_)
     | (refine wpList_load_mid rfl 25 _ rfl g3 (o3' + 0 * 32) rfl _ _ (by simpa using HRG.out) Try.underlying25 rfl (by rw [List.length_map, HRD.out.len]; exact size_digest) ?_)
     | (refine wpList_buildv rfl 28 _ rfl [(0, .int .i64 G), (1, .agg ((gotR t).map (Value.int .u8)).toArray)] rfl _ (build_sig2 G (gotR t) HRD.out) ?_)
     | (
        refine wpList_store_blk rfl 28 _ _ rfl (w3.heap.size) (sigC G (gotR t) (.slice none 0 0)).toArray rfl rfl _ 28 (Blk.new rfl zSig.toArray _) 34 size_sig zSig_size (sigC_size HRD.out) (sigC_ones _ _ _ rfl) ?_
        intro w31 hbw31 hkw31
        have hw31 := hbw31.below ((Below.refl w3.heap.size w3).alloc (Nat.le_refl _) _) (by simp only [World.size_alloc]; omega) (Nat.le_refl _)
        have HBw31 := hid (Below.on HB3.out hw31)
        have hsw31 := HBw31.out.size
        have Kshw31 := hid (Kshw3.out.below hw31)
        have hlshw31 := Kshw3.out.lt
        have Krw31 := hid (Krw3.out.below hw31)
        have hlrw31 := Krw3.out.lt
        have Ksw31 := hid hkw31
        have hfw31 : w.heap.size ≤ w3.heap.size := HB3.out.size
        have d0s : w31.cell? ⟨w.heap.size, 0, none⟩ = some (.int .i64 LN) := by rw [Kshw31.out.cell]; rfl
        have hbsw31 := hkw31.lt
        clear hbw31 hkw31 hw31))
  obtain ⟨bs, hbs⟩ : ∃ b, b = w3.heap.size := ⟨_, rfl⟩
  rw [← hbs] at Ksw31 hbsw31 ⊢
  obtain ⟨B, hB⟩ : ∃ B, B = w31.heap.size := ⟨_, rfl⟩
  have hbs1 : w.heap.size + 1 < bs := by omega
  have hbs2 : bs < B := by omega
  obtain ⟨EA, hEA⟩ : ∃ EA, EA = 2144 + VN * 32 := ⟨_, rfl⟩
  have hnEA : n = 40 + LN * EA := by
    have h := HL.out
    subst hEA
    rw [show ((40 : Int) + (LN : Int) * (2144 + (VN : Int) * 32)) = ((40 + LN * (2144 + VN * 32) : Nat) : Int) by simp] at h
    exact Int.ofNat.inj h
  have hmul : ∀ k, k < LN → k * EA + EA ≤ LN * EA := fun k hk => by
    have := Nat.mul_le_mul_right EA (show k + 1 ≤ LN from hk)
    rwa [Nat.succ_mul] at this
  have HPZ := hid (fun k => show partsZ VN (t.drop 40) (k + 1) = partsZ VN (t.drop 40) k ++ [(rowsZ ((t.drop 40).drop (k * EA)) 67, rowsZ ((t.drop 40).drop (k * EA + 2144)) VN)] by rw [hEA]; rfl)
  have HAT := hid (fun k (hk : k < LN) => show wrap64 (40 + wrap64 ((k : Int) * (32 * (67 + (VN : Int))))) = ((40 + k * EA : Nat) : Int) by
    have h1 := hmul k hk
    rw [show ((k : Int) * (32 * (67 + (VN : Int)))) = ((k * EA : Nat) : Int) by rw [hEA, show (32 * (67 + (VN : Int))) = ((2144 + VN * 32 : Nat) : Int) by omega]; rfl]
    generalize k * EA = q at *
    have hw : ∀ z : Int, -9223372036854775808 ≤ z ∧ z ≤ 9223372036854775807 → wrap64 z = z := fun z h => by unfold wrap64; omega
    rw [hw q (by omega), hw (40 + (q : Int)) (by omega)]
    omega)
  have HNEA := hid hnEA
  have HMUL := hid hmul
  have HEA := hid hEA
  have hBw := Nat.le_of_eq hB
  clear hB hbs hnEA hmul hEA
  go_loopw [9] (fun iv wr => ∃ (k : Nat) (pv : Value), k ≤ LN ∧ iv = .int .i64 k ∧ Blk wr w.heap.size (shC LN VN) 23 ∧ Blk wr (w.heap.size + 1) zSig.toArray 28 ∧ Blk wr bs (sigC G (gotR t) pv).toArray 28 ∧ OwnQ wr B pv (partsZ VN (t.drop 40) k) ∧ B ≤ wr.heap.size ∧ Below w.heap.size w wr) (fun iv _ => LN - (intOf iv).toNat)
  case atStart => exact ⟨0, .slice none 0 0, Nat.zero_le _, rfl, Kshw31.out, Krw31.out, Ksw31.out, OwnQ.nil _ _, hBw, HBw31.out⟩
  case round =>
    obtain ⟨k, pv, hk, rfl, ksh, kr, ks, ho, hsz, bel⟩ := hrel
    have Kshwr := hid ksh
    have Krwr := hid kr
    have Kswr := hid ks
    have HO := hid ho
    have HBwr := hid bel
    have hswr := bel.size
    have d0r : wr.cell? ⟨w.heap.size, 0, none⟩ = some (.int .i64 LN) := by rw [ksh.cell]; rfl
    clear ksh kr ks ho bel
    by_cases hlt : k < LN
    · have hc0 : (k : Int) < LN := by omega
      have HM := hid (HMUL.out k hlt)
      have HPK := hid (HPZ.out k)
      have hat := HAT.out k hlt
      have hHM := HM.out
      have hNE := HNEA.out
      have hEE := HEA.out
      rw [List.drop_drop, List.drop_drop, ← Nat.add_assoc] at HPK
      obtain ⟨P, hP⟩ : ∃ P, P = 40 + k * EA := ⟨_, rfl⟩
      rw [← hP] at HPK hat
      have hPn : P + 2144 + VN * 32 ≤ n := by omega
      clear hP hHM hNE hEE
      go_wp2_with fail
      refine wp_region_flow 13 [0, 1, 2, 3, 5, 6, 7, 8, 9] [] [(.c 4, [], []), (.c 10, [11], [12]), (.b 12, [], [])] (by kernel_rfl) (by kernel_rfl) ?_
      apply Exists.intro
      refine ⟨fun w0 hb0 hF0 => ?_, ?_⟩
      · skip
        have y0 : ∀ w', (∃ x : Ext w0, w' = x.at_) → w'.cell? ⟨bs, 33, none⟩ = some pv := fun w' ⟨x, hx⟩ => hx ▸ sigC_parts HRD.out ((Kswr.out.below hb0).below x.same)
        have y1 : ∀ w', (∃ x : Ext w0, w' = x.at_) → w'.cell? ⟨w.heap.size, 1, none⟩ = some (.int .i64 VN) := fun w' ⟨x, hx⟩ => by rw [hx, ((Kshwr.out.below hb0).below x.same).cell]; rfl
        simp only [pick, List.getElem?_toArray, List.getElem?_cons_succ, List.getElem?_cons_zero, Option.toList_some, List.cons_append, List.nil_append]
        repeat (first | (go_big_quiet_want; refine quiet_load_one 26 _ rfl ⟨bs, 33, none⟩ rfl _ y0 _ Try.underlying26 rfl ?_; go_big_quiet_on; simp only [Act.put, List.setIfInBounds_toArray, List.set_cons_zero, List.set_cons_succ]) | (go_big_quiet_want; refine quiet_load_one 3 _ rfl ⟨w.heap.size, 1, none⟩ rfl _ y1 _ Try.underlying3 rfl ?_; go_big_quiet_on; simp only [Act.put, List.setIfInBounds_toArray, List.set_cons_zero, List.set_cons_succ]) | go_big_quiet_step (fail))
        exact wpQuiet_nil rfl
      refine AlChk.nil ?_
      refine Walk.call rfl 28 #[.slice (some ⟨x, o, none⟩) n c, .int .i64 P, .int .i64 67] (fun v w' => OwnD w' B 25 v (rowsZ (t.drop (P)) 67) ∧ ∃ a c, v = .slice a 67 c) (fun v w' w'' h k => ⟨h.1.below k, h.2⟩) rfl (fun w1 hb1 hF1 => ⟨by go_simp, ?_⟩) ?_
      · skip
        have h := CRW.out w1 (HT.out.below (Below.on HBwr.out hb1)) (Nat.le_trans hswr hb1.size) (P) 67 (by omega) (by omega)
        refine h.mono ?_
        rintro e w5 ⟨v', rfl, o', b'⟩
        obtain ⟨a', c', rfl, -, -⟩ := o'.digs
        have o'' := o'.re (Nat.le_trans hsz hb1.size)
        rw [rowsZ_length] at o'' ⊢
        exact ⟨_, rfl, b', o'', _, _, rfl⟩
      rintro v4 w1 hb1 hF1 ⟨-, a4, c4, rfl⟩
      apply Exists.intro
      refine ⟨fun w3 hb3 hF3 => wpQuiet_nil rfl, ?_⟩
      refine AlChk.nil ?_
      refine Walk.call rfl 28 #[.slice (some ⟨x, o, none⟩) n c, .int .i64 ((P : Int) + 2144), .int .i64 VN] (fun v w' => OwnD w' B 25 v (rowsZ (t.drop (P + 2144)) VN) ∧ ∃ a c, v = .slice a VN c) (fun v w' w'' h k => ⟨h.1.below k, h.2⟩) rfl (fun w1 hb1 hF1 => ⟨by go_simp, ?_⟩) ?_
      · skip
        have h := CRW.out w1 (HT.out.below (Below.on HBwr.out hb1)) (Nat.le_trans hswr hb1.size) (P + 2144) VN (by omega) (by omega)
        rw [show ((P + 2144 : Nat) : Int) = (P : Int) + 2144 by omega] at h
        refine h.mono ?_
        rintro e w5 ⟨v', rfl, o', b'⟩
        obtain ⟨a', c', rfl, -, -⟩ := o'.digs
        have o'' := o'.re (Nat.le_trans hsz hb1.size)
        rw [rowsZ_length] at o'' ⊢
        exact ⟨_, rfl, b', o'', _, _, rfl⟩
      rintro v5 w1 hb1 hF1 ⟨-, a5, c5, rfl⟩
      apply Exists.intro
      refine ⟨fun w3 hb3 hF3 => ?_, ?_⟩
      · skip
        simp only [pick, List.getElem?_toArray, List.getElem?_cons_succ, List.getElem?_cons_zero, Option.toList_some, List.cons_append, List.nil_append, Act.put, List.setIfInBounds_toArray, List.set_cons_zero, List.set_cons_succ]
        repeat (first | go_big_quiet_step (fail))
        exact wpQuiet_nil rfl
      refine AlChk.one rfl (fun b => .slice (some ⟨b, 0, none⟩) 1 1) (.cells #[.slice a4 67 c4, .slice a5 VN c5] 46 (0, 0)) rfl (fun w3 hb3 hF3 => exec_build_part rfl rfl) ?_
      refine AlChk.nil ?_
      refine Walk.blk rfl (fun b => .slice (some ⟨b, 0, none⟩) 1 1) (.cells #[.slice a4 67 c4, .slice a5 VN c5] 46 (0, 0)) (by simp) ?_
      intro b6 w6 hb6 hF6 hge6 hbk6
      apply Exists.intro
      refine ⟨fun w7 hb7 hF7 => wpQuiet_nil rfl, ?_⟩
      refine AlChk.nil ?_
      refine Walk.fin fun w9 h9 hF9 _ => ?_
      simp only [List.drop_succ_cons, List.drop_zero]
      have Kq9 := hid (show Blk w9 b6 #[.slice a4 67 c4, .slice a5 VN c5] 46 from hF9.2)
      have HR9 := hid hF9.1.1.2.1
      have HS9 := hid hF9.1.2.1
      have HB9 := hid (Below.on HBwr.out h9)
      have Ksh9 := hid (Kshwr.out.below h9)
      have Kr9 := hid (Krwr.out.below h9)
      have Ks9 := hid (Kswr.out.below h9)
      have HO9 := hid (HO.out.below h9)
      have hsz9 := Nat.le_trans hsz h9.size
      have hss9 := Ks9.out.lt
      have hsh9 := Ksh9.out.lt
      clear hF9 h9 hbk6
      obtain ⟨iP, zP, hi, hz0, hzs, hz1, hz2⟩ := info_part
      have hpl := partsZ_length VN (t.drop 40) k
      refine wpList_append_partq rfl _ _ rfl Try.underlying26 hi hz0 hzs hz1 hz2 rfl HO9.out rfl Kq9.out (p := (rowsZ (t.drop P) 67, rowsZ (t.drop (P + 2144)) VN)) HR9.out HS9.out (by omega) hsz9 ?_
      intro v8 w8 ho8 hg8 hb8
      rw [← HPK.out] at ho8
      obtain ⟨pa8, pn8, pc8, hv8⟩ := ho8.slice
      subst hv8
      have HO8 := hid ho8
      have HB8 := hid (Below.trans HB9.out (hb8.mono (by omega)))
      have Ksh8 := hid (Ksh9.out.low (by omega) hb8)
      have Kr8 := hid (Kr9.out.low (by omega) hb8)
      have Ks8 := hid (Ks9.out.low (by omega) hb8)
      have hsz8 := Nat.le_trans hsz9 hb8.size
      clear ho8 hg8 hb8 hi hz0 hzs hz1 hz2 hpl hat
      go_wp2_with (
        refine wpList_store_cell rfl 26 _ _ rfl bs 33 (.slice pa8 pn8 pc8) rfl rfl rfl rfl _ 28 Ks8.out (by rw [sigC_size HRD.out]; omega) size_ldp ?_
        intro w10 hb10 hk10
        rw [sigC_set HRD.out] at hk10
        have HB10 := hid (hb10.below HB8.out HB8.out.size (by omega))
        have Ksh10 := hid (hb10.blk Ksh8.out (by omega))
        have Kr10 := hid (hb10.blk Kr8.out (by omega))
        have Ks10 := hid hk10
        have HO10 := hid (HO8.out.but (by omega) hb10)
        have hsz10 := Nat.le_trans hsz8 hb10.size
        clear hb10 hk10)
      exact ⟨⟨k + 1, .slice pa8 pn8 pc8, by omega, by first | rfl | simp, Ksh10.out, Kr10.out, Ks10.out, HO10.out, hsz10, HB10.out⟩, by simp [intOf]; omega⟩
    · have hkn : k = LN := by omega
      have hc0 : ¬ (k : Int) < LN := by omega
      rw [hkn] at HO
      obtain ⟨pa9, pn9, pc9, hpv⟩ := HO.out.slice
      subst hpv
      go_wp2_with (first
       | (with_reducible show wpList _ _ _ (⟨some 65, _, _, _, _, _⟩ :: _) _ _; refine wpList_load_blk rfl 28 _ rfl bs rfl _ 28 Kswr.out _ Try.underlying28 rfl 34 size_sig (sigC_size HRD.out) ?_)
       | (
          with_reducible show wpList _ _ _ (⟨none, _, _, _, _, _⟩ :: _) _ _
          refine wpList_store_blk rfl 28 _ _ rfl (w.heap.size + 1) (sigC G (gotR t) (.slice pa9 pn9 pc9)).toArray rfl rfl _ 28 Krwr.out 34 size_sig zSig_size (sigC_size HRD.out) (sigC_ones _ _ _ rfl) ?_
          intro w9 hb9 hk9
          have HB9 := hid (hb9.below HBwr.out HBwr.out.size (Nat.le_succ _))
          have HK9 := hid hk9
          have HO9 := hid (HO.out.but (by omega) hb9)
          clear hb9 hk9))
      obtain ⟨pa, pc, hpe, hpt⟩ := HO9.out.parts
      cases hpe
      exact bodyPost_ret (v := .tuple #[.agg (sigC G (gotR t) (.slice pa9 (partsZ VN (t.drop 40) LN).length pc9)).toArray, .bool true]) (results_blk_tmp Try.results13 _ (w.heap.size + 1) rfl _ rfl _ 28 HK9.out _ Try.underlying28 rfl 34 size_sig (sigC_size HRD.out)) rfl ⟨_, _, _, by rw [HGI.out], hpt, HB9.out⟩
end Go.Proofs.Ytkakoiaahgchmaa
