/-
  Layer 20: WireGets.
-/
import Derived.Test.YtkakoiaahgchmaaGP8
namespace Go.Proofs.Ytkakoiaahgchmaa
open Go.ChangeShapes Go.WideShapes Go.ChangeAt Go.RowKit

set_option maxRecDepth 100000 in
/-- A shape, as it comes in. -/
theorem open_shape {H : Type} {enc : TypeId × Value → H} {W : World} {base : Nat} {v : Value} {d : DataW H} {p : List MemPlace} (hv : Value.okWide Try.prog W .any base 23 v) (h : DataW.Trod enc Try.prog W 0 (fun _ => true) true 23 v d p) :
    ∃ L V : Int, v = .agg (shC L V) ∧ (Lit.int .i64 L).wf = true ∧ (Lit.int .i64 V).wf = true := by
  obtain ⟨f0, f1, hu, t0, t1, o0, o1⟩ : ∃ f0 f1 : Field, Try.prog.underlying 23 = some (.struct #[f0, f1]) ∧ f0.type = 3 ∧ f1.type = 3 ∧ f0.offset = 0 ∧ f1.offset = 1 := ⟨_, _, Try.underlying23, rfl, rfl, rfl, rfl⟩
  have c1 : Try.prog.cellsOf 3 = 1 := by kernel_rfl
  have c2 : Try.prog.cellsOf 23 = 2 := by kernel_rfl
  unfold Value.okWide at hv
  rw [hu] at hv
  obtain ⟨cs, rfl, hsz, _⟩ := hv
  obtain ⟨fuel, hf⟩ := h
  have hf : DataW.trod enc Try.prog W 0 (fun _ => true) true fuel 23 cs.toList = some (d, p) := hf
  obtain ⟨y0, y1, n, _, hl, q0, q1⟩ := trod_struct2 hu hf
  rw [t0, o0, c1] at q0
  rw [t1, o1, c1] at q1
  rw [c2] at hl
  obtain ⟨a, ha⟩ : ∃ a b, cs.toList = [a, b] := by
    match cs.toList, hl with
    | [a, b], _ => exact ⟨a, b, rfl⟩
  obtain ⟨b, hab⟩ := ha
  rw [hab] at q0 q1
  obtain ⟨x, e0, _, w0⟩ := DataW.trod_int Try.underlying3 q0
  obtain ⟨y, e1, _, w1⟩ := DataW.trod_int Try.underlying3 q1
  simp at e0 e1
  refine ⟨x, y, ?_, w0, w1⟩
  refine congrArg Value.agg ?_
  apply Array.ext'
  rw [hab, e0, e1]
  rfl
theorem build_sig0 (w : World) : (Instr.build 28 #[]).run Try.prog w = .ok (.agg zSig.toArray) w := by
  refine run_build w _ _ _ ?_
  obtain ⟨i0, hi, hz0⟩ := Option.map_eq_some_iff.1 (show (Try.prog.info? 28).map (·.zero) = some (some (.agg zSig.toArray)) by kernel_rfl)
  obtain ⟨fields, hu, hq⟩ : ∃ fields, Try.prog.underlying 28 = some (.struct fields) ∧ fields.toList.mapM (fun f => (Try.prog.info? f.type).map fun i => (f.offset, i.size)) = some [(0, 1), (1, 32), (33, 1)] := ⟨_, Try.underlying28, by kernel_rfl⟩
  have hz : (Value.agg zSig.toArray).cells = zSig.toArray := rfl
  unfold Program.built
  simp only [hi, hu, hz0, hq, hz]
  rw [Instr.fill]
theorem samezero (w : World) : Calls Try.prog 12 #[.agg zSig.toArray, .agg zSig.toArray] w fun e w' => e = .returned (.bool true) ∧ Below w.heap.size w w' := sigsame_any 0 zD none 0 0 none 0 [] w Dg.zero (PartsAt.nil w) (PartsAt.nil w)
set_option maxHeartbeats 4000000 in
set_option maxRecDepth 100000 in
theorem gets_long (L V : Int) (a : Option Addr) (n c : Nat) (t : List Int) (w : World) (_hT : TextAt w a n c t) (hn : 12000 < n) :
    Calls Try.prog 4 #[.agg (shC L V), .slice a n c] w fun e w' => e = .returned (.bool true) ∧ Below w.heap.size w w' := by
  have b1 := (Below.refl w.heap.size w).alloc (Nat.le_refl _) (.cells (shC L V) 23 (0, 0))
  have Ksh := hid (Blk.new (w := w) (n := w.heap.size) rfl (shC L V) 23)
  have Hb := hid b1
  have hbz := b1.size
  have Hbs := hid (show w.heap.size + 1 = (w.alloc (.cells (shC L V) 23 (0, 0))).heap.size by simp only [World.size_alloc])
  clear b1 
  have hc : (12000 : Int) < (n : Int) := by omega
  go_enter Try.func4, Try.ntmps4
  go_wp2_with fail
  refine (knows20 _).mono ?_
  rintro e w21 ⟨rfl, bw21⟩
  have HBw21 := hid (Below.on Hb.out bw21)
  have hsw21 := HBw21.out.size
  have Kshw21 := hid (Ksh.out.below bw21)
  clear bw21
  go_wp2_with fail
  go_returns
  exact ⟨by first | rfl | simp, HBw21.out⟩
set_option maxHeartbeats 4000000 in
set_option maxRecDepth 100000 in
theorem gets_wrong (L V : Int) (a : Option Addr) (n c : Nat) (t : List Int) (w : World) (_hT : TextAt w a n c t) (hn : n ≤ 12000) (hrt : rightS L V = false) :
    Calls Try.prog 4 #[.agg (shC L V), .slice a n c] w fun e w' => e = .returned (.bool true) ∧ Below w.heap.size w w' := by
  have b1 := (Below.refl w.heap.size w).alloc (Nat.le_refl _) (.cells (shC L V) 23 (0, 0))
  have Ksh := hid (Blk.new (w := w) (n := w.heap.size) rfl (shC L V) 23)
  have Hb := hid b1
  have hbz := b1.size
  have Hbs := hid (show w.heap.size + 1 = (w.alloc (.cells (shC L V) 23 (0, 0))).heap.size by simp only [World.size_alloc])
  clear b1 
  have hc : ¬ (12000 : Int) < (n : Int) := by omega
  go_enter Try.func4, Try.ntmps4
  go_wp2_with (refine wpList_load_blk rfl 23 _ rfl (w.heap.size) rfl _ 23 Ksh.out _ Try.underlying23 rfl 2 size_shape rfl ?_)
  refine (get_arg L V _ _ hrt).mono ?_
  rintro e w21 ⟨rfl, bw21⟩
  have HBw21 := hid (Below.on Hb.out bw21)
  have hsw21 := HBw21.out.size
  have Kshw21 := hid (Ksh.out.below bw21)
  clear bw21
  go_wp2_with (first
     | (
        refine wpList_store_blk rfl 28 _ _ rfl (w21.heap.size) zSig.toArray rfl rfl _ 28 (Blk.new rfl zSig.toArray _) 34 size_sig zSig_size zSig_size (sigC_ones _ _ _ rfl) ?_
        intro w22 hbw22 hkw22
        have hw22 := hbw22.below ((Below.refl w21.heap.size w21).alloc (Nat.le_refl _) _) (by simp only [World.size_alloc]; omega) (Nat.le_refl _)
        have HBw22 := hid (Below.on HBw21.out hw22)
        have hsw22 := HBw22.out.size
        have Kshw22 := hid (Kshw21.out.below hw22)
        have hlshw22 := Kshw21.out.lt
        have Ksw22 := hid hkw22
        have hfw22 : w.heap.size ≤ w21.heap.size := HBw21.out.size
        clear hbw22 hkw22 hw22)
     | (refine wpList_load_blk rfl 23 _ rfl (w.heap.size) rfl _ 23 Kshw22.out _ Try.underlying23 rfl 2 size_shape rfl ?_))
  refine (refright_b L V false hrt _).mono ?_
  rintro e w23 ⟨rfl, bw23⟩
  have HBw23 := hid (Below.on HBw22.out bw23)
  have hsw23 := HBw23.out.size
  have Kshw23 := hid (Kshw22.out.below bw23)
  have Ksw23 := hid (Ksw22.out.below bw23)
  clear bw23
  go_wp2_with (first
     | (refine wpList_load_blk rfl 28 _ rfl (w21.heap.size) rfl _ 28 Ksw23.out _ Try.underlying28 rfl 34 size_sig zSig_size ?_)
     | (with_reducible show wpList _ _ _ (⟨some 25, _, _, _, _, _⟩ :: _) _ _; refine wpList_buildv rfl 28 [] rfl [] rfl _ build_sig0 ?_))
  refine (samezero _).mono ?_
  rintro e w24 ⟨rfl, bw24⟩
  have HBw24 := hid (Below.on HBw23.out bw24)
  have hsw24 := HBw24.out.size
  have Kshw24 := hid (Kshw23.out.below bw24)
  have Ksw24 := hid (Ksw23.out.below bw24)
  clear bw24
  go_wp2_with fail
  refine (knows20 _).mono ?_
  rintro e w25 ⟨rfl, bw25⟩
  have HBw25 := hid (Below.on HBw24.out bw25)
  have hsw25 := HBw25.out.size
  have Kshw25 := hid (Kshw24.out.below bw25)
  have Ksw25 := hid (Ksw24.out.below bw25)
  clear bw25
  go_wp2_with fail
  go_returns
  exact ⟨by first | rfl | simp, HBw25.out⟩
set_option maxHeartbeats 4000000 in
set_option maxRecDepth 100000 in
theorem gets_short (L V : Int) (a : Option Addr) (n c : Nat) (t : List Int) (w : World) (hT : TextAt w a n c t) (hn : n ≤ 12000) (hrt : rightS L V = true) (hl : ¬ (n : Int) = 40 + L * (2144 + V * 32)) :
    Calls Try.prog 4 #[.agg (shC L V), .slice a n c] w fun e w' => e = .returned (.bool true) ∧ Below w.heap.size w w' := by
  have b1 := (Below.refl w.heap.size w).alloc (Nat.le_refl _) (.cells (shC L V) 23 (0, 0))
  have Ksh := hid (Blk.new (w := w) (n := w.heap.size) rfl (shC L V) 23)
  have Hb := hid b1
  have hbz := b1.size
  have Hbs := hid (show w.heap.size + 1 = (w.alloc (.cells (shC L V) 23 (0, 0))).heap.size by simp only [World.size_alloc])
  clear b1 
  have hc : ¬ (12000 : Int) < (n : Int) := by omega
  have HT := hid hT
  clear hT
  go_enter Try.func4, Try.ntmps4
  go_wp2_with (refine wpList_load_blk rfl 23 _ rfl (w.heap.size) rfl _ 23 Ksh.out _ Try.underlying23 rfl 2 size_shape rfl ?_)
  refine (get_short L V a n c t _ hrt (HT.out.below Hb.out) hl).mono ?_
  rintro e w21 ⟨rfl, bw21⟩
  have HBw21 := hid (Below.on Hb.out bw21)
  have hsw21 := HBw21.out.size
  have Kshw21 := hid (Ksh.out.below bw21)
  clear bw21
  go_wp2_with (first
     | (
        refine wpList_store_blk rfl 28 _ _ rfl (w21.heap.size) zSig.toArray rfl rfl _ 28 (Blk.new rfl zSig.toArray _) 34 size_sig zSig_size zSig_size (sigC_ones _ _ _ rfl) ?_
        intro w22 hbw22 hkw22
        have hw22 := hbw22.below ((Below.refl w21.heap.size w21).alloc (Nat.le_refl _) _) (by simp only [World.size_alloc]; omega) (Nat.le_refl _)
        have HBw22 := hid (Below.on HBw21.out hw22)
        have hsw22 := HBw22.out.size
        have Kshw22 := hid (Kshw21.out.below hw22)
        have hlshw22 := Kshw21.out.lt
        have Ksw22 := hid hkw22
        have hfw22 : w.heap.size ≤ w21.heap.size := HBw21.out.size
        clear hbw22 hkw22 hw22)
     | (refine wpList_load_blk rfl 23 _ rfl (w.heap.size) rfl _ 23 Kshw22.out _ Try.underlying23 rfl 2 size_shape rfl ?_))
  refine (refright_b L V true hrt _).mono ?_
  rintro e w23 ⟨rfl, bw23⟩
  have HBw23 := hid (Below.on HBw22.out bw23)
  have hsw23 := HBw23.out.size
  have Kshw23 := hid (Kshw22.out.below bw23)
  have Ksw23 := hid (Ksw22.out.below bw23)
  clear bw23
  go_wp2_with (refine wpList_load_blk rfl 23 _ rfl (w.heap.size) rfl _ 23 Kshw23.out _ Try.underlying23 rfl 2 size_shape rfl ?_)
  refine (refget_short L V a n c t _ hrt (HT.out.below HBw23.out) hl).mono ?_
  rintro e w24 ⟨rfl, bw24⟩
  have HBw24 := hid (Below.on HBw23.out bw24)
  have hsw24 := HBw24.out.size
  have Kshw24 := hid (Kshw23.out.below bw24)
  have Ksw24 := hid (Ksw23.out.below bw24)
  clear bw24
  go_wp2_with (first
     | (
        refine wpList_store_blk rfl 28 _ _ rfl (w24.heap.size) zSig.toArray rfl rfl _ 28 (Blk.new rfl zSig.toArray _) 34 size_sig zSig_size zSig_size (sigC_ones _ _ _ rfl) ?_
        intro w25 hbw25 hkw25
        have hw25 := hbw25.below ((Below.refl w24.heap.size w24).alloc (Nat.le_refl _) _) (by simp only [World.size_alloc]; omega) (Nat.le_refl _)
        have HBw25 := hid (Below.on HBw24.out hw25)
        have hsw25 := HBw25.out.size
        have Kshw25 := hid (Kshw24.out.below hw25)
        have hlshw25 := Kshw24.out.lt
        have Ksw25 := hid (Ksw24.out.below hw25)
        have hlsw25 := Ksw24.out.lt
        have Krw25 := hid hkw25
        have hfw25 : w.heap.size ≤ w24.heap.size := HBw24.out.size
        clear hbw25 hkw25 hw25)
     | (refine wpList_load_blk rfl 28 _ rfl (w21.heap.size) rfl _ 28 Ksw25.out _ Try.underlying28 rfl 34 size_sig zSig_size ?_)
     | (with_reducible show wpList _ _ _ (⟨some 43, _, _, _, _, _⟩ :: _) _ _; refine wpList_buildv rfl 28 [] rfl [] rfl _ build_sig0 ?_))
  refine (samezero _).mono ?_
  rintro e w26 ⟨rfl, bw26⟩
  have HBw26 := hid (Below.on HBw25.out bw26)
  have hsw26 := HBw26.out.size
  have Kshw26 := hid (Kshw25.out.below bw26)
  have Ksw26 := hid (Ksw25.out.below bw26)
  have Krw26 := hid (Krw25.out.below bw26)
  clear bw26
  go_wp2_with fail
  refine (knows20 _).mono ?_
  rintro e w27 ⟨rfl, bw27⟩
  have HBw27 := hid (Below.on HBw26.out bw27)
  have hsw27 := HBw27.out.size
  have Kshw27 := hid (Kshw26.out.below bw27)
  have Ksw27 := hid (Ksw26.out.below bw27)
  have Krw27 := hid (Krw26.out.below bw27)
  clear bw27
  go_wp2_with fail
  go_returns
  exact ⟨by first | rfl | simp, HBw27.out⟩
set_option maxHeartbeats 4000000 in
set_option maxRecDepth 100000 in
theorem gets_big (L V : Int) (a : Option Addr) (n c : Nat) (t : List Int) (w : World) (hT : TextAt w a n c t) (hn : n ≤ 12000) (hrt : rightS L V = true) (hl : (n : Int) = 40 + L * (2144 + V * 32)) (hlt : manyS L V ≤ gotI t) :
    Calls Try.prog 4 #[.agg (shC L V), .slice a n c] w fun e w' => e = .returned (.bool true) ∧ Below w.heap.size w w' := by
  have b1 := (Below.refl w.heap.size w).alloc (Nat.le_refl _) (.cells (shC L V) 23 (0, 0))
  have Ksh := hid (Blk.new (w := w) (n := w.heap.size) rfl (shC L V) 23)
  have Hb := hid b1
  have hbz := b1.size
  have Hbs := hid (show w.heap.size + 1 = (w.alloc (.cells (shC L V) 23 (0, 0))).heap.size by simp only [World.size_alloc])
  clear b1 
  have hc : ¬ (12000 : Int) < (n : Int) := by omega
  have HT := hid hT
  clear hT
  go_enter Try.func4, Try.ntmps4
  go_wp2_with (refine wpList_load_blk rfl 23 _ rfl (w.heap.size) rfl _ 23 Ksh.out _ Try.underlying23 rfl 2 size_shape rfl ?_)
  refine (get_big L V a n c t _ hrt (HT.out.below Hb.out) hl hlt).mono ?_
  rintro e w21 ⟨rfl, bw21⟩
  have HBw21 := hid (Below.on Hb.out bw21)
  have hsw21 := HBw21.out.size
  have Kshw21 := hid (Ksh.out.below bw21)
  clear bw21
  go_wp2_with (first
     | (
        refine wpList_store_blk rfl 28 _ _ rfl (w21.heap.size) zSig.toArray rfl rfl _ 28 (Blk.new rfl zSig.toArray _) 34 size_sig zSig_size zSig_size (sigC_ones _ _ _ rfl) ?_
        intro w22 hbw22 hkw22
        have hw22 := hbw22.below ((Below.refl w21.heap.size w21).alloc (Nat.le_refl _) _) (by simp only [World.size_alloc]; omega) (Nat.le_refl _)
        have HBw22 := hid (Below.on HBw21.out hw22)
        have hsw22 := HBw22.out.size
        have Kshw22 := hid (Kshw21.out.below hw22)
        have hlshw22 := Kshw21.out.lt
        have Ksw22 := hid hkw22
        have hfw22 : w.heap.size ≤ w21.heap.size := HBw21.out.size
        clear hbw22 hkw22 hw22)
     | (refine wpList_load_blk rfl 23 _ rfl (w.heap.size) rfl _ 23 Kshw22.out _ Try.underlying23 rfl 2 size_shape rfl ?_))
  refine (refright_b L V true hrt _).mono ?_
  rintro e w23 ⟨rfl, bw23⟩
  have HBw23 := hid (Below.on HBw22.out bw23)
  have hsw23 := HBw23.out.size
  have Kshw23 := hid (Kshw22.out.below bw23)
  have Ksw23 := hid (Ksw22.out.below bw23)
  clear bw23
  go_wp2_with (refine wpList_load_blk rfl 23 _ rfl (w.heap.size) rfl _ 23 Kshw23.out _ Try.underlying23 rfl 2 size_shape rfl ?_)
  refine (refget_big L V a n c t _ hrt (HT.out.below HBw23.out) hl hlt).mono ?_
  rintro e w24 ⟨rfl, bw24⟩
  have HBw24 := hid (Below.on HBw23.out bw24)
  have hsw24 := HBw24.out.size
  have Kshw24 := hid (Kshw23.out.below bw24)
  have Ksw24 := hid (Ksw23.out.below bw24)
  clear bw24
  go_wp2_with (first
     | (
        refine wpList_store_blk rfl 28 _ _ rfl (w24.heap.size) zSig.toArray rfl rfl _ 28 (Blk.new rfl zSig.toArray _) 34 size_sig zSig_size zSig_size (sigC_ones _ _ _ rfl) ?_
        intro w25 hbw25 hkw25
        have hw25 := hbw25.below ((Below.refl w24.heap.size w24).alloc (Nat.le_refl _) _) (by simp only [World.size_alloc]; omega) (Nat.le_refl _)
        have HBw25 := hid (Below.on HBw24.out hw25)
        have hsw25 := HBw25.out.size
        have Kshw25 := hid (Kshw24.out.below hw25)
        have hlshw25 := Kshw24.out.lt
        have Ksw25 := hid (Ksw24.out.below hw25)
        have hlsw25 := Ksw24.out.lt
        have Krw25 := hid hkw25
        have hfw25 : w.heap.size ≤ w24.heap.size := HBw24.out.size
        clear hbw25 hkw25 hw25)
     | (refine wpList_load_blk rfl 28 _ rfl (w21.heap.size) rfl _ 28 Ksw25.out _ Try.underlying28 rfl 34 size_sig zSig_size ?_)
     | (with_reducible show wpList _ _ _ (⟨some 43, _, _, _, _, _⟩ :: _) _ _; refine wpList_buildv rfl 28 [] rfl [] rfl _ build_sig0 ?_))
  refine (samezero _).mono ?_
  rintro e w26 ⟨rfl, bw26⟩
  have HBw26 := hid (Below.on HBw25.out bw26)
  have hsw26 := HBw26.out.size
  have Kshw26 := hid (Kshw25.out.below bw26)
  have Ksw26 := hid (Ksw25.out.below bw26)
  have Krw26 := hid (Krw25.out.below bw26)
  clear bw26
  go_wp2_with fail
  refine (knows20 _).mono ?_
  rintro e w27 ⟨rfl, bw27⟩
  have HBw27 := hid (Below.on HBw26.out bw27)
  have hsw27 := HBw27.out.size
  have Kshw27 := hid (Kshw26.out.below bw27)
  have Ksw27 := hid (Ksw26.out.below bw27)
  have Krw27 := hid (Krw26.out.below bw27)
  clear bw27
  go_wp2_with fail
  go_returns
  exact ⟨by first | rfl | simp, HBw27.out⟩
set_option maxHeartbeats 4000000 in
set_option maxRecDepth 100000 in
theorem gets_good (L V : Int) (a : Option Addr) (n c : Nat) (t : List Int) (w : World) (hT : TextAt w a n c t) (hn : n ≤ 12000) (hrt : rightS L V = true) (hl : (n : Int) = 40 + L * (2144 + V * 32)) (hlt : gotI t < manyS L V) :
    Calls Try.prog 4 #[.agg (shC L V), .slice a n c] w fun e w' => e = .returned (.bool true) ∧ Below w.heap.size w w' := by
  have b1 := (Below.refl w.heap.size w).alloc (Nat.le_refl _) (.cells (shC L V) 23 (0, 0))
  have Ksh := hid (Blk.new (w := w) (n := w.heap.size) rfl (shC L V) 23)
  have Hb := hid b1
  have hbz := b1.size
  have Hbs := hid (show w.heap.size + 1 = (w.alloc (.cells (shC L V) 23 (0, 0))).heap.size by simp only [World.size_alloc])
  clear b1 
  have hc : ¬ (12000 : Int) < (n : Int) := by omega
  have HT := hid hT
  have hsm := hT.small
  have htl := hT.length
  have hLV : 1 ≤ L ∧ L ≤ 4 ∧ 1 ≤ V ∧ V ≤ 4 := by simpa [rightS] using hrt
  obtain ⟨LN, rfl⟩ := Int.eq_ofNat_of_zero_le (show 0 ≤ L by omega)
  obtain ⟨VN, rfl⟩ := Int.eq_ofNat_of_zero_le (show 0 ≤ V by omega)
  have hn40 : 40 ≤ n := by
    rcases (show LN = 1 ∨ LN = 2 ∨ LN = 3 ∨ LN = 4 by omega) with h1 | h1 | h1 | h1 <;> rw [h1] at hl <;> omega
  have hlN : t.length = 40 + LN * (2144 + VN * 32) := by
    rw [htl]
    rw [show ((40 : Int) + (LN : Int) * (2144 + (VN : Int) * 32)) = ((40 + LN * (2144 + VN * 32) : Nat) : Int) by simp] at hl
    exact Int.ofNat.inj hl
  have HPG := hid (put_got hlN hsm)
  have HFG := hid (form_got hrt hsm hlt)
  have HRD := hid (gotR_dg (t := t) (by omega) hsm)
  have HM := hid (manyS_in hrt)
  have HG0 := hid (gotI_in hsm)
  have C1 := hid (fun (W : World) (h : TextAt W a n c t) => get_good LN VN a n c t W hrt h hl hlt)
  have C2 := hid (fun (W : World) (h : TextAt W a n c t) => refget_good LN VN a n c t W hrt h hl hlt)
  simp only [Int.toNat_natCast] at C1 C2
  have eTT := eqStrB hsm hsm
  rw [decide_eq_true rfl] at eTT
  have cvt := fun (W : World) (h : TextAt W a n c t) => h.string Try.underlying31 Try.underlying5 Try.underlying9
  have hGb : -9223372036854775808 ≤ gotI t ∧ gotI t < 9223372036854775808 := by have := HG0.out; have := HM.out; omega
  have C3 := hid (fun (W : World) (pa : Option Addr) (pn pc : Nat) (h : PartsAt W pa pn pc (partsZ VN (t.drop 40) LN)) => put_right LN VN (gotI t) (gotR t) pa pn pc (partsZ VN (t.drop 40) LN) W hrt HRD.out h hGb)
  have HPL := hid (partsZ_length VN (t.drop 40) LN)
  rw [HFG.out, HPG.out] at C3
  generalize gotI t = G at *
  generalize gotR t = R at *
  generalize partsZ VN (t.drop 40) LN = PP at *
  clear hT hl hlt hlN hsm hGb hLV htl
  go_enter Try.func4, Try.ntmps4
  go_wp2_with (refine wpList_load_blk rfl 23 _ rfl (w.heap.size) rfl _ 23 Ksh.out _ Try.underlying23 rfl 2 size_shape rfl ?_)
  refine (C1.out _ (HT.out.below Hb.out)).mono ?_
  rintro e w30 ⟨pa, pn, pc, rfl, hp30, b30⟩
  obtain rfl : pn = LN := by rw [← hp30.length, HPL.out]
  have HP30 := hid hp30
  clear hp30
  have HBw30 := hid (Below.on Hb.out b30)
  have hsw30 := HBw30.out.size
  have Kshw30 := hid (Ksh.out.below b30)
  clear b30
  go_wp2_with (first
     | (
        refine wpList_store_blk rfl 28 _ _ rfl (w30.heap.size) (sigC G R (.slice pa pn pc)).toArray rfl rfl _ 28 (Blk.new rfl zSig.toArray _) 34 size_sig zSig_size (sigC_size HRD.out) (sigC_ones _ _ _ rfl) ?_
        intro w31 hbw31 hkw31
        have hw31 := hbw31.below ((Below.refl w30.heap.size w30).alloc (Nat.le_refl _) _) (by simp only [World.size_alloc]; omega) (Nat.le_refl _)
        have HBw31 := hid (Below.on HBw30.out hw31)
        have hsw31 := HBw31.out.size
        have Kshw31 := hid (Kshw30.out.below hw31)
        have hlshw31 := Kshw30.out.lt
        have Ksw31 := hid hkw31
        have hfw31 : w.heap.size ≤ w30.heap.size := HBw30.out.size
        have HPw31 := hid (HP30.out.below hw31)
        clear hbw31 hkw31 hw31)
     | (refine wpList_load_blk rfl 23 _ rfl (w.heap.size) rfl _ 23 Kshw31.out _ Try.underlying23 rfl 2 size_shape rfl ?_))
  refine (refright_b pn VN true hrt _).mono ?_
  rintro e w32 ⟨rfl, bw32⟩
  have bqw32 := bw32
  have HBw32 := hid (Below.on HBw31.out bw32)
  have hsw32 := HBw32.out.size
  have Kshw32 := hid (Kshw31.out.below bw32)
  have Ksw32 := hid (Ksw31.out.below bw32)
  clear bw32
  go_wp2_with (refine wpList_load_blk rfl 23 _ rfl (w.heap.size) rfl _ 23 Kshw32.out _ Try.underlying23 rfl 2 size_shape rfl ?_)
  refine (C2.out _ (HT.out.below HBw32.out)).mono ?_
  rintro e w40 ⟨qa, qn, qc, rfl, hq40, b40⟩
  obtain rfl : qn = pn := by rw [← hq40.length, HPL.out]
  have HQ40 := hid hq40
  clear hq40
  have bqw40 := b40
  have HBw40 := hid (Below.on HBw32.out b40)
  have hsw40 := HBw40.out.size
  have Kshw40 := hid (Kshw32.out.below b40)
  have Ksw40 := hid (Ksw32.out.below b40)
  clear b40
  go_wp2_with (first
     | (
        refine wpList_store_blk rfl 28 _ _ rfl (w40.heap.size) (sigC G R (.slice qa qn qc)).toArray rfl rfl _ 28 (Blk.new rfl zSig.toArray _) 34 size_sig zSig_size (sigC_size HRD.out) (sigC_ones _ _ _ rfl) ?_
        intro w41 hbw41 hkw41
        have hw41 := hbw41.below ((Below.refl w40.heap.size w40).alloc (Nat.le_refl _) _) (by simp only [World.size_alloc]; omega) (Nat.le_refl _)
        have bqw41 := hw41
        have HBw41 := hid (Below.on HBw40.out hw41)
        have hsw41 := HBw41.out.size
        have Kshw41 := hid (Kshw40.out.below hw41)
        have hlshw41 := Kshw40.out.lt
        have Ksw41 := hid (Ksw40.out.below hw41)
        have hlsw41 := Ksw40.out.lt
        have Krw41 := hid hkw41
        have hfw41 : w.heap.size ≤ w40.heap.size := HBw40.out.size
        have HQw41 := hid (HQ40.out.below hw41)
        clear hbw41 hkw41 hw41)
     | (refine wpList_load_blk rfl 23 _ rfl (w.heap.size) rfl _ 23 Kshw41.out _ Try.underlying23 rfl 2 size_shape rfl ?_)
     | (refine wpList_load_blk rfl 28 _ rfl (w30.heap.size) rfl _ 28 Ksw41.out _ Try.underlying28 rfl 34 size_sig (sigC_size HRD.out) ?_))
  refine (C3.out _ _ _ _ (HPw31.out.below (Below.on (Below.on (Below.on (Below.refl w31.heap.size w31) bqw32) bqw40) bqw41))).mono ?_
  rintro e w50 ⟨⟨hx, -⟩ | ⟨-, v50, rfl, o50⟩, b50⟩
  · cases hx
  obtain ⟨ta, tc, rfl, ht50, -⟩ := o50.text
  obtain ⟨N, hN⟩ : ∃ N, t.length = N := ⟨_, rfl⟩
  rw [hN] at ht50 ⊢
  have HTx := hid ht50
  clear o50 ht50 hN
  have bqw50 := b50
  have HBw50 := hid (Below.on HBw41.out b50)
  have hsw50 := HBw50.out.size
  have Kshw50 := hid (Kshw41.out.below b50)
  have Ksw50 := hid (Ksw41.out.below b50)
  have Krw50 := hid (Krw41.out.below b50)
  clear b50
  go_wp2_with (first
     | (refine wpList_load_blk rfl 28 _ rfl (w30.heap.size) rfl _ 28 Ksw50.out _ Try.underlying28 rfl 34 size_sig (sigC_size HRD.out) ?_)
     | (refine wpList_load_blk rfl 28 _ rfl (w40.heap.size) rfl _ 28 Krw50.out _ Try.underlying28 rfl 34 size_sig (sigC_size HRD.out) ?_))
  have cv1 := HTx.out.string Try.underlying31 Try.underlying5 Try.underlying9
  skip
  refine (sigsame_any G R pa qn pc qa qc PP _ HRD.out (HPw31.out.below (Below.on (Below.on (Below.on (Below.on (Below.refl w31.heap.size w31) bqw32) bqw40) bqw41) bqw50)) (HQw41.out.below (Below.on (Below.refl w41.heap.size w41) bqw50))).mono ?_
  rintro e w60 ⟨rfl, b60⟩
  have cv3 := (HTx.out.below b60).string Try.underlying31 Try.underlying5 Try.underlying9
  have cv4 := cvt w60 (HT.out.below (Below.on HBw50.out b60))
  clear cv1
  have HBw60 := hid (Below.on HBw50.out b60)
  have hsw60 := HBw60.out.size
  have Kshw60 := hid (Kshw50.out.below b60)
  have Ksw60 := hid (Ksw50.out.below b60)
  have Krw60 := hid (Krw50.out.below b60)
  clear b60
  go_wp2_with fail
  refine (knows20 _).mono ?_
  rintro e w61 ⟨rfl, bw61⟩
  have HBw61 := hid (Below.on HBw60.out bw61)
  have hsw61 := HBw61.out.size
  have Kshw61 := hid (Kshw60.out.below bw61)
  have Ksw61 := hid (Ksw60.out.below bw61)
  have Krw61 := hid (Krw60.out.below bw61)
  clear bw61
  go_wp2_with fail
  go_returns
  exact ⟨by first | rfl | simp, HBw61.out⟩
theorem wireGets_any (L V : Int) (a : Option Addr) (n c : Nat) (t : List Int) (w : World) (hT : TextAt w a n c t) :
    Calls Try.prog 4 #[.agg (shC L V), .slice a n c] w fun e w' => e = .returned (.bool true) ∧ Below w.heap.size w w' := by
  rcases Nat.lt_or_ge 12000 n with h | h
  · exact gets_long L V a n c t w hT h
  cases hrt : rightS L V with
  | false => exact gets_wrong L V a n c t w hT h hrt
  | true =>
    by_cases hl : (n : Int) = 40 + L * (2144 + V * 32)
    · rcases Int.lt_or_le (gotI t) (manyS L V) with hlt | hlt
      · exact gets_good L V a n c t w hT h hrt hl hlt
      · exact gets_big L V a n c t w hT h hrt hl hlt
    · exact gets_short L V a n c t w hT h hrt hl
end Go.Proofs.Ytkakoiaahgchmaa
