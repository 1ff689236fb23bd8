/-
  Put together, as far as wanted: ExAC ExAD ExAE ExAF ExAG ExAH ExAI.
-/
import Derived.Test.YtkakoiaahgchmaaDoorPT4
namespace Go.Proofs.YtkakoiaahgchmaaDoor
set_option maxRecDepth 100000
open Go.ChangeShapes Go.WideShapes Go.ChangeAt Go.RowKit
set_option maxHeartbeats 4000000 in
theorem refpair_any (a b : List Int) (w : World) (ha : Dg a) (hb_ : Dg b) :
    Calls Tryd.prog 41 #[.agg (a.map (Value.int .u8)).toArray, .agg (b.map (Value.int .u8)).toArray] w fun e w' => ∃ p c, e = .returned (.slice p 65 c) ∧ TextAt w' p 65 c (nodeX a b) ∧ Below w.heap.size w w' := by
  have b1 := (Below.refl w.heap.size w).alloc (Nat.le_refl _) (.cells (a.map (Value.int .u8)).toArray 23 (0, 0))
  have b2 := b1.alloc b1.size (.cells (b.map (Value.int .u8)).toArray 23 (0, 0))
  have Ka := hid ((Blk.new (w := w) (n := w.heap.size) rfl (a.map (Value.int .u8)).toArray 23).old (.cells (b.map (Value.int .u8)).toArray 23 (0, 0)))
  have Kb := hid (Blk.new (w := (w.alloc (.cells (a.map (Value.int .u8)).toArray 23 (0, 0)))) (n := w.heap.size + 1) (by simp only [World.size_alloc]) (b.map (Value.int .u8)).toArray 23)
  have Hb := hid b2
  have hbz := b2.size
  have Hbs := hid (show w.heap.size + 1 + 1 = ((w.alloc (.cells (a.map (Value.int .u8)).toArray 23 (0, 0))).alloc (.cells (b.map (Value.int .u8)).toArray 23 (0, 0))).heap.size by simp only [World.size_alloc])
  clear b1 b2 
  go_enter Tryd.func41, Tryd.ntmps41
  go_wp2_with fail
  have HBB : Hid (w.heap.size + 1 + 1 ≤ ((w.alloc (.cells (a.map (Value.int .u8)).toArray 23 (0, 0))).alloc (.cells (b.map (Value.int .u8)).toArray 23 (0, 0))).heap.size) := hid (Nat.le_of_eq Hbs.out)
  obtain ⟨i0, hi, hz0, hz1, hz2⟩ := info_parts info_byte
  refine FlowB.wp_region_typed (w.heap.size + 1 + 1) 5 4 [1, 3] [] [(.c 0, [], []), (.c 2, [], [])] (by kernel_rfl) (by kernel_rfl) ?_
  apply Exists.intro
  refine ⟨fun w0 hb0 hF0 => ?_, ?_⟩
  · simp only [pick, List.getElem?_toArray, List.getElem?_cons_succ, List.getElem?_cons_zero, Option.toList_some, List.cons_append, List.nil_append]
    repeat (go_big_quiet_step (fail))
    exact wpQuiet_nil rfl
  refine FlowB.AlChk.nil ?_
  refine FlowB.Walk.does rfl (fun _ _ => True) (fun v w' => OwnB w' (w.heap.size + 1 + 1) 5 v [1]) (fun v w' w'' _ h _ => h) (fun v w' w'' h k => h.below k) rfl (fun w5 hb5 hF5 _ => ?_) ?_
  · exact ⟨.slice (some ⟨w5.heap.size, 0, none⟩) 1 1, w5.alloc (.cells (([1] : List Int).map (Value.int .u8)).toArray 5), by first | (go_simp; done) | (go_simp; rfl), (FlowB.rel_typed _ _).of ((Below.refl _ _).alloc (Nat.le_refl _) _), trivial, OwnB.of_blk (Blk.new rfl _ _) (Nat.le_trans HBB.out hb5.size) rfl (by omega) (by simp)⟩
  rintro vl w5 hb5 hF5 _
  apply Exists.intro
  refine ⟨fun w4 hb4 hF4 => wpQuiet_nil rfl, ?_⟩
  refine FlowB.AlChk.nil ?_
  refine FlowB.Walk.does rfl (fun _ _ => True) (fun v w' => OwnB w' (w.heap.size + 1 + 1) 5 v ([1] ++ a)) (fun v w' w'' _ h _ => h) (fun v w' w'' h k => h.below k) rfl (fun w2 hb2 hF2 hG2 => ?_) ?_
  · have hbB := hb2.below (B := w.heap.size + 1 + 1) HBB.out
    obtain ⟨v', w', hr, q2, q3, q4⟩ := run_append_text (P := Tryd.prog) 29 Tryd.underlying29 hi hz0 hz1 hz2 hG2 (ha.text (Ka.out.belowB (by omega) hbB)) (by simp) (Nat.le_trans HBB.out hb2.size)
    exact ⟨v', w', FlowB.exec_append rfl rfl rfl hr, hG2.typed (Nat.le_refl _) q3, trivial, q2⟩
  rintro v3 w3 hb3 hF3 _
  apply Exists.intro
  refine ⟨fun w2 hb2 hF2 => wpQuiet_nil rfl, ?_⟩
  refine FlowB.AlChk.nil ?_
  refine FlowB.Walk.fin fun w4 h4 _ hG4 => ?_
  simp only [List.drop_succ_cons, List.drop_zero]
  have hbB := h4.below (B := w.heap.size + 1 + 1) HBB.out
  have Kb4 := hid (Kb.out.belowB (by omega) hbB)
  have Hb4 := hid (Hb.out.trans (hbB.mono (by omega)))
  have Ho4 := hid (show OwnB w4 (w.heap.size + 1 + 1) 5 v3 ([1] ++ a) from hG4)
  have hsz4 : w.heap.size + 1 + 1 ≤ w4.heap.size := Nat.le_trans HBB.out h4.size
  clear h4 hG4 hbB Ka Hb
  go_wp2_with (at_builtin; refine wpList_append_text rfl _ _ rfl Tryd.underlying29 hi hz0 hz1 hz2 rfl Ho4.out rfl (hb_.text Kb4.out) (by rw [List.length_append, ha.len]; simp) hsz4 ?_)
  intro v5 w5 own5 _ b5
  obtain ⟨a5, c5, rfl, hT5, _⟩ := own5.text
  rw [show (1 :: (a ++ b)).length = 65 by rw [List.length_cons, List.length_append, ha.len, hb_.len]] at hT5 ⊢
  have HT5 := hid hT5
  have HBw5 := hid (Hb4.out.trans (b5.mono (by omega)))
  clear own5 hT5 b5
  go_wp2_with fail
  go_returns
  exact ⟨_, _, rfl, HT5.out, HBw5.out⟩
set_option maxHeartbeats 4000000 in
theorem reftext_one (i : Int) (a : Option Addr) (nt c : Nat) (t : List Int) (ya : Option Addr) (len yc : Nat) (w : World) (hT : TextAt w a nt c t) (hnt : nt ≤ 1000) :
    Calls Tryd.prog 16 #[.int .i64 1, .int .i64 i, .slice a nt c, .slice ya len yc] w fun e w' => ∃ v, e = .returned (.tuple #[v, .bool ((len : Int) == 0)]) ∧ TextsV [0 :: t] v w' ∧ Below w.heap.size w w' := by
  have Hb := hid (Below.refl w.heap.size w)
  go_enter Tryd.func16, Tryd.ntmps16
  obtain ⟨i0, hi, hz0, hz1, hz2⟩ := info_parts info_byte
  have c1 := Hb.out.alloc Hb.out.size (.cells (([0] : List Int).map (Value.int .u8)).toArray 5 (0, 0))
  have ho : OwnB (w.alloc (.cells (([0] : List Int).map (Value.int .u8)).toArray 5 (0, 0))) w.heap.size 5 (.slice (some ⟨w.heap.size, 0, none⟩) 1 1) [0] := OwnB.of_blk (Blk.new (w := w) (n := w.heap.size) rfl (([0] : List Int).map (Value.int .u8)).toArray 5) (Nat.le_refl _) rfl (by omega) (by simp)
  have HT1 := hid (hT.below c1)
  have Hb1 := hid c1
  have Ho1 := hid ho
  clear c1 ho
  go_wp2_with (at_builtin; refine wpList_append_text rfl _ _ rfl Tryd.underlying29 hi hz0 hz1 hz2 rfl Ho1.out rfl HT1.out (by simp; omega) (by simp only [World.size_alloc]; omega) ?_)
  intro v5 w5 own5 _ b5
  obtain ⟨a5, c5, rfl, hT5, _⟩ := own5.text
  rw [show (0 :: t).length = nt + 1 by rw [List.length_cons, hT.length]] at hT5 ⊢
  have HT5 := hid hT5
  have HBw5 := hid (Hb1.out.trans (b5.mono (by omega)))
  clear own5 hT5 b5
  go_wp2_with fail
  have HBA := hid (HBw5.out.alloc HBw5.out.size (.cells #[.slice a5 (nt + 1) c5] 29 (0, 0)))
  go_returns
  refine ⟨_, rfl, ⟨_, _, _, rfl, TextsAt.of_blk (n := 1) (cap := 1) (ts := [0 :: t]) (Blk.new (w := w5) rfl #[.slice a5 (nt + 1) c5] 29) rfl (Nat.le_refl _) (by omega) fun j hj => ?_⟩, HBA.out⟩
  match j, hj with
  | 0, _ => exact ⟨_, _, _, rfl, HT5.out.below ((Below.refl _ _).alloc (Nat.le_refl _) (.cells #[.slice a5 (nt + 1) c5] 29 (0, 0)))⟩
set_option maxHeartbeats 4000000 in
theorem reftext_nil (n i : Int) (a : Option Addr) (nt c : Nat) (ya : Option Addr) (yc : Nat) (w : World) (hn : ¬ n = 1) :
    Calls Tryd.prog 16 #[.int .i64 n, .int .i64 i, .slice a nt c, .slice ya 0 yc] w fun e w' => e = .returned (.tuple #[.slice none 0 0, .bool false]) ∧ Below w.heap.size w w' := by
  have Hb := hid (Below.refl w.heap.size w)
  go_enter Tryd.func16, Tryd.ntmps16
  go_wp2_with fail
  go_returns
  exact ⟨by first | rfl | simp, Hb.out⟩
theorem wpList_append_ahead {ops : Array Oper} {rest : List Oper} {o : Oper} {A : Act} {w : World} {Q : Exit → Act → World → Prop} (hgd : o.guard = none) (s x : Operand) (ho : o.op = .call { callee := .builtin .append, args := #[s, x], argTypes := #[31, 31] }) (hty : o.type = 31)
    {b : Nat} {ta : Option Addr} {tl tc : Nat} {t : List Int} {a : Option Addr} {n c : Nat} {ts : List (List Int)} (hk : Blk w b #[.slice ta tl tc] 29) (hT : TextAt w ta tl tc t) (hR : TextsAt w a n c ts) (hn : n ≤ 1000) (hs : A.eval s = .slice (some ⟨b, 0, none⟩) 1 1) (hx : A.eval x = .slice a n c)
    (h : ∀ a' c' w', TextsAt w' a' (n + 1) c' (t :: ts) → Below w.heap.size w w' → wpList Tryd.prog ops Q rest (A.put o.dst (.slice a' (n + 1) c')) w') : wpList Tryd.prog ops Q (o :: rest) A w :=
  wpList_plain hgd fun K hK => by
    obtain ⟨a', c', w', hr, h2, h3⟩ := run_append_ahead hk hT hR hn
    unfold Oper.wp execOp
    simp only [ho, hty, resolve, invoke, builtin, Sem.run_bind, Sem.run_pure, Result.andThen_ok, List.map_toArray, List.map_cons, List.map_nil, hs, hx, hr, Oper.upon_value]
    exact hK _ _ (h a' c' w' h2 h3)
set_option maxHeartbeats 4000000 in
theorem reftext_l_no (n i k q len : Nat) (a : Option Addr) (nt c : Nat) (t : List Int) (x o yc : Nat) (ds : List (List Int)) (w : World) (hT : TextAt w a nt c t) (hn : 2 ≤ n) (hn2 : n ≤ 200) (_hin : i < n) (hkk : halfN n = k) (hik : i < k) (hq1 : q < len) (hq2 : len ≤ q + 1) (hlen : len ≤ 1000000) (hD : DigsAt w (some ⟨x, o, none⟩) len yc ds)
    (cu : ∀ W : World, DigsAt W (some ⟨x, o, none⟩) q yc (ds.take q) → TextAt W a nt c t → Calls Tryd.prog 16 #[.int .i64 (k : Int), .int .i64 (i : Int), .slice a nt c, .slice (some ⟨x, o, none⟩) q yc] W fun e w' => ∃ v, e = .returned (.tuple #[v, .bool false]) ∧ Below W.heap.size W w') :
    Calls Tryd.prog 16 #[.int .i64 n, .int .i64 i, .slice a nt c, .slice (some ⟨x, o, none⟩) len yc] w fun e w' => e = .returned (.tuple #[.slice none 0 0, .bool false]) ∧ Below w.heap.size w w' := by
  obtain ⟨hk1, hk2⟩ := halfN_lt hn
  rw [hkk] at hk1 hk2
  have hn1 : ¬ ((n : Int) = 1) := by omega
  have hl0 : ¬ ((len : Int) = 0) := by omega
  have hw0 : wrap64 ((len : Int) - 1) = (len : Int) - 1 := by unfold wrap64; omega
  have hqc := hD.le
  obtain ⟨x0, o0, hxa, hx, hc⟩ := hD.at_ (by omega)
  cases hxa
  have Hc := hid (hc q (by omega))
  have DQ := hid (hD.head q (by omega))
  have HT := hid hT
  have hcut : ∀ W' : World, (Instr.slice 24 (.slice (some ⟨x, o, none⟩) len yc) none (some (.int .i64 ((len : Int) - 1))) none).run Tryd.prog W' = .ok (.slice (some ⟨x, o, none⟩) q yc) W' := fun W' => by
    have h := run_cutd_h (P := Tryd.prog) Tryd.underlying24 size_digest (some ⟨x, o, none⟩) len yc ((len : Int) - 1) W' (by omega) (by omega)
    rw [show ((len : Int) - 1).toNat = q by omega] at h
    exact h
  have CH := hid (fun W : World => (refhalf_any n n W (Nat.le_refl _) hn (by omega)).mono (fun e w' (h : e = .returned (.int .i64 (halfN n : Int)) ∧ w' = W) => show e = .returned (.int .i64 (halfN n : Int)) ∧ Below W.heap.size W w' from ⟨h.1, by rw [h.2]; exact Below.refl _ _⟩))
  rw [hkk] at CH
  have CU := hid cu
  have HY := hid (hD.get (j := q) (by omega))
  generalize ds.getD q [] = Y at *
  have hikI : ¬ ((k : Int) ≤ i) := by omega
  clear cu hkk hc hD hT
  have Hb := hid (Below.refl w.heap.size w)
  go_enter Tryd.func16, Tryd.ntmps16
  go_wp2_with fail
  refine (CH.out _).mono ?_
  rintro e w1 ⟨rfl, bw1⟩
  have HBw1 := hid (Below.on Hb.out bw1)
  have hsw1 := HBw1.out.size
  clear bw1
  have Hcx : Hid (w1.rangeAt x (o + q * 32) (Y.map (Value.int .u8))) := hid (fun j v hv => (HBw1.out.cell (p := ⟨x, o + q * 32 + j, none⟩) hx).trans (Hc.out j v hv))
  go_wp2_with (first
     | (refine wpList_index_digs rfl 24 _ _ rfl Tryd.underlying24 size_digest x o len yc rfl _ _ rfl q (by omega) (by omega) ?_)
     | (refine wpList_load_mid rfl 23 _ rfl x (o + q * 32) rfl _ _ Hcx.out Tryd.underlying23 rfl (by rw [List.length_map, HY.out.len]; exact size_digest) ?_)
     | (
        refine wpList_store_blk rfl 23 _ _ rfl (w1.heap.size) (Y.map (Value.int .u8)).toArray rfl rfl _ 23 (Blk.new rfl (byteCells 32 []) _) 32 size_digest zsize HY.out.size (ints_one _ _) ?_
        intro w2 hbw2 hkw2
        have hw2 := hbw2.below ((Below.refl w1.heap.size w1).alloc (Nat.le_refl _) _) (by simp only [World.size_alloc]; omega) (Nat.le_refl _)
        have HBw2 := hid (Below.on HBw1.out hw2)
        have hsw2 := HBw2.out.size
        have Kow2 := hid hkw2
        have hfw2 : w.heap.size ≤ w1.heap.size := HBw1.out.size
        clear hbw2 hkw2 hw2))
  refine (CU.out _ (DQ.out.below HBw2.out) (HT.out.below HBw2.out)).mono ?_
  rintro e w3 ⟨v15, rfl, bw3⟩
  have HBw3 := hid (Below.on HBw2.out bw3)
  have hsw3 := HBw3.out.size
  have Kow3 := hid (Kow2.out.below bw3)
  clear bw3
  go_wp2_with fail
  go_returns
  exact ⟨by first | rfl | simp, HBw3.out⟩
set_option maxHeartbeats 4000000 in
theorem reftext_l_yes (n i k q len : Nat) (a : Option Addr) (nt c : Nat) (t : List Int) (x o yc : Nat) (ds : List (List Int)) (w : World) (hT : TextAt w a nt c t) (hn : 2 ≤ n) (hn2 : n ≤ 200) (_hin : i < n) (hkk : halfN n = k) (hik : i < k) (hq1 : q < len) (hq2 : len ≤ q + 1) (hlen : len ≤ 1000000) (hD : DigsAt w (some ⟨x, o, none⟩) len yc ds)
    (L : List (List Int)) (hL0 : 0 < L.length) (hL1 : L.length ≤ 300) (hL2 : (L.getD 0 []).length ≤ 1000000) (cu : ∀ W : World, DigsAt W (some ⟨x, o, none⟩) q yc (ds.take q) → TextAt W a nt c t → Calls Tryd.prog 16 #[.int .i64 (k : Int), .int .i64 (i : Int), .slice a nt c, .slice (some ⟨x, o, none⟩) q yc] W fun e w' => ∃ v, e = .returned (.tuple #[v, .bool true]) ∧ TextsV L v w' ∧ Below W.heap.size W w') :
    Calls Tryd.prog 16 #[.int .i64 n, .int .i64 i, .slice a nt c, .slice (some ⟨x, o, none⟩) len yc] w fun e w' => ∃ v, e = .returned (.tuple #[v, .bool true]) ∧ TextsV (nodeX (sumZ (L.getD 0 [])) (ds.getD q []) :: L) v w' ∧ Below w.heap.size w w' := by
  obtain ⟨hk1, hk2⟩ := halfN_lt hn
  rw [hkk] at hk1 hk2
  have hn1 : ¬ ((n : Int) = 1) := by omega
  have hl0 : ¬ ((len : Int) = 0) := by omega
  have hw0 : wrap64 ((len : Int) - 1) = (len : Int) - 1 := by unfold wrap64; omega
  have hqc := hD.le
  obtain ⟨x0, o0, hxa, hx, hc⟩ := hD.at_ (by omega)
  cases hxa
  have Hc := hid (hc q (by omega))
  have DQ := hid (hD.head q (by omega))
  have HT := hid hT
  have hcut : ∀ W' : World, (Instr.slice 24 (.slice (some ⟨x, o, none⟩) len yc) none (some (.int .i64 ((len : Int) - 1))) none).run Tryd.prog W' = .ok (.slice (some ⟨x, o, none⟩) q yc) W' := fun W' => by
    have h := run_cutd_h (P := Tryd.prog) Tryd.underlying24 size_digest (some ⟨x, o, none⟩) len yc ((len : Int) - 1) W' (by omega) (by omega)
    rw [show ((len : Int) - 1).toNat = q by omega] at h
    exact h
  have CH := hid (fun W : World => (refhalf_any n n W (Nat.le_refl _) hn (by omega)).mono (fun e w' (h : e = .returned (.int .i64 (halfN n : Int)) ∧ w' = W) => show e = .returned (.int .i64 (halfN n : Int)) ∧ Below W.heap.size W w' from ⟨h.1, by rw [h.2]; exact Below.refl _ _⟩))
  rw [hkk] at CH
  have CU := hid cu
  have HY := hid (hD.get (j := q) (by omega))
  generalize ds.getD q [] = Y at *
  have CS := hid (fun (x : Option Addr) (l c : Nat) (W : World) (h : TextAt W x l c (L.getD 0 [])) (hl : l ≤ 1000000) => refsum_any x l c (L.getD 0 []) W h (by omega))
  have HX9 := hid (Dg.sum (L.getD 0 []))
  generalize sumZ (L.getD 0 []) = X9 at *
  have hikI : ¬ ((k : Int) ≤ i) := by omega
  clear cu hkk hc hD hT
  have Hb := hid (Below.refl w.heap.size w)
  go_enter Tryd.func16, Tryd.ntmps16
  go_wp2_with fail
  refine (CH.out _).mono ?_
  rintro e w1 ⟨rfl, bw1⟩
  have HBw1 := hid (Below.on Hb.out bw1)
  have hsw1 := HBw1.out.size
  clear bw1
  have Hcx : Hid (w1.rangeAt x (o + q * 32) (Y.map (Value.int .u8))) := hid (fun j v hv => (HBw1.out.cell (p := ⟨x, o + q * 32 + j, none⟩) hx).trans (Hc.out j v hv))
  go_wp2_with (first
     | (refine wpList_index_digs rfl 24 _ _ rfl Tryd.underlying24 size_digest x o len yc rfl _ _ rfl q (by omega) (by omega) ?_)
     | (refine wpList_load_mid rfl 23 _ rfl x (o + q * 32) rfl _ _ Hcx.out Tryd.underlying23 rfl (by rw [List.length_map, HY.out.len]; exact size_digest) ?_)
     | (
        refine wpList_store_blk rfl 23 _ _ rfl (w1.heap.size) (Y.map (Value.int .u8)).toArray rfl rfl _ 23 (Blk.new rfl (byteCells 32 []) _) 32 size_digest zsize HY.out.size (ints_one _ _) ?_
        intro w2 hbw2 hkw2
        have hw2 := hbw2.below ((Below.refl w1.heap.size w1).alloc (Nat.le_refl _) _) (by simp only [World.size_alloc]; omega) (Nat.le_refl _)
        have HBw2 := hid (Below.on HBw1.out hw2)
        have hsw2 := HBw2.out.size
        have Kow2 := hid hkw2
        have hfw2 : w.heap.size ≤ w1.heap.size := HBw1.out.size
        clear hbw2 hkw2 hw2))
  refine (CU.out _ (DQ.out.below HBw2.out) (HT.out.below HBw2.out)).mono ?_
  rintro e w3 ⟨v15, rfl, ⟨ra, rn, rc, rfl, hr⟩, bw3⟩
  have HBw3 := hid (Below.on HBw2.out bw3)
  have hsw3 := HBw3.out.size
  have Kow3 := hid (Kow2.out.below bw3)
  clear bw3
  have hrl := hr.length
  obtain ⟨gx, gy, xa, xl, xc, rfl, hgx, hxc, hxt⟩ := hr.at_ 0 (by omega)
  have HR := hid hr
  have hxl := hxt.length
  have HXT := hid hxt
  have hxc0 : w3.cell? ⟨gx, gy, none⟩ = some (.slice xa xl xc) := hxc
  clear hr hxt hxc
  go_wp2_with (refine wpList_index_s 1 (by first | rfl | go_simp) 31 _ _ rfl Tryd.underlying31 size_text gx gy rn rc rfl _ _ rfl 0 rfl (by omega) ?_)
  refine (CS.out xa xl xc w3 HXT.out (by omega)).mono ?_
  rintro e w4 ⟨rfl, bw4⟩
  have HBw4 := hid (Below.on HBw3.out bw4)
  have hsw4 := HBw4.out.size
  have Kow4 := hid (Kow3.out.below bw4)
  have HQ := hid bw4
  clear bw4
  go_wp2_with (first
     | (
        refine wpList_store_blk rfl 23 _ _ rfl (w4.heap.size) (X9.map (Value.int .u8)).toArray rfl rfl _ 23 (Blk.new rfl (byteCells 32 []) _) 32 size_digest zsize HX9.out.size (ints_one _ _) ?_
        intro w5 hbw5 hkw5
        have hw5 := hbw5.below ((Below.refl w4.heap.size w4).alloc (Nat.le_refl _) _) (by simp only [World.size_alloc]; omega) (Nat.le_refl _)
        have HBw5 := hid (Below.on HBw4.out hw5)
        have hsw5 := HBw5.out.size
        have Kow5 := hid (Kow4.out.below hw5)
        have hlow5 := Kow4.out.lt
        have Kxw5 := hid hkw5
        have hfw5 : w.heap.size ≤ w4.heap.size := HBw4.out.size
        have HRw5 := hid ((HR.out.below HQ.out).below hw5)
        clear hbw5 hkw5 hw5)
     | (refine wpList_load_blk rfl 23 _ rfl (w4.heap.size) rfl _ 23 Kxw5.out _ Tryd.underlying23 rfl 32 size_digest HX9.out.size ?_)
     | (refine wpList_load_blk rfl 23 _ rfl (w1.heap.size) rfl _ 23 Kow5.out _ Tryd.underlying23 rfl 32 size_digest HY.out.size ?_))
  refine (refpair_any X9 Y _ HX9.out HY.out).mono ?_
  rintro e w6 ⟨p1, pc1, rfl, hp1, bw6⟩
  have HBw6 := hid (Below.on HBw5.out bw6)
  have hsw6 := HBw6.out.size
  have Kow6 := hid (Kow5.out.below bw6)
  have Kxw6 := hid (Kxw5.out.below bw6)
  have HRw6 := hid (HRw5.out.below bw6)
  have HP1 := hid hp1
  clear hp1
  clear bw6
  have KB := hid (Blk.new (w := w6) (n := w6.heap.size) rfl #[.slice p1 65 pc1] 29)
  have HPA := hid (TextAt.below HP1.out ((Below.refl _ _).alloc (Nat.le_refl _) (.cells #[.slice p1 65 pc1] 29 (0, 0))))
  have HRA := hid (TextsAt.below HRw6.out ((Below.refl _ _).alloc (Nat.le_refl _) (.cells #[.slice p1 65 pc1] 29 (0, 0))))
  have HBA := hid (HBw6.out.alloc HBw6.out.size (.cells #[.slice p1 65 pc1] 29 (0, 0)))
  go_wp2_with (at_builtin; refine wpList_append_ahead rfl _ _ rfl rfl KB.out HPA.out HRA.out (by omega) rfl rfl ?_)
  intro a9 c9 w9 hr9 b9
  have HR9 := hid hr9
  have HB9 := hid (HBA.out.trans (b9.mono (by have := HBw6.out.size; omega)))
  clear hr9 b9
  go_wp2_with fail
  go_returns
  exact ⟨_, rfl, ⟨_, _, _, rfl, HR9.out⟩, HB9.out⟩
set_option maxHeartbeats 4000000 in
theorem reftext_r_no (n i k q len : Nat) (a : Option Addr) (nt c : Nat) (t : List Int) (x o yc : Nat) (ds : List (List Int)) (w : World) (hT : TextAt w a nt c t) (hn : 2 ≤ n) (hn2 : n ≤ 200) (hin : i < n) (hkk : halfN n = k) (hik : ¬ i < k) (hq1 : q < len) (hq2 : len ≤ q + 1) (hlen : len ≤ 1000000) (hD : DigsAt w (some ⟨x, o, none⟩) len yc ds)
    (cu : ∀ W : World, DigsAt W (some ⟨x, o, none⟩) q yc (ds.take q) → TextAt W a nt c t → Calls Tryd.prog 16 #[.int .i64 ((n : Int) - (k : Int)), .int .i64 ((i : Int) - (k : Int)), .slice a nt c, .slice (some ⟨x, o, none⟩) q yc] W fun e w' => ∃ v, e = .returned (.tuple #[v, .bool false]) ∧ Below W.heap.size W w') :
    Calls Tryd.prog 16 #[.int .i64 n, .int .i64 i, .slice a nt c, .slice (some ⟨x, o, none⟩) len yc] w fun e w' => e = .returned (.tuple #[.slice none 0 0, .bool false]) ∧ Below w.heap.size w w' := by
  obtain ⟨hk1, hk2⟩ := halfN_lt hn
  rw [hkk] at hk1 hk2
  have hn1 : ¬ ((n : Int) = 1) := by omega
  have hl0 : ¬ ((len : Int) = 0) := by omega
  have hw0 : wrap64 ((len : Int) - 1) = (len : Int) - 1 := by unfold wrap64; omega
  have hqc := hD.le
  obtain ⟨x0, o0, hxa, hx, hc⟩ := hD.at_ (by omega)
  cases hxa
  have Hc := hid (hc q (by omega))
  have DQ := hid (hD.head q (by omega))
  have HT := hid hT
  have hcut : ∀ W' : World, (Instr.slice 24 (.slice (some ⟨x, o, none⟩) len yc) none (some (.int .i64 ((len : Int) - 1))) none).run Tryd.prog W' = .ok (.slice (some ⟨x, o, none⟩) q yc) W' := fun W' => by
    have h := run_cutd_h (P := Tryd.prog) Tryd.underlying24 size_digest (some ⟨x, o, none⟩) len yc ((len : Int) - 1) W' (by omega) (by omega)
    rw [show ((len : Int) - 1).toNat = q by omega] at h
    exact h
  have CH := hid (fun W : World => (refhalf_any n n W (Nat.le_refl _) hn (by omega)).mono (fun e w' (h : e = .returned (.int .i64 (halfN n : Int)) ∧ w' = W) => show e = .returned (.int .i64 (halfN n : Int)) ∧ Below W.heap.size W w' from ⟨h.1, by rw [h.2]; exact Below.refl _ _⟩))
  rw [hkk] at CH
  have CU := hid cu
  have HY := hid (hD.get (j := q) (by omega))
  generalize ds.getD q [] = Y at *
  have hikI : (k : Int) ≤ i := by omega
  have hw1 : wrap64 ((n : Int) - (k : Int)) = (n : Int) - (k : Int) := by unfold wrap64; omega
  have hw2 : wrap64 ((i : Int) - (k : Int)) = (i : Int) - (k : Int) := by unfold wrap64; omega
  clear cu hkk hc hD hT
  have Hb := hid (Below.refl w.heap.size w)
  go_enter Tryd.func16, Tryd.ntmps16
  go_wp2_with fail
  refine (CH.out _).mono ?_
  rintro e w1 ⟨rfl, bw1⟩
  have HBw1 := hid (Below.on Hb.out bw1)
  have hsw1 := HBw1.out.size
  clear bw1
  have Hcx : Hid (w1.rangeAt x (o + q * 32) (Y.map (Value.int .u8))) := hid (fun j v hv => (HBw1.out.cell (p := ⟨x, o + q * 32 + j, none⟩) hx).trans (Hc.out j v hv))
  go_wp2_with (first
     | (refine wpList_index_digs rfl 24 _ _ rfl Tryd.underlying24 size_digest x o len yc rfl _ _ rfl q (by omega) (by omega) ?_)
     | (refine wpList_load_mid rfl 23 _ rfl x (o + q * 32) rfl _ _ Hcx.out Tryd.underlying23 rfl (by rw [List.length_map, HY.out.len]; exact size_digest) ?_)
     | (
        refine wpList_store_blk rfl 23 _ _ rfl (w1.heap.size) (Y.map (Value.int .u8)).toArray rfl rfl _ 23 (Blk.new rfl (byteCells 32 []) _) 32 size_digest zsize HY.out.size (ints_one _ _) ?_
        intro w2 hbw2 hkw2
        have hw2 := hbw2.below ((Below.refl w1.heap.size w1).alloc (Nat.le_refl _) _) (by simp only [World.size_alloc]; omega) (Nat.le_refl _)
        have HBw2 := hid (Below.on HBw1.out hw2)
        have hsw2 := HBw2.out.size
        have Kow2 := hid hkw2
        have hfw2 : w.heap.size ≤ w1.heap.size := HBw1.out.size
        clear hbw2 hkw2 hw2))
  refine (CU.out _ (DQ.out.below HBw2.out) (HT.out.below HBw2.out)).mono ?_
  rintro e w3 ⟨v15, rfl, bw3⟩
  have HBw3 := hid (Below.on HBw2.out bw3)
  have hsw3 := HBw3.out.size
  have Kow3 := hid (Kow2.out.below bw3)
  clear bw3
  go_wp2_with fail
  go_returns
  exact ⟨by first | rfl | simp, HBw3.out⟩
set_option maxHeartbeats 4000000 in
theorem reftext_r_yes (n i k q len : Nat) (a : Option Addr) (nt c : Nat) (t : List Int) (x o yc : Nat) (ds : List (List Int)) (w : World) (hT : TextAt w a nt c t) (hn : 2 ≤ n) (hn2 : n ≤ 200) (hin : i < n) (hkk : halfN n = k) (hik : ¬ i < k) (hq1 : q < len) (hq2 : len ≤ q + 1) (hlen : len ≤ 1000000) (hD : DigsAt w (some ⟨x, o, none⟩) len yc ds)
    (L : List (List Int)) (hL0 : 0 < L.length) (hL1 : L.length ≤ 300) (hL2 : (L.getD 0 []).length ≤ 1000000) (cu : ∀ W : World, DigsAt W (some ⟨x, o, none⟩) q yc (ds.take q) → TextAt W a nt c t → Calls Tryd.prog 16 #[.int .i64 ((n : Int) - (k : Int)), .int .i64 ((i : Int) - (k : Int)), .slice a nt c, .slice (some ⟨x, o, none⟩) q yc] W fun e w' => ∃ v, e = .returned (.tuple #[v, .bool true]) ∧ TextsV L v w' ∧ Below W.heap.size W w') :
    Calls Tryd.prog 16 #[.int .i64 n, .int .i64 i, .slice a nt c, .slice (some ⟨x, o, none⟩) len yc] w fun e w' => ∃ v, e = .returned (.tuple #[v, .bool true]) ∧ TextsV (nodeX (ds.getD q []) (sumZ (L.getD 0 [])) :: L) v w' ∧ Below w.heap.size w w' := by
  obtain ⟨hk1, hk2⟩ := halfN_lt hn
  rw [hkk] at hk1 hk2
  have hn1 : ¬ ((n : Int) = 1) := by omega
  have hl0 : ¬ ((len : Int) = 0) := by omega
  have hw0 : wrap64 ((len : Int) - 1) = (len : Int) - 1 := by unfold wrap64; omega
  have hqc := hD.le
  obtain ⟨x0, o0, hxa, hx, hc⟩ := hD.at_ (by omega)
  cases hxa
  have Hc := hid (hc q (by omega))
  have DQ := hid (hD.head q (by omega))
  have HT := hid hT
  have hcut : ∀ W' : World, (Instr.slice 24 (.slice (some ⟨x, o, none⟩) len yc) none (some (.int .i64 ((len : Int) - 1))) none).run Tryd.prog W' = .ok (.slice (some ⟨x, o, none⟩) q yc) W' := fun W' => by
    have h := run_cutd_h (P := Tryd.prog) Tryd.underlying24 size_digest (some ⟨x, o, none⟩) len yc ((len : Int) - 1) W' (by omega) (by omega)
    rw [show ((len : Int) - 1).toNat = q by omega] at h
    exact h
  have CH := hid (fun W : World => (refhalf_any n n W (Nat.le_refl _) hn (by omega)).mono (fun e w' (h : e = .returned (.int .i64 (halfN n : Int)) ∧ w' = W) => show e = .returned (.int .i64 (halfN n : Int)) ∧ Below W.heap.size W w' from ⟨h.1, by rw [h.2]; exact Below.refl _ _⟩))
  rw [hkk] at CH
  have CU := hid cu
  have HY := hid (hD.get (j := q) (by omega))
  generalize ds.getD q [] = Y at *
  have CS := hid (fun (x : Option Addr) (l c : Nat) (W : World) (h : TextAt W x l c (L.getD 0 [])) (hl : l ≤ 1000000) => refsum_any x l c (L.getD 0 []) W h (by omega))
  have HX9 := hid (Dg.sum (L.getD 0 []))
  generalize sumZ (L.getD 0 []) = X9 at *
  have hikI : (k : Int) ≤ i := by omega
  have hw1 : wrap64 ((n : Int) - (k : Int)) = (n : Int) - (k : Int) := by unfold wrap64; omega
  have hw2 : wrap64 ((i : Int) - (k : Int)) = (i : Int) - (k : Int) := by unfold wrap64; omega
  clear cu hkk hc hD hT
  have Hb := hid (Below.refl w.heap.size w)
  go_enter Tryd.func16, Tryd.ntmps16
  go_wp2_with fail
  refine (CH.out _).mono ?_
  rintro e w1 ⟨rfl, bw1⟩
  have HBw1 := hid (Below.on Hb.out bw1)
  have hsw1 := HBw1.out.size
  clear bw1
  have Hcx : Hid (w1.rangeAt x (o + q * 32) (Y.map (Value.int .u8))) := hid (fun j v hv => (HBw1.out.cell (p := ⟨x, o + q * 32 + j, none⟩) hx).trans (Hc.out j v hv))
  go_wp2_with (first
     | (refine wpList_index_digs rfl 24 _ _ rfl Tryd.underlying24 size_digest x o len yc rfl _ _ rfl q (by omega) (by omega) ?_)
     | (refine wpList_load_mid rfl 23 _ rfl x (o + q * 32) rfl _ _ Hcx.out Tryd.underlying23 rfl (by rw [List.length_map, HY.out.len]; exact size_digest) ?_)
     | (
        refine wpList_store_blk rfl 23 _ _ rfl (w1.heap.size) (Y.map (Value.int .u8)).toArray rfl rfl _ 23 (Blk.new rfl (byteCells 32 []) _) 32 size_digest zsize HY.out.size (ints_one _ _) ?_
        intro w2 hbw2 hkw2
        have hw2 := hbw2.below ((Below.refl w1.heap.size w1).alloc (Nat.le_refl _) _) (by simp only [World.size_alloc]; omega) (Nat.le_refl _)
        have HBw2 := hid (Below.on HBw1.out hw2)
        have hsw2 := HBw2.out.size
        have Kow2 := hid hkw2
        have hfw2 : w.heap.size ≤ w1.heap.size := HBw1.out.size
        clear hbw2 hkw2 hw2))
  refine (CU.out _ (DQ.out.below HBw2.out) (HT.out.below HBw2.out)).mono ?_
  rintro e w3 ⟨v15, rfl, ⟨ra, rn, rc, rfl, hr⟩, bw3⟩
  have HBw3 := hid (Below.on HBw2.out bw3)
  have hsw3 := HBw3.out.size
  have Kow3 := hid (Kow2.out.below bw3)
  clear bw3
  have hrl := hr.length
  obtain ⟨gx, gy, xa, xl, xc, rfl, hgx, hxc, hxt⟩ := hr.at_ 0 (by omega)
  have HR := hid hr
  have hxl := hxt.length
  have HXT := hid hxt
  have hxc0 : w3.cell? ⟨gx, gy, none⟩ = some (.slice xa xl xc) := hxc
  clear hr hxt hxc
  go_wp2_with (refine wpList_index_s 1 (by first | rfl | go_simp) 31 _ _ rfl Tryd.underlying31 size_text gx gy rn rc rfl _ _ rfl 0 rfl (by omega) ?_)
  refine (CS.out xa xl xc w3 HXT.out (by omega)).mono ?_
  rintro e w4 ⟨rfl, bw4⟩
  have HBw4 := hid (Below.on HBw3.out bw4)
  have hsw4 := HBw4.out.size
  have Kow4 := hid (Kow3.out.below bw4)
  have HQ := hid bw4
  clear bw4
  go_wp2_with (first
     | (
        refine wpList_store_blk rfl 23 _ _ rfl (w4.heap.size) (X9.map (Value.int .u8)).toArray rfl rfl _ 23 (Blk.new rfl (byteCells 32 []) _) 32 size_digest zsize HX9.out.size (ints_one _ _) ?_
        intro w5 hbw5 hkw5
        have hw5 := hbw5.below ((Below.refl w4.heap.size w4).alloc (Nat.le_refl _) _) (by simp only [World.size_alloc]; omega) (Nat.le_refl _)
        have HBw5 := hid (Below.on HBw4.out hw5)
        have hsw5 := HBw5.out.size
        have Kow5 := hid (Kow4.out.below hw5)
        have hlow5 := Kow4.out.lt
        have Kxw5 := hid hkw5
        have hfw5 : w.heap.size ≤ w4.heap.size := HBw4.out.size
        have HRw5 := hid ((HR.out.below HQ.out).below hw5)
        clear hbw5 hkw5 hw5)
     | (refine wpList_load_blk rfl 23 _ rfl (w4.heap.size) rfl _ 23 Kxw5.out _ Tryd.underlying23 rfl 32 size_digest HX9.out.size ?_)
     | (refine wpList_load_blk rfl 23 _ rfl (w1.heap.size) rfl _ 23 Kow5.out _ Tryd.underlying23 rfl 32 size_digest HY.out.size ?_))
  refine (refpair_any X9 Y _ HX9.out HY.out).mono ?_
  rintro e w6 ⟨p1, pc1, rfl, hp1, bw6⟩
  have HBw6 := hid (Below.on HBw5.out bw6)
  have hsw6 := HBw6.out.size
  have Kow6 := hid (Kow5.out.below bw6)
  have Kxw6 := hid (Kxw5.out.below bw6)
  have HRw6 := hid (HRw5.out.below bw6)
  have HP1 := hid hp1
  clear hp1
  clear bw6
  go_wp2_with (first
     | (refine wpList_load_blk rfl 23 _ rfl (w1.heap.size) rfl _ 23 Kow6.out _ Tryd.underlying23 rfl 32 size_digest HY.out.size ?_)
     | (refine wpList_load_blk rfl 23 _ rfl (w4.heap.size) rfl _ 23 Kxw6.out _ Tryd.underlying23 rfl 32 size_digest HX9.out.size ?_))
  refine (refpair_any Y X9 _ HY.out HX9.out).mono ?_
  rintro e w7 ⟨p2, pc2, rfl, hp2, bw7⟩
  have HBw7 := hid (Below.on HBw6.out bw7)
  have hsw7 := HBw7.out.size
  have Kow7 := hid (Kow6.out.below bw7)
  have Kxw7 := hid (Kxw6.out.below bw7)
  have HRw7 := hid (HRw6.out.below bw7)
  have HP2 := hid hp2
  clear hp2
  clear bw7
  have KB := hid (Blk.new (w := w7) (n := w7.heap.size) rfl #[.slice p2 65 pc2] 29)
  have HPA := hid (TextAt.below HP2.out ((Below.refl _ _).alloc (Nat.le_refl _) (.cells #[.slice p2 65 pc2] 29 (0, 0))))
  have HRA := hid (TextsAt.below HRw7.out ((Below.refl _ _).alloc (Nat.le_refl _) (.cells #[.slice p2 65 pc2] 29 (0, 0))))
  have HBA := hid (HBw7.out.alloc HBw7.out.size (.cells #[.slice p2 65 pc2] 29 (0, 0)))
  go_wp2_with (at_builtin; refine wpList_append_ahead rfl _ _ rfl rfl KB.out HPA.out HRA.out (by omega) rfl rfl ?_)
  intro a9 c9 w9 hr9 b9
  have HR9 := hid hr9
  have HB9 := hid (HBA.out.trans (b9.mono (by have := HBw7.out.size; omega)))
  clear hr9 b9
  go_wp2_with fail
  go_returns
  exact ⟨_, rfl, ⟨_, _, _, rfl, HR9.out⟩, HB9.out⟩
end Go.Proofs.YtkakoiaahgchmaaDoor
namespace Go.Proofs.YtkakoiaahgchmaaDoor
set_option maxRecDepth 100000
open Go.ChangeShapes Go.WideShapes Go.ChangeAt Go.RowKit
theorem trail_head (m : List Int) (l : List StepT) : sumZ ((((m :: trailF (sumZ m) l)).reverse).getD 0 []) = topF (sumZ m) l := by
  rcases List.eq_nil_or_concat l with rfl | ⟨l', ⟨s, b⟩, rfl⟩
  · rfl
  · rw [List.concat_eq_append, trailF_snoc, topF_snoc, ← List.cons_append, List.reverse_append]
    simp only [List.reverse_cons, List.reverse_nil, List.nil_append, List.singleton_append, List.getD_cons_zero]
    cases b
    · exact (nodeL_nodeX _ _).symm
    · exact (nodeL_nodeX _ _).symm
theorem leafL_sum (t : List Int) : leafL t = sumZ (0 :: t) := by unfold leafL; rfl
theorem textT_head (t : List Int) (n i : Nat) (ds : List (List Int)) : sumZ ((textT t n i ds).getD 0 []) = topF (leafL t) (ds.zip (sidesF n n i).reverse) := by
  unfold textT
  rw [leafL_sum]
  exact trail_head _ _
theorem textT_length (t : List Int) (n i : Nat) (ds : List (List Int)) (h : ds.length = (sidesF n n i).length) : (textT t n i ds).length = ds.length + 1 := by
  unfold textT
  rw [List.length_reverse, List.length_cons, trailF_length, List.length_zip, List.length_reverse, ← h, Nat.min_self]
theorem textT_one (t : List Int) (i : Nat) : textT t 1 i [] = [0 :: t] := by
  unfold textT
  rfl
theorem textT_step {t : List Int} {n i n2 i2 : Nat} {b : Bool} {ds : List (List Int)} (hs : sidesF n n i = b :: sidesF n2 n2 i2) (h : ds.length = (sidesF n n i).length) :
    textT t n i ds = (if b then nodeX (ds.getD (ds.length - 1) []) (sumZ ((textT t n2 i2 (ds.take (ds.length - 1))).getD 0 [])) else nodeX (sumZ ((textT t n2 i2 (ds.take (ds.length - 1))).getD 0 [])) (ds.getD (ds.length - 1) [])) :: textT t n2 i2 (ds.take (ds.length - 1)) := by
  rw [hs, List.length_cons] at h
  rw [textT_head]
  unfold textT
  have e : ds.zip (sidesF n n i).reverse = (ds.take (ds.length - 1)).zip (sidesF n2 n2 i2).reverse ++ [(ds.getD (ds.length - 1) [], b)] := by
    have hz := zip_rev_snoc (ds := ds) (L := sidesF n2 n2 i2) b (by omega)
    rw [show ds.length - 1 = (sidesF n2 n2 i2).length by omega, ← hz, hs, List.reverse_cons, List.take_of_length_le (by omega)]
  rw [e, trailF_snoc, ← List.cons_append, List.reverse_append]
  rfl
theorem textT_hsmall {w : World} {ya : Option Addr} {len yc q : Nat} {ds : List (List Int)} {a : Option Addr} {nt c : Nat} {t : List Int} (hD : DigsAt w ya len yc ds) (hT : TextAt w a nt c t) (hnt : nt ≤ 1000) (n i : Nat) : ((textT t n i (ds.take q)).getD 0 []).length ≤ 1000000 := by
  rcases Nat.eq_zero_or_pos (textT t n i (ds.take q)).length with h | h
  · rw [List.length_eq_zero_iff.1 h]; simp
  · have hm := textT_small (m := t) (n := n) (i := i) (ds := ds.take q) (fun d hd => hD.each d (List.mem_of_mem_take hd)) _ (List.getElem_mem h)
    rw [List.getD_eq_getElem?_getD, List.getElem?_eq_getElem h]
    have := hT.length
    simp only [Option.getD_some]
    omega
/-- The document's trail of a text. -/
theorem reftext_any (a : Option Addr) (nt c : Nat) (t : List Int) (hnt : nt ≤ 1000) (f : Nat) : ∀ (n i : Nat) (ya : Option Addr) (len yc : Nat) (ds : List (List Int)) (w : World), 1 ≤ n → n ≤ f → n ≤ 200 → i < n → len ≤ 1000000 → TextAt w a nt c t → DigsAt w ya len yc ds →
    Calls Tryd.prog 16 #[.int .i64 n, .int .i64 i, .slice a nt c, .slice ya len yc] w fun e w' => ∃ v, e = .returned (.tuple #[v, .bool (decide (ds.length = (sidesF n n i).length))]) ∧ (ds.length = (sidesF n n i).length → TextsV (textT t n i ds) v w') ∧ Below w.heap.size w w' := by
  induction f with
  | zero => intro n i ya len yc ds w h1 h2; omega
  | succ f ih =>
    intro n i ya len yc ds w h1 h2 h3 h4 h5 hT hD
    have hl := hD.length
    rcases Nat.eq_or_lt_of_le h1 with rfl | hlt
    · refine (reftext_one i a nt c t ya len yc w hT hnt).mono ?_
      rintro e w' ⟨v, rfl, hv, hb⟩
      rw [sidesF_one]
      refine ⟨v, ?_, fun h => ?_, hb⟩
      · rw [show ((len : Int) == 0) = decide (ds.length = ([] : List Bool).length) by rw [hl]; by_cases h : len = 0 <;> simp [h]]
      · obtain rfl := List.length_eq_zero_iff.1 (show ds.length = 0 from h)
        rw [textT_one]
        exact hv
    · obtain ⟨hk1, hk2⟩ := halfN_lt (n := n) hlt
      rcases Nat.eq_zero_or_pos len with rfl | hp
      · obtain rfl := List.length_eq_zero_iff.1 hl
        have hne : ¬ (([] : List (List Int)).length = (sidesF n n i).length) := by
          by_cases hik : i < halfN n
          · rw [sidesF_left hlt hik]; simp
          · rw [sidesF_right hlt hik]; simp
        rw [decide_eq_false hne]
        refine (reftext_nil n i a nt c ya yc w (by omega)).mono ?_
        rintro e w' ⟨rfl, hb⟩
        exact ⟨_, rfl, fun h => absurd h hne, hb⟩
      · obtain ⟨x, o, rfl, hx, hc⟩ := hD.at_ hp
        have htl : (ds.take (len - 1)).length = len - 1 := by rw [List.length_take, hl]; omega
        by_cases hik : i < halfN n
        · have hs := sidesF_left hlt hik
          have hcu := fun (W : World) (hW : DigsAt W (some ⟨x, o, none⟩) (len - 1) yc (ds.take (len - 1))) (hTW : TextAt W a nt c t) => ih (halfN n) i _ (len - 1) yc _ W hk1 (by omega) (by omega) hik (by omega) hTW hW
          by_cases hok : ds.length = (sidesF n n i).length
          · have hok2 : (ds.take (len - 1)).length = (sidesF (halfN n) (halfN n) i).length := by rw [hs, List.length_cons] at hok; omega
            have hst := textT_step (t := t) hs hok
            rw [hl] at hst
            rw [decide_eq_true hok]
            refine (reftext_l_yes n i (halfN n) (len - 1) len a nt c t x o yc ds w hT hlt h3 h4 rfl hik (by omega) (by omega) h5 hD (textT t (halfN n) i (ds.take (len - 1))) (by rw [textT_length t _ _ _ hok2]; omega) (by rw [textT_length t _ _ _ hok2]; have := sidesF_length (halfN n) (halfN n) i (Nat.le_refl _) hk1; omega) (textT_hsmall hD hT hnt _ _) (fun W hW hTW => (hcu W hW hTW).mono ?_)).mono ?_
            · rintro e w' ⟨v, rfl, hv, hb⟩
              rw [decide_eq_true hok2]
              exact ⟨v, rfl, hv hok2, hb⟩
            · rintro e w' ⟨v, rfl, hv, hb⟩
              exact ⟨v, rfl, fun _ => by rw [hst]; exact hv, hb⟩
          · have hok2 : ¬ (ds.take (len - 1)).length = (sidesF (halfN n) (halfN n) i).length := by rw [hs, List.length_cons] at hok; omega
            rw [decide_eq_false hok]
            refine (reftext_l_no n i (halfN n) (len - 1) len a nt c t x o yc ds w hT hlt h3 h4 rfl hik (by omega) (by omega) h5 hD (fun W hW hTW => (hcu W hW hTW).mono ?_)).mono ?_
            · rintro e w' ⟨v, rfl, hv, hb⟩
              rw [decide_eq_false hok2]
              exact ⟨v, rfl, hb⟩
            · rintro e w' ⟨rfl, hb⟩
              exact ⟨_, rfl, fun h => absurd h hok, hb⟩
        · have hs := sidesF_right hlt hik
          have hcu := fun (W : World) (hW : DigsAt W (some ⟨x, o, none⟩) (len - 1) yc (ds.take (len - 1))) (hTW : TextAt W a nt c t) => ih (n - halfN n) (i - halfN n) _ (len - 1) yc _ W (by omega) (by omega) (by omega) (by omega) (by omega) hTW hW
          rw [show ((n - halfN n : Nat) : Int) = (n : Int) - (halfN n : Int) by omega, show ((i - halfN n : Nat) : Int) = (i : Int) - (halfN n : Int) by omega] at hcu
          by_cases hok : ds.length = (sidesF n n i).length
          · have hok2 : (ds.take (len - 1)).length = (sidesF (n - halfN n) (n - halfN n) (i - halfN n)).length := by rw [hs, List.length_cons] at hok; omega
            have hst := textT_step (t := t) hs hok
            rw [hl] at hst
            rw [decide_eq_true hok]
            refine (reftext_r_yes n i (halfN n) (len - 1) len a nt c t x o yc ds w hT hlt h3 h4 rfl hik (by omega) (by omega) h5 hD (textT t (n - halfN n) (i - halfN n) (ds.take (len - 1))) (by rw [textT_length t _ _ _ hok2]; omega) (by rw [textT_length t _ _ _ hok2]; have := sidesF_length (n - halfN n) (n - halfN n) (i - halfN n) (Nat.le_refl _) (by omega); omega) (textT_hsmall hD hT hnt _ _) (fun W hW hTW => (hcu W hW hTW).mono ?_)).mono ?_
            · rintro e w' ⟨v, rfl, hv, hb⟩
              rw [decide_eq_true hok2]
              exact ⟨v, rfl, hv hok2, hb⟩
            · rintro e w' ⟨v, rfl, hv, hb⟩
              exact ⟨v, rfl, fun _ => by rw [hst]; exact hv, hb⟩
          · have hok2 : ¬ (ds.take (len - 1)).length = (sidesF (n - halfN n) (n - halfN n) (i - halfN n)).length := by rw [hs, List.length_cons] at hok; omega
            rw [decide_eq_false hok]
            refine (reftext_r_no n i (halfN n) (len - 1) len a nt c t x o yc ds w hT hlt h3 h4 rfl hik (by omega) (by omega) h5 hD (fun W hW hTW => (hcu W hW hTW).mono ?_)).mono ?_
            · rintro e w' ⟨v, rfl, hv, hb⟩
              rw [decide_eq_false hok2]
              exact ⟨v, rfl, hb⟩
            · rintro e w' ⟨rfl, hb⟩
              exact ⟨_, rfl, fun h => absurd h hok, hb⟩
end Go.Proofs.YtkakoiaahgchmaaDoor
namespace Go.Proofs.YtkakoiaahgchmaaDoor
set_option maxRecDepth 100000
open Go.ChangeShapes Go.WideShapes Go.ChangeAt Go.RowKit
set_option maxHeartbeats 4000000 in
theorem refsameT_any (a1 a2 : Option Addr) (n c1 c2 : Nat) (ts : List (List Int)) (w : World) (hT : TextsAt w a1 n c1 ts) (hU : TextsAt w a2 n c2 ts) :
    Calls Tryd.prog 12 #[.slice a1 n c1, .slice a2 n c2] w fun e w' => e = .returned (.bool true) ∧ Below w.heap.size w w' := by
  have Hb := hid (Below.refl w.heap.size w)
  have HT := hid hT
  have HU := hid hU
  have hm1 := hT.max
  have hm2 := hU.max
  have hc1 := hT.le
  have hc2 := hU.le
  have t1 : ((n : Int) != (n : Int)) = false := by simp
  clear hT hU
  go_enter Tryd.func12, Tryd.ntmps12
  go_wp2_with fail
  go_loopw [5] (fun iv wr => ∃ k : Nat, k ≤ n ∧ iv = .int .i64 k ∧ Below w.heap.size w wr) (fun iv _ => n - (intOf iv).toNat)
  case atStart => exact ⟨0, Nat.zero_le _, rfl, Hb.out⟩
  case round =>
    obtain ⟨k, hk, rfl, bel⟩ := hrel
    have HBwr := hid bel
    clear bel
    by_cases hcj : k < n
    · skip
      have hcI : (k : Int) < (n : Int) := by omega
      obtain ⟨x, xo, xa, xl, xc, rfl, hx, hxc, hxt⟩ := HT.out.at_ k (by omega)
      obtain ⟨y, yo, ya, yl, yc, rfl, hy, hyc, hyt⟩ := HU.out.at_ k (by omega)
      have HXT := hid hxt
      have HYT := hid hyt
      generalize ts.getD k [] = tk at *
      clear hxt hyt
      go_wp2_with fail
      refine wp_region_flow 11 (List.range 11) [] [] (by kernel_rfl) (by kernel_rfl) ?_
      apply Exists.intro
      refine ⟨fun w0 hb0 hF0 => ?_, ?_⟩
      · skip
        have v0 := conv_str (HXT.out.below (Below.on HBwr.out hb0))
        have v1 := conv_str (HYT.out.below (Below.on HBwr.out hb0))
        have y0 : ∀ w', (∃ x : Ext w0, w' = x.at_) → w'.cell? ⟨x, xo + k, none⟩ = some (.slice xa xl xc) := fun w' ⟨e, he⟩ => he ▸ ((Below.on HBwr.out (Below.on hb0 e.same)).cell (p := ⟨x, xo + k, none⟩) hx).trans hxc
        have y1 : ∀ w', (∃ x : Ext w0, w' = x.at_) → w'.cell? ⟨y, yo + k, none⟩ = some (.slice ya yl yc) := fun w' ⟨e, he⟩ => he ▸ ((Below.on HBwr.out (Below.on hb0 e.same)).cell (p := ⟨y, yo + k, none⟩) hy).trans hyc
        simp only [pick, List.range, List.range.loop, List.getElem?_toArray, List.getElem?_cons_succ, List.getElem?_cons_zero, Option.toList_some, List.cons_append, List.nil_append]
        repeat (first | (go_big_quiet_want; refine quiet_index_s 1 31 _ _ rfl Tryd.underlying31 size_text x xo n c1 rfl _ _ rfl k rfl (by omega) ?_; go_big_quiet_on; simp only [Act.put, List.setIfInBounds_toArray, List.set_cons_zero, List.set_cons_succ]) | (go_big_quiet_want; refine quiet_load_one 29 _ rfl ⟨x, xo + k, none⟩ rfl _ y0 _ Tryd.underlying29 rfl ?_; go_big_quiet_on; simp only [Act.put, List.setIfInBounds_toArray, List.set_cons_zero, List.set_cons_succ]) | (go_big_quiet_want; refine quiet_index_s 1 31 _ _ rfl Tryd.underlying31 size_text y yo n c2 rfl _ _ rfl k rfl (by omega) ?_; go_big_quiet_on; simp only [Act.put, List.setIfInBounds_toArray, List.set_cons_zero, List.set_cons_succ]) | (go_big_quiet_want; refine quiet_load_one 29 _ rfl ⟨y, yo + k, none⟩ rfl _ y1 _ Tryd.underlying29 rfl ?_; go_big_quiet_on; simp only [Act.put, List.setIfInBounds_toArray, List.set_cons_zero, List.set_cons_succ]) | go_big_quiet_step (fail))
        exact wpQuiet_nil rfl
      refine AlChk.nil ?_
      refine Walk.fin fun w31 hw31 _ _ => ?_
      simp only [List.drop_succ_cons, List.drop_zero]
      have HBw31 := hid (Below.on HBwr.out hw31)
      have hsw31 := HBw31.out.size
      clear hw31
      go_wp2_with fail
      exact ⟨⟨k + 1, by omega, by first | rfl | simp, HBw31.out⟩, by simp [intOf]; omega⟩
    · skip
      have hke : k = n := by omega
      subst hke
      go_wp2_with fail
      go_returns
      exact ⟨rfl, HBwr.out⟩
end Go.Proofs.YtkakoiaahgchmaaDoor
namespace Go.Proofs.YtkakoiaahgchmaaDoor
set_option maxRecDepth 100000
open Go.ChangeShapes Go.WideShapes Go.ChangeAt Go.RowKit
theorem results_tbt {P : Program} {w : World} {fn : Func} {r p u : Tmp} {ty : TypeId} (h : fn.results = #[.tmp r, .cell p ty, .tmp u]) (tmps : Array Value) (b : Nat) (y : Value) (hy : tmps.getD r undef = y) (hp : tmps.getD p undef = .pointer (some ⟨b, 0, none⟩)) (v : Value) (hv : tmps.getD u undef = v) (cs : Array Value) (T : TypeId) (hk : Blk w b cs T)
    (d : TypeDesc) (hu : P.underlying ty = some d) (hd : d.isRow = true) (n : Nat) (hi : (P.info? ty).map (·.size) = some n) (hs : cs.size = n) : (results fn tmps).run P w = .ok (.tuple #[y, .agg cs, v]) w := by
  have hy' : tmps[r]?.getD undef = y := by simpa using hy
  have hp' : tmps[p]?.getD undef = .pointer (some ⟨b, 0, none⟩) := by simpa using hp
  have hv' : tmps[u]?.getD undef = v := by simpa using hv
  have hl := run_loadVar_row (P := P) w b T ty cs (0, 0) d hk hu (by cases d <;> simp_all) (by rw [hi, hs])
  simp [results, h, hy', hp', hv', asAddr, hl]
/-- Texts in memory from a block on. -/
structure TextsHi (w : World) (base : Nat) (a : Option Addr) (len cap : Nat) (ts : List (List Int)) : Prop where
  length : ts.length = len
  le : len ≤ cap
  max : cap ≤ 9223372036854775807
  mem : len = 0 ∨ ∃ x o, a = some ⟨x, o, none⟩ ∧ base ≤ x ∧ x < w.heap.size ∧ ∀ j, j < len → ∃ a' l' c', w.cell? ⟨x, o + j, none⟩ = some (.slice a' l' c') ∧ TextAt w a' l' c' (ts.getD j []) ∧ ∀ p : Addr, a' = some p → base ≤ p.block
theorem TextsHi.texts {w : World} {base : Nat} {a : Option Addr} {len cap : Nat} {ts : List (List Int)} (h : TextsHi w base a len cap ts) : TextsAt w a len cap ts := by
  obtain ⟨h1, h2, h3, h | ⟨x, o, rfl, hb, hx, hc⟩⟩ := h
  · exact ⟨h1, h2, h3, .inl h⟩
  · exact ⟨h1, h2, h3, .inr ⟨x, o, rfl, hx, fun j hj => by obtain ⟨a', l', c', q1, q2, _⟩ := hc j hj; exact ⟨a', l', c', q1, q2⟩⟩⟩
theorem TextsHi.below {w w' : World} {base : Nat} {a : Option Addr} {len cap : Nat} {ts : List (List Int)} (h : TextsHi w base a len cap ts) (hb : Below w.heap.size w w') : TextsHi w' base a len cap ts := by
  obtain ⟨h1, h2, h3, h | ⟨x, o, rfl, hB, hx, hc⟩⟩ := h
  · exact ⟨h1, h2, h3, .inl h⟩
  · refine ⟨h1, h2, h3, .inr ⟨x, o, rfl, hB, Nat.lt_of_lt_of_le hx hb.size, fun j hj => ?_⟩⟩
    obtain ⟨a', l', c', q1, q2, q3⟩ := hc j hj
    exact ⟨a', l', c', (hb.cell (p := ⟨x, o + j, none⟩) hx).trans q1, q2.below hb, q3⟩
theorem TextsHi.mono {w : World} {base low : Nat} {a : Option Addr} {len cap : Nat} {ts : List (List Int)} (h : TextsHi w base a len cap ts) (hl : low ≤ base) : TextsHi w low a len cap ts := by
  obtain ⟨h1, h2, h3, h | ⟨x, o, rfl, hB, hx, hc⟩⟩ := h
  · exact ⟨h1, h2, h3, .inl h⟩
  · refine ⟨h1, h2, h3, .inr ⟨x, o, rfl, Nat.le_trans hl hB, hx, fun j hj => ?_⟩⟩
    obtain ⟨a', l', c', q1, q2, q3⟩ := hc j hj
    exact ⟨a', l', c', q1, q2, fun p hp => Nat.le_trans hl (q3 p hp)⟩
theorem TextsHi.but {w w' : World} {base b : Nat} {a : Option Addr} {len cap : Nat} {ts : List (List Int)} (h : TextsHi w base a len cap ts) (hb : But b w w') (hl : b < base) : TextsHi w' base a len cap ts := by
  obtain ⟨h1, h2, h3, h | ⟨x, o, rfl, hB, hx, hc⟩⟩ := h
  · exact ⟨h1, h2, h3, .inl h⟩
  · refine ⟨h1, h2, h3, .inr ⟨x, o, rfl, hB, Nat.lt_of_lt_of_le hx hb.size, fun j hj => ?_⟩⟩
    obtain ⟨a', l', c', q1, q2, q3⟩ := hc j hj
    refine ⟨a', l', c', ?_, q2.but hb (fun _ p hp e => by have := q3 p hp; omega), q3⟩
    rw [← q1]
    unfold World.cell?
    rw [show w'.heap[x]? = w.heap[x]? from hb.block x hx (by omega)]
/-- A row of texts is copied behind a text: the new row is the call's own. -/
theorem run_append_aheadH {w : World} {base b : Nat} {ta : Option Addr} {tl tc : Nat} {t : List Int} {a : Option Addr} {n c : Nat} {ts : List (List Int)} (hk : Blk w b #[.slice ta tl tc] 29) (hT : TextAt w ta tl tc t) (hR : TextsHi w base a n c ts) (hn : n ≤ 1000) (hb0 : base ≤ b) (ht0 : ∀ p : Addr, ta = some p → base ≤ p.block) :
    ∃ a' c' w', (Builtin.append_ #[31, 31] 31 #[.slice (some ⟨b, 0, none⟩) 1 1, .slice a n c]).run Tryd.prog w = .ok (.slice a' (n + 1) c') w' ∧ TextsHi w' base a' (n + 1) c' (t :: ts) ∧ Below w.heap.size w w' := by
  obtain ⟨i0, hi, hz0, hz1, hz2⟩ := info_parts info_text
  have hlen := hR.length
  rcases Nat.eq_zero_or_pos n with h0 | h0
  · subst h0
    have e : ts = [] := List.length_eq_zero_iff.1 hlen
    subst e
    refine ⟨some ⟨b, 0, none⟩, 1, w, ?_, ⟨rfl, Nat.le_refl _, by omega, .inr ⟨b, 0, rfl, hb0, hk.lt, fun j hj => ?_⟩⟩, Below.refl _ _⟩
    · cases a with
      | none => simp [Builtin.append_, run_underlying Tryd.underlying31, sizeOf, typeInfo, hi, Builtin.lenOf, Builtin.firstCells, storeCells]
      | some p =>
        have := run_append_room_cells (P := Tryd.prog) w 31 31 29 i0 Tryd.underlying31 hi b 0 1 1 p 0 c [] (by simp) (by simp) (by simp) (by omega) (by simp) (by simp)
        simpa [World.setCells] using this
    · have : j = 0 := by omega
      subst this
      exact ⟨ta, tl, tc, by rw [hk.cell]; rfl, hT, ht0⟩
  · obtain ⟨l1, l2, l3, l4 | ⟨x, o, rfl, hB, hx, hc⟩⟩ := hR
    · omega
    · have hex : ∀ j : Nat, ∃ v : Value, j < n → w.cell? ⟨x, o + j, none⟩ = some v ∧ ∃ a' l' c', v = .slice a' l' c' ∧ TextAt w a' l' c' (ts.getD j []) ∧ ∀ p : Addr, a' = some p → base ≤ p.block := fun j => by
        by_cases h : j < n
        · obtain ⟨a', l', c', q1, q2, q3⟩ := hc j h
          exact ⟨_, fun _ => ⟨q1, a', l', c', rfl, q2, q3⟩⟩
        · exact ⟨.bool false, fun h2 => absurd h2 h⟩
      obtain ⟨f, hf⟩ := Classical.axiomOfChoice hex
      have hfl : ((List.range n).map f).length = n := by simp
      obtain ⟨v', w', h1, h2, h3⟩ := run_append_arg_grows (P := Tryd.prog) w 31 31 29 i0 _ 1 24 Tryd.underlying31 hi hz0 hz1 hz2 rfl (by omega) ⟨b, 0, none⟩ 1 1 [.slice ta tl tc] rfl
        (fun j u hj => by
          have hj0 : j = 0 := by have := (List.getElem?_eq_some_iff.1 hj).1; simp at this; omega
          subst hj0
          rw [Addr.add_mid, hk.cell]
          simpa using hj) ⟨x, o, none⟩ n c ((List.range n).map f) (by rw [hfl, Nat.mul_one])
        (fun j u hj => by
          have hjn : j < n := by have := (List.getElem?_eq_some_iff.1 hj).1; rw [hfl] at this; exact this
          rw [List.getElem?_map, List.getElem?_range hjn] at hj
          cases hj
          rw [Addr.add_lit]; exact (hf j hjn).1) (by omega) (by unfold maxLen; omega) (by omega)
      have hb : Below w.heap.size w w' := ⟨h3.os, h3.tape, h3.output, h3.size, fun k hk => h3.block k (by omega) (fun e => by cases e)⟩
      have h2' : OwnV w' w.heap.size 29 v' (.slice ta tl tc :: (List.range n).map f) := by
        refine ⟨?_, fun u hu => ?_⟩
        · have e : (Value.slice ta tl tc :: (List.range n).map f).length = 1 + n := by rw [List.length_cons, hfl]; omega
          rw [e]; exact h2
        · rcases List.mem_cons.1 hu with h | h
          · rw [h]; rfl
          · obtain ⟨j, hj, rfl⟩ := List.mem_map.1 h
            obtain ⟨_, a', l', c', e, _⟩ := hf j (List.mem_range.1 hj)
            rw [e]; rfl
      obtain ⟨a', c', rfl, q1, q2, q3, q4, q5⟩ := h2'.slice
      have el : (Value.slice ta tl tc :: (List.range n).map f).length = n + 1 := by rw [List.length_cons, hfl]
      rw [el] at h1 q3 q5
      refine ⟨a', c', w', h1, ?_, hb⟩
      refine ⟨by simp [hlen], q3, q4, ?_⟩
      cases a' with
      | none => exact absurd (q2 rfl) (by simp)
      | some p =>
        obtain ⟨g, rfl, hg⟩ := q1 p rfl
        obtain ⟨q6, q7⟩ := q5 g rfl
        refine .inr ⟨g, 0, rfl, Nat.le_trans (Nat.le_trans hb0 (Nat.le_of_lt hk.lt)) hg, q6, fun j hj => ?_⟩
        rw [Nat.zero_add, q7 j hj]
        cases j with
        | zero => exact ⟨ta, tl, tc, rfl, hT.below hb, ht0⟩
        | succ j =>
          obtain ⟨_, a2, l2, c2, e, q8, q9⟩ := hf j (by omega)
          refine ⟨a2, l2, c2, ?_, q8.below hb, q9⟩
          rw [List.getElem?_cons_succ, List.getElem?_map, List.getElem?_range (by omega)]
          rw [← e]; rfl
set_option maxHeartbeats 4000000 in
theorem refpair_hi (a b : List Int) (w : World) (ha : Dg a) (hb_ : Dg b) :
    Calls Tryd.prog 41 #[.agg (a.map (Value.int .u8)).toArray, .agg (b.map (Value.int .u8)).toArray] w fun e w' => ∃ p c, e = .returned (.slice p 65 c) ∧ TextAt w' p 65 c (nodeX a b) ∧ (∀ q : Addr, p = some q → w.heap.size ≤ q.block) ∧ Below w.heap.size w w' := by
  have b1 := (Below.refl w.heap.size w).alloc (Nat.le_refl _) (.cells (a.map (Value.int .u8)).toArray 23 (0, 0))
  have b2 := b1.alloc b1.size (.cells (b.map (Value.int .u8)).toArray 23 (0, 0))
  have Ka := hid ((Blk.new (w := w) (n := w.heap.size) rfl (a.map (Value.int .u8)).toArray 23).old (.cells (b.map (Value.int .u8)).toArray 23 (0, 0)))
  have Kb := hid (Blk.new (w := (w.alloc (.cells (a.map (Value.int .u8)).toArray 23 (0, 0)))) (n := w.heap.size + 1) (by simp only [World.size_alloc]) (b.map (Value.int .u8)).toArray 23)
  have Hb := hid b2
  have hbz := b2.size
  have Hbs := hid (show w.heap.size + 1 + 1 = ((w.alloc (.cells (a.map (Value.int .u8)).toArray 23 (0, 0))).alloc (.cells (b.map (Value.int .u8)).toArray 23 (0, 0))).heap.size by simp only [World.size_alloc])
  clear b1 b2 
  go_enter Tryd.func41, Tryd.ntmps41
  go_wp2_with fail
  have HBB : Hid (w.heap.size + 1 + 1 ≤ ((w.alloc (.cells (a.map (Value.int .u8)).toArray 23 (0, 0))).alloc (.cells (b.map (Value.int .u8)).toArray 23 (0, 0))).heap.size) := hid (Nat.le_of_eq Hbs.out)
  obtain ⟨i0, hi, hz0, hz1, hz2⟩ := info_parts info_byte
  refine FlowB.wp_region_typed (w.heap.size + 1 + 1) 5 4 [1, 3] [] [(.c 0, [], []), (.c 2, [], [])] (by kernel_rfl) (by kernel_rfl) ?_
  apply Exists.intro
  refine ⟨fun w0 hb0 hF0 => ?_, ?_⟩
  · simp only [pick, List.getElem?_toArray, List.getElem?_cons_succ, List.getElem?_cons_zero, Option.toList_some, List.cons_append, List.nil_append]
    repeat (go_big_quiet_step (fail))
    exact wpQuiet_nil rfl
  refine FlowB.AlChk.nil ?_
  refine FlowB.Walk.does rfl (fun _ _ => True) (fun v w' => OwnB w' (w.heap.size + 1 + 1) 5 v [1]) (fun v w' w'' _ h _ => h) (fun v w' w'' h k => h.below k) rfl (fun w5 hb5 hF5 _ => ?_) ?_
  · exact ⟨.slice (some ⟨w5.heap.size, 0, none⟩) 1 1, w5.alloc (.cells (([1] : List Int).map (Value.int .u8)).toArray 5), by first | (go_simp; done) | (go_simp; rfl), (FlowB.rel_typed _ _).of ((Below.refl _ _).alloc (Nat.le_refl _) _), trivial, OwnB.of_blk (Blk.new rfl _ _) (Nat.le_trans HBB.out hb5.size) rfl (by omega) (by simp)⟩
  rintro vl w5 hb5 hF5 _
  apply Exists.intro
  refine ⟨fun w4 hb4 hF4 => wpQuiet_nil rfl, ?_⟩
  refine FlowB.AlChk.nil ?_
  refine FlowB.Walk.does rfl (fun _ _ => True) (fun v w' => OwnB w' (w.heap.size + 1 + 1) 5 v ([1] ++ a)) (fun v w' w'' _ h _ => h) (fun v w' w'' h k => h.below k) rfl (fun w2 hb2 hF2 hG2 => ?_) ?_
  · have hbB := hb2.below (B := w.heap.size + 1 + 1) HBB.out
    obtain ⟨v', w', hr, q2, q3, q4⟩ := run_append_text (P := Tryd.prog) 29 Tryd.underlying29 hi hz0 hz1 hz2 hG2 (ha.text (Ka.out.belowB (by omega) hbB)) (by simp) (Nat.le_trans HBB.out hb2.size)
    exact ⟨v', w', FlowB.exec_append rfl rfl rfl hr, hG2.typed (Nat.le_refl _) q3, trivial, q2⟩
  rintro v3 w3 hb3 hF3 _
  apply Exists.intro
  refine ⟨fun w2 hb2 hF2 => wpQuiet_nil rfl, ?_⟩
  refine FlowB.AlChk.nil ?_
  refine FlowB.Walk.fin fun w4 h4 _ hG4 => ?_
  simp only [List.drop_succ_cons, List.drop_zero]
  have hbB := h4.below (B := w.heap.size + 1 + 1) HBB.out
  have Kb4 := hid (Kb.out.belowB (by omega) hbB)
  have Hb4 := hid (Hb.out.trans (hbB.mono (by omega)))
  have Ho4 := hid (show OwnB w4 (w.heap.size + 1 + 1) 5 v3 ([1] ++ a) from hG4)
  have hsz4 : w.heap.size + 1 + 1 ≤ w4.heap.size := Nat.le_trans HBB.out h4.size
  clear h4 hG4 hbB Ka Hb
  go_wp2_with (at_builtin; refine wpList_append_text rfl _ _ rfl Tryd.underlying29 hi hz0 hz1 hz2 rfl Ho4.out rfl (hb_.text Kb4.out) (by rw [List.length_append, ha.len]; simp) hsz4 ?_)
  intro v5 w5 own5 _ b5
  obtain ⟨a5, c5, rfl, hT5, hq5⟩ := own5.text
  have hq6 : ∀ q : Addr, a5 = some q → w.heap.size ≤ q.block := fun q hq => by
    rcases hq5 with rfl | ⟨g, rfl, hg⟩
    · exact absurd hq (by simp)
    · cases hq
      show w.heap.size ≤ g
      omega
  clear hq5
  rw [show (1 :: (a ++ b)).length = 65 by rw [List.length_cons, List.length_append, ha.len, hb_.len]] at hT5 ⊢
  have HT5 := hid hT5
  have HBw5 := hid (Hb4.out.trans (b5.mono (by omega)))
  clear own5 hT5 b5
  go_wp2_with fail
  go_returns
  exact ⟨_, _, rfl, HT5.out, hq6, HBw5.out⟩
theorem wpList_append_aheadH {ops : Array Oper} {rest : List Oper} {o : Oper} {A : Act} {w : World} {Q : Exit → Act → World → Prop} (hgd : o.guard = none) (s x : Operand) (ho : o.op = .call { callee := .builtin .append, args := #[s, x], argTypes := #[31, 31] }) (hty : o.type = 31)
    {base b : Nat} {ta : Option Addr} {tl tc : Nat} {t : List Int} {a : Option Addr} {n c : Nat} {ts : List (List Int)} (hk : Blk w b #[.slice ta tl tc] 29) (hT : TextAt w ta tl tc t) (hR : TextsHi w base a n c ts) (hn : n ≤ 1000) (hb0 : base ≤ b) (ht0 : ∀ p : Addr, ta = some p → base ≤ p.block) (hs : A.eval s = .slice (some ⟨b, 0, none⟩) 1 1) (hx : A.eval x = .slice a n c)
    (h : ∀ a' c' w', TextsHi w' base a' (n + 1) c' (t :: ts) → Below w.heap.size w w' → wpList Tryd.prog ops Q rest (A.put o.dst (.slice a' (n + 1) c')) w') : wpList Tryd.prog ops Q (o :: rest) A w :=
  wpList_plain hgd fun K hK => by
    obtain ⟨a', c', w', hr, h2, h3⟩ := run_append_aheadH hk hT hR hn hb0 ht0
    unfold Oper.wp execOp
    simp only [ho, hty, resolve, invoke, builtin, Sem.run_bind, Sem.run_pure, Result.andThen_ok, List.map_toArray, List.map_cons, List.map_nil, hs, hx, hr, Oper.upon_value]
    exact hK _ _ (h a' c' w' h2 h3)
def HiV (base : Nat) (ts : List (List Int)) (v : Value) (w : World) : Prop := ∃ a n c, v = .slice a n c ∧ TextsHi w base a n c ts
set_option maxHeartbeats 4000000 in
theorem refgrow_same (A : List Int) (m : Int) (len : Nat) (ya : Option Addr) (yc : Nat) (w : World) (hA : Dg A)  :
    Calls Tryd.prog 17 #[.agg (A.map (Value.int .u8)).toArray, .int .i64 m, .int .i64 m, .bool false, .slice ya len yc] w fun e w' => e = .returned (.tuple #[.slice none 0 0, .agg (A.map (Value.int .u8)).toArray, .bool ((len : Int) == 0)]) ∧ Below w.heap.size w w' := by
  have b1 := (Below.refl w.heap.size w).alloc (Nat.le_refl _) (.cells (A.map (Value.int .u8)).toArray 23 (0, 0))
  have b2 := b1.alloc b1.size (.cells (byteCells 32 []) 23 (0, 0))
  have Ka := hid ((Blk.new (w := w) (n := w.heap.size) rfl (A.map (Value.int .u8)).toArray 23).old (.cells (byteCells 32 []) 23 (0, 0)))
  have Kr := hid (Blk.new (w := (w.alloc (.cells (A.map (Value.int .u8)).toArray 23 (0, 0)))) (n := w.heap.size + 1) (by simp only [World.size_alloc]) (byteCells 32 []) 23)
  have Hb := hid b2
  have hbz := b2.size
  have Hbs := hid (show w.heap.size + 1 + 1 = ((w.alloc (.cells (A.map (Value.int .u8)).toArray 23 (0, 0))).alloc (.cells (byteCells 32 []) 23 (0, 0))).heap.size by simp only [World.size_alloc])
  clear b1 b2 
  go_enter Tryd.func17, Tryd.ntmps17
  go_wp2_with fail
  refine FlowB.wp_region_butIn [w.heap.size + 1] (fun wz => Blk wz (w.heap.size + 1) (byteCells 32 []) 23) 6 [0, 1, 2, 3, 4] [] [(.c 5, [], [])] (by kernel_rfl) (by kernel_rfl) Kr.out (fun _ _ h hb => h.below hb) ?_
  apply Exists.intro
  refine ⟨fun w0 hb0 hF0 => ?_, ?_⟩
  · skip
    have x0 : ∀ w', (∃ x : Ext w0, w' = x.at_) → ∃ T, Blk w' (w.heap.size) (A.map (Value.int .u8)).toArray T := fun w' ⟨x, hx⟩ => ⟨_, hx ▸ (hb0.blk Ka.out (by simp only [List.mem_cons, List.not_mem_nil, or_false]; omega)).below x.same⟩
    simp only [pick, List.getElem?_toArray, List.getElem?_cons_succ, List.getElem?_cons_zero, Option.toList_some, List.cons_append, List.nil_append]
    repeat (first | (go_big_quiet_want; refine quiet_load_blk 23 _ rfl (w.heap.size) rfl _ x0 _ Tryd.underlying23 rfl 32 size_digest hA.size ?_; go_big_quiet_on; simp only [Act.put, List.setIfInBounds_toArray, List.set_cons_zero, List.set_cons_succ]) | go_big_quiet_step (fail))
    exact wpQuiet_nil rfl
  refine FlowB.AlChk.nil ?_
  refine FlowB.Walk.skips rfl (fun wz => Blk wz (w.heap.size + 1) (A.map (Value.int .u8)).toArray 23) (fun _ _ h hb => h.below hb) rfl (fun w1 hb1 hF1 hG1 => ?_) ?_
  · exact FlowB.store_skips 23 _ _ rfl (w.heap.size + 1) (A.map (Value.int .u8)).toArray rfl rfl _ 23 hG1 32 size_digest zsize hA.size (ints_one _ _) (by simp) (fun w2 h2 h3 => h3)
  intro w1 hb1 hF1
  apply Exists.intro
  refine ⟨fun w2 hb2 hF2 => wpQuiet_nil rfl, ?_⟩
  refine FlowB.AlChk.nil ?_
  refine FlowB.Walk.fin fun w1 hw1 _ hGw1 => ?_
  simp only [List.drop_succ_cons, List.drop_zero]
  have HBw1 := hid (hw1.below Hb.out Hb.out.size (by simp only [List.mem_singleton, forall_eq]; omega))
  have HGw1 := hid hGw1
  clear hw1 hGw1
  go_wp2_with fail
  exact bodyPost_ret (v := .tuple #[.slice none 0 0, .agg (A.map (Value.int .u8)).toArray, .bool ((len : Int) == 0)]) (results_tbt Tryd.results17 _ (w.heap.size + 1) _ rfl rfl _ rfl _ 23 HGw1.out _ Tryd.underlying23 rfl 32 size_digest hA.size) rfl ⟨rfl, HBw1.out⟩
set_option maxHeartbeats 4000000 in
theorem refgrow_bad (A : List Int) (m : Int) (len : Nat) (ya : Option Addr) (yc : Nat) (w : World) (hA : Dg A) (hl : ¬ (len : Int) = 1) :
    Calls Tryd.prog 17 #[.agg (A.map (Value.int .u8)).toArray, .int .i64 m, .int .i64 m, .bool true, .slice ya len yc] w fun e w' => e = .returned (.tuple #[.slice none 0 0, .agg (A.map (Value.int .u8)).toArray, .bool false]) ∧ Below w.heap.size w w' := by
  have b1 := (Below.refl w.heap.size w).alloc (Nat.le_refl _) (.cells (A.map (Value.int .u8)).toArray 23 (0, 0))
  have b2 := b1.alloc b1.size (.cells (byteCells 32 []) 23 (0, 0))
  have Ka := hid ((Blk.new (w := w) (n := w.heap.size) rfl (A.map (Value.int .u8)).toArray 23).old (.cells (byteCells 32 []) 23 (0, 0)))
  have Kr := hid (Blk.new (w := (w.alloc (.cells (A.map (Value.int .u8)).toArray 23 (0, 0)))) (n := w.heap.size + 1) (by simp only [World.size_alloc]) (byteCells 32 []) 23)
  have Hb := hid b2
  have hbz := b2.size
  have Hbs := hid (show w.heap.size + 1 + 1 = ((w.alloc (.cells (A.map (Value.int .u8)).toArray 23 (0, 0))).alloc (.cells (byteCells 32 []) 23 (0, 0))).heap.size by simp only [World.size_alloc])
  clear b1 b2 
  go_enter Tryd.func17, Tryd.ntmps17
  go_wp2_with fail
  refine FlowB.wp_region_butIn [w.heap.size + 1] (fun wz => Blk wz (w.heap.size + 1) (byteCells 32 []) 23) 3 [0, 1] [] [(.c 2, [], [])] (by kernel_rfl) (by kernel_rfl) Kr.out (fun _ _ h hb => h.below hb) ?_
  apply Exists.intro
  refine ⟨fun w0 hb0 hF0 => ?_, ?_⟩
  · skip
    have x0 : ∀ w', (∃ x : Ext w0, w' = x.at_) → ∃ T, Blk w' (w.heap.size) (A.map (Value.int .u8)).toArray T := fun w' ⟨x, hx⟩ => ⟨_, hx ▸ (hb0.blk Ka.out (by simp only [List.mem_cons, List.not_mem_nil, or_false]; omega)).below x.same⟩
    simp only [pick, List.getElem?_toArray, List.getElem?_cons_succ, List.getElem?_cons_zero, Option.toList_some, List.cons_append, List.nil_append]
    repeat (first | (go_big_quiet_want; refine quiet_load_blk 23 _ rfl (w.heap.size) rfl _ x0 _ Tryd.underlying23 rfl 32 size_digest hA.size ?_; go_big_quiet_on; simp only [Act.put, List.setIfInBounds_toArray, List.set_cons_zero, List.set_cons_succ]) | go_big_quiet_step (fail))
    exact wpQuiet_nil rfl
  refine FlowB.AlChk.nil ?_
  refine FlowB.Walk.skips rfl (fun wz => Blk wz (w.heap.size + 1) (A.map (Value.int .u8)).toArray 23) (fun _ _ h hb => h.below hb) rfl (fun w1 hb1 hF1 hG1 => ?_) ?_
  · exact FlowB.store_skips 23 _ _ rfl (w.heap.size + 1) (A.map (Value.int .u8)).toArray rfl rfl _ 23 hG1 32 size_digest zsize hA.size (ints_one _ _) (by simp) (fun w2 h2 h3 => h3)
  intro w1 hb1 hF1
  apply Exists.intro
  refine ⟨fun w2 hb2 hF2 => wpQuiet_nil rfl, ?_⟩
  refine FlowB.AlChk.nil ?_
  refine FlowB.Walk.fin fun w1 hw1 _ hGw1 => ?_
  simp only [List.drop_succ_cons, List.drop_zero]
  have HBw1 := hid (hw1.below Hb.out Hb.out.size (by simp only [List.mem_singleton, forall_eq]; omega))
  have HGw1 := hid hGw1
  clear hw1 hGw1
  go_wp2_with fail
  exact bodyPost_ret (v := .tuple #[.slice none 0 0, .agg (A.map (Value.int .u8)).toArray, .bool false]) (results_tbt Tryd.results17 _ (w.heap.size + 1) _ rfl rfl _ rfl _ 23 HGw1.out _ Tryd.underlying23 rfl 32 size_digest hA.size) rfl ⟨rfl, HBw1.out⟩
set_option maxHeartbeats 4000000 in
theorem refgrow_nil (A : List Int) (m n : Int) (cut : Bool) (ya : Option Addr) (yc : Nat) (w : World) (hA : Dg A) (hmn : ¬ m = n) :
    Calls Tryd.prog 17 #[.agg (A.map (Value.int .u8)).toArray, .int .i64 m, .int .i64 n, .bool cut, .slice ya 0 yc] w fun e w' => e = .returned (.tuple #[.slice none 0 0, .agg (A.map (Value.int .u8)).toArray, .bool false]) ∧ Below w.heap.size w w' := by
  have b1 := (Below.refl w.heap.size w).alloc (Nat.le_refl _) (.cells (A.map (Value.int .u8)).toArray 23 (0, 0))
  have b2 := b1.alloc b1.size (.cells (byteCells 32 []) 23 (0, 0))
  have Ka := hid ((Blk.new (w := w) (n := w.heap.size) rfl (A.map (Value.int .u8)).toArray 23).old (.cells (byteCells 32 []) 23 (0, 0)))
  have Kr := hid (Blk.new (w := (w.alloc (.cells (A.map (Value.int .u8)).toArray 23 (0, 0)))) (n := w.heap.size + 1) (by simp only [World.size_alloc]) (byteCells 32 []) 23)
  have Hb := hid b2
  have hbz := b2.size
  have Hbs := hid (show w.heap.size + 1 + 1 = ((w.alloc (.cells (A.map (Value.int .u8)).toArray 23 (0, 0))).alloc (.cells (byteCells 32 []) 23 (0, 0))).heap.size by simp only [World.size_alloc])
  clear b1 b2 
  go_enter Tryd.func17, Tryd.ntmps17
  go_wp2_with fail
  refine FlowB.wp_region_butIn [w.heap.size + 1] (fun wz => Blk wz (w.heap.size + 1) (byteCells 32 []) 23) 3 [0, 1] [] [(.c 2, [], [])] (by kernel_rfl) (by kernel_rfl) Kr.out (fun _ _ h hb => h.below hb) ?_
  apply Exists.intro
  refine ⟨fun w0 hb0 hF0 => ?_, ?_⟩
  · skip
    have x0 : ∀ w', (∃ x : Ext w0, w' = x.at_) → ∃ T, Blk w' (w.heap.size) (A.map (Value.int .u8)).toArray T := fun w' ⟨x, hx⟩ => ⟨_, hx ▸ (hb0.blk Ka.out (by simp only [List.mem_cons, List.not_mem_nil, or_false]; omega)).below x.same⟩
    simp only [pick, List.getElem?_toArray, List.getElem?_cons_succ, List.getElem?_cons_zero, Option.toList_some, List.cons_append, List.nil_append]
    repeat (first | (go_big_quiet_want; refine quiet_load_blk 23 _ rfl (w.heap.size) rfl _ x0 _ Tryd.underlying23 rfl 32 size_digest hA.size ?_; go_big_quiet_on; simp only [Act.put, List.setIfInBounds_toArray, List.set_cons_zero, List.set_cons_succ]) | go_big_quiet_step (fail))
    exact wpQuiet_nil rfl
  refine FlowB.AlChk.nil ?_
  refine FlowB.Walk.skips rfl (fun wz => Blk wz (w.heap.size + 1) (A.map (Value.int .u8)).toArray 23) (fun _ _ h hb => h.below hb) rfl (fun w1 hb1 hF1 hG1 => ?_) ?_
  · exact FlowB.store_skips 23 _ _ rfl (w.heap.size + 1) (A.map (Value.int .u8)).toArray rfl rfl _ 23 hG1 32 size_digest zsize hA.size (ints_one _ _) (by simp) (fun w2 h2 h3 => h3)
  intro w1 hb1 hF1
  apply Exists.intro
  refine ⟨fun w2 hb2 hF2 => wpQuiet_nil rfl, ?_⟩
  refine FlowB.AlChk.nil ?_
  refine FlowB.Walk.fin fun w1 hw1 _ hGw1 => ?_
  simp only [List.drop_succ_cons, List.drop_zero]
  have HBw1 := hid (hw1.below Hb.out Hb.out.size (by simp only [List.mem_singleton, forall_eq]; omega))
  have HGw1 := hid hGw1
  clear hw1 hGw1
  go_wp2_with fail
  exact bodyPost_ret (v := .tuple #[.slice none 0 0, .agg (A.map (Value.int .u8)).toArray, .bool false]) (results_tbt Tryd.results17 _ (w.heap.size + 1) _ rfl rfl _ rfl _ 23 HGw1.out _ Tryd.underlying23 rfl 32 size_digest hA.size) rfl ⟨rfl, HBw1.out⟩
set_option maxHeartbeats 4000000 in
theorem refgrow_one (A : List Int) (m : Int) (x o yc : Nat) (ds : List (List Int)) (w : World) (_hA : Dg A) (hD : DigsAt w (some ⟨x, o, none⟩) 1 yc ds) :
    Calls Tryd.prog 17 #[.agg (A.map (Value.int .u8)).toArray, .int .i64 m, .int .i64 m, .bool true, .slice (some ⟨x, o, none⟩) 1 yc] w fun e w' => e = .returned (.tuple #[.slice none 0 0, .agg ((ds.getD 0 []).map (Value.int .u8)).toArray, .bool true]) ∧ Below w.heap.size w w' := by
  obtain ⟨x0, o0, hxa, hx, hc⟩ := hD.at_ (by omega)
  cases hxa
  have Hc := hid (hc 0 (by omega))
  have HY := hid (hD.get (j := 0) (by omega))
  generalize ds.getD 0 [] = Y at *
  clear hc hD
  have b1 := (Below.refl w.heap.size w).alloc (Nat.le_refl _) (.cells (A.map (Value.int .u8)).toArray 23 (0, 0))
  have b2 := b1.alloc b1.size (.cells (byteCells 32 []) 23 (0, 0))
  have Ka := hid ((Blk.new (w := w) (n := w.heap.size) rfl (A.map (Value.int .u8)).toArray 23).old (.cells (byteCells 32 []) 23 (0, 0)))
  have Kr := hid (Blk.new (w := (w.alloc (.cells (A.map (Value.int .u8)).toArray 23 (0, 0)))) (n := w.heap.size + 1) (by simp only [World.size_alloc]) (byteCells 32 []) 23)
  have Hb := hid b2
  have hbz := b2.size
  have Hbs := hid (show w.heap.size + 1 + 1 = ((w.alloc (.cells (A.map (Value.int .u8)).toArray 23 (0, 0))).alloc (.cells (byteCells 32 []) 23 (0, 0))).heap.size by simp only [World.size_alloc])
  clear b1 b2 
  go_enter Tryd.func17, Tryd.ntmps17
  go_wp2_with fail
  refine FlowB.wp_region_butIn [w.heap.size + 1] (fun wz => Blk wz (w.heap.size + 1) (byteCells 32 []) 23) 5 [0, 1, 2, 3] [] [(.c 4, [], [])] (by kernel_rfl) (by kernel_rfl) Kr.out (fun _ _ h hb => h.below hb) ?_
  apply Exists.intro
  refine ⟨fun w0 hb0 hF0 => ?_, ?_⟩
  · skip
    have zz : ∀ w', (∃ x : Ext w0, w' = x.at_) → w'.rangeAt x (o + 0 * 32) (Y.map (Value.int .u8)) := fun w' ⟨e, he⟩ => by
      rw [he]
      exact rangeAt_below (w := w0) (fun j v hv => by
        have h1 := Hb.out
        rw [show w0.cell? ⟨x, o + 0 * 32 + j, none⟩ = w.cell? ⟨x, o + 0 * 32 + j, none⟩ from (hb0.below h1 h1.size (by intro b hb; simp only [List.mem_singleton] at hb; omega)).cell (p := ⟨x, o + 0 * 32 + j, none⟩) hx]
        exact Hc.out j v hv) (Nat.lt_of_lt_of_le (Nat.lt_of_lt_of_le hx Hb.out.size) hb0.size) e.same
    simp only [pick, List.getElem?_toArray, List.getElem?_cons_succ, List.getElem?_cons_zero, Option.toList_some, List.cons_append, List.nil_append]
    repeat (first | (go_big_quiet_want; refine quiet_index_digs 24 _ _ rfl Tryd.underlying24 size_digest x o 1 yc rfl _ _ rfl 0 rfl (by omega) ?_; go_big_quiet_on; simp only [Act.put, List.setIfInBounds_toArray, List.set_cons_zero, List.set_cons_succ]) | (go_big_quiet_want; refine quiet_load_mid 23 _ rfl x (o + 0 * 32) rfl _ zz _ Tryd.underlying23 rfl (by rw [List.length_map, HY.out.len]; exact size_digest) ?_; go_big_quiet_on; simp only [Act.put, List.setIfInBounds_toArray, List.set_cons_zero, List.set_cons_succ]) | go_big_quiet_step (fail))
    exact wpQuiet_nil rfl
  refine FlowB.AlChk.nil ?_
  refine FlowB.Walk.skips rfl (fun wz => Blk wz (w.heap.size + 1) (Y.map (Value.int .u8)).toArray 23) (fun _ _ h hb => h.below hb) rfl (fun w1 hb1 hF1 hG1 => ?_) ?_
  · exact FlowB.store_skips 23 _ _ rfl (w.heap.size + 1) (Y.map (Value.int .u8)).toArray rfl rfl _ 23 hG1 32 size_digest zsize HY.out.size (ints_one _ _) (by simp) (fun w2 h2 h3 => h3)
  intro w1 hb1 hF1
  apply Exists.intro
  refine ⟨fun w2 hb2 hF2 => wpQuiet_nil rfl, ?_⟩
  refine FlowB.AlChk.nil ?_
  refine FlowB.Walk.fin fun w1 hw1 _ hGw1 => ?_
  simp only [List.drop_succ_cons, List.drop_zero]
  have HBw1 := hid (hw1.below Hb.out Hb.out.size (by simp only [List.mem_singleton, forall_eq]; omega))
  have HGw1 := hid hGw1
  clear hw1 hGw1
  go_wp2_with fail
  exact bodyPost_ret (v := .tuple #[.slice none 0 0, .agg (Y.map (Value.int .u8)).toArray, .bool true]) (results_tbt Tryd.results17 _ (w.heap.size + 1) _ rfl rfl _ rfl _ 23 HGw1.out _ Tryd.underlying23 rfl 32 size_digest HY.out.size) rfl ⟨rfl, HBw1.out⟩
set_option maxHeartbeats 4000000 in
theorem refgrow_l (A : List Int) (m n k q len : Nat) (cut : Bool) (x o yc : Nat) (ds : List (List Int)) (w : World) (hA : Dg A) (hn2 : n ≤ 200) (hmn : m < n) (hm1 : 1 ≤ m) (hkk : halfN n = k) (hik : m ≤ k) (hq1 : q < len) (hq2 : len ≤ q + 1) (hlen : len ≤ 1000000) (hD : DigsAt w (some ⟨x, o, none⟩) len yc ds)
    (L : List (List Int)) (X : List Int) (ok : Bool) (hX : Dg X) (hL : L.length ≤ 300) (cu : ∀ W : World, DigsAt W (some ⟨x, o, none⟩) q yc (ds.take q) → Calls Tryd.prog 17 #[.agg (A.map (Value.int .u8)).toArray, .int .i64 (m : Int), .int .i64 (k : Int), .bool cut, .slice (some ⟨x, o, none⟩) q yc] W fun e w' => ∃ v, e = .returned (.tuple #[v, .agg (X.map (Value.int .u8)).toArray, .bool ok]) ∧ HiV W.heap.size L v w' ∧ Below W.heap.size W w') :
    Calls Tryd.prog 17 #[.agg (A.map (Value.int .u8)).toArray, .int .i64 m, .int .i64 n, .bool cut, .slice (some ⟨x, o, none⟩) len yc] w fun e w' => ∃ v, e = .returned (.tuple #[v, .agg ((sumZ (nodeX X (ds.getD q []))).map (Value.int .u8)).toArray, .bool ok]) ∧ HiV w.heap.size ((nodeX X (ds.getD q [])) :: L) v w' ∧ Below w.heap.size w w' := by
  have hn : 2 ≤ n := by omega
  obtain ⟨hk1, hk2⟩ := halfN_lt hn
  rw [hkk] at hk1 hk2
  have hn1 : ¬ ((m : Int) = n) := by omega
  have hl0 : ¬ ((len : Int) = 0) := by omega
  have hw0 : wrap64 ((len : Int) - 1) = (len : Int) - 1 := by unfold wrap64; omega
  have hqc := hD.le
  obtain ⟨x0, o0, hxa, hx, hc⟩ := hD.at_ (by omega)
  cases hxa
  have Hc := hid (hc q (by omega))
  have DQ := hid (hD.head q (by omega))
  have hcut : ∀ W' : World, (Instr.slice 24 (.slice (some ⟨x, o, none⟩) len yc) none (some (.int .i64 ((len : Int) - 1))) none).run Tryd.prog W' = .ok (.slice (some ⟨x, o, none⟩) q yc) W' := fun W' => by
    have h := run_cutd_h (P := Tryd.prog) Tryd.underlying24 size_digest (some ⟨x, o, none⟩) len yc ((len : Int) - 1) W' (by omega) (by omega)
    rw [show ((len : Int) - 1).toNat = q by omega] at h
    exact h
  have CH := hid (fun W : World => (refhalf_any n n W (Nat.le_refl _) hn (by omega)).mono (fun e w' (h : e = .returned (.int .i64 (halfN n : Int)) ∧ w' = W) => show e = .returned (.int .i64 (halfN n : Int)) ∧ Below W.heap.size W w' from ⟨h.1, by rw [h.2]; exact Below.refl _ _⟩))
  rw [hkk] at CH
  have CU := hid cu
  have HY := hid (hD.get (j := q) (by omega))
  generalize ds.getD q [] = Y at *
  have HX := hid hX
  have CS := hid (fun (p : Option Addr) (c : Nat) (W : World) (h : TextAt W p 65 c (nodeX X Y)) => refsum_any p 65 c (nodeX X Y) W h (by omega))
  have HS9 := hid (Dg.sum (nodeX X Y))
  generalize sumZ (nodeX X Y) = S9 at *
  have hikI : (m : Int) ≤ k := by omega
  clear cu hkk hc hD hX
  have b1 := (Below.refl w.heap.size w).alloc (Nat.le_refl _) (.cells (A.map (Value.int .u8)).toArray 23 (0, 0))
  have b2 := b1.alloc b1.size (.cells (byteCells 32 []) 23 (0, 0))
  have Ka := hid ((Blk.new (w := w) (n := w.heap.size) rfl (A.map (Value.int .u8)).toArray 23).old (.cells (byteCells 32 []) 23 (0, 0)))
  have Kr := hid (Blk.new (w := (w.alloc (.cells (A.map (Value.int .u8)).toArray 23 (0, 0)))) (n := w.heap.size + 1) (by simp only [World.size_alloc]) (byteCells 32 []) 23)
  have Hb := hid b2
  have hbz := b2.size
  have Hbs := hid (show w.heap.size + 1 + 1 = ((w.alloc (.cells (A.map (Value.int .u8)).toArray 23 (0, 0))).alloc (.cells (byteCells 32 []) 23 (0, 0))).heap.size by simp only [World.size_alloc])
  clear b1 b2 
  go_enter Tryd.func17, Tryd.ntmps17
  go_wp2_with fail
  refine (CH.out _).mono ?_
  rintro e w1 ⟨rfl, bw1⟩
  have HBw1 := hid (Below.on Hb.out bw1)
  have hsw1 := HBw1.out.size
  have Kaw1 := hid (Ka.out.below bw1)
  have Krw1 := hid (Kr.out.below bw1)
  clear bw1
  have Hcx : Hid (w1.rangeAt x (o + q * 32) (Y.map (Value.int .u8))) := hid (fun j v hv => (HBw1.out.cell (p := ⟨x, o + q * 32 + j, none⟩) hx).trans (Hc.out j v hv))
  go_wp2_with (first
     | (refine wpList_index_digs rfl 24 _ _ rfl Tryd.underlying24 size_digest x o len yc rfl _ _ rfl q (by omega) (by omega) ?_)
     | (refine wpList_load_mid rfl 23 _ rfl x (o + q * 32) rfl _ _ Hcx.out Tryd.underlying23 rfl (by rw [List.length_map, HY.out.len]; exact size_digest) ?_)
     | (
        refine wpList_store_blk rfl 23 _ _ rfl (w1.heap.size) (Y.map (Value.int .u8)).toArray rfl rfl _ 23 (Blk.new rfl (byteCells 32 []) _) 32 size_digest zsize HY.out.size (ints_one _ _) ?_
        intro w2 hbw2 hkw2
        have hw2 := hbw2.below ((Below.refl w1.heap.size w1).alloc (Nat.le_refl _) _) (by simp only [World.size_alloc]; omega) (Nat.le_refl _)
        have HBw2 := hid (Below.on HBw1.out hw2)
        have hsw2 := HBw2.out.size
        have Kaw2 := hid (Kaw1.out.below hw2)
        have hlaw2 := Kaw1.out.lt
        have Krw2 := hid (Krw1.out.below hw2)
        have hlrw2 := Krw1.out.lt
        have Kow2 := hid hkw2
        have hfw2 : w.heap.size ≤ w1.heap.size := HBw1.out.size
        clear hbw2 hkw2 hw2)
     | (refine wpList_load_blk rfl 23 _ rfl (w.heap.size) rfl _ 23 Kaw2.out _ Tryd.underlying23 rfl 32 size_digest hA.size ?_))
  have hlow : w.heap.size + 1 + 1 ≤ w2.heap.size := Krw2.out.lt
  refine (CU.out _ (DQ.out.below HBw2.out)).mono ?_
  rintro e w3 ⟨v15, rfl, ⟨ra, rn, rc, rfl, hr⟩, bw3⟩
  have HBw3 := hid (Below.on HBw2.out bw3)
  have hsw3 := HBw3.out.size
  have Kaw3 := hid (Kaw2.out.below bw3)
  have Krw3 := hid (Krw2.out.below bw3)
  have Kow3 := hid (Kow2.out.below bw3)
  clear bw3
  have hrl := hr.length
  have HR := hid (hr.mono (low := w.heap.size + 1 + 1) (by omega))
  clear hr
  go_wp2_with (first
     | (
        refine wpList_store_blk rfl 23 _ _ rfl (w3.heap.size) (X.map (Value.int .u8)).toArray rfl rfl _ 23 (Blk.new rfl (byteCells 32 []) _) 32 size_digest zsize HX.out.size (ints_one _ _) ?_
        intro w4 hbw4 hkw4
        have hw4 := hbw4.below ((Below.refl w3.heap.size w3).alloc (Nat.le_refl _) _) (by simp only [World.size_alloc]; omega) (Nat.le_refl _)
        have HBw4 := hid (Below.on HBw3.out hw4)
        have hsw4 := HBw4.out.size
        have Kaw4 := hid (Kaw3.out.below hw4)
        have hlaw4 := Kaw3.out.lt
        have Krw4 := hid (Krw3.out.below hw4)
        have hlrw4 := Krw3.out.lt
        have Kow4 := hid (Kow3.out.below hw4)
        have hlow4 := Kow3.out.lt
        have Kxw4 := hid hkw4
        have hfw4 : w.heap.size ≤ w3.heap.size := HBw3.out.size
        have HRw4 := hid (HR.out.below hw4)
        clear hbw4 hkw4 hw4)
     | (refine wpList_load_blk rfl 23 _ rfl (w3.heap.size) rfl _ 23 Kxw4.out _ Tryd.underlying23 rfl 32 size_digest HX.out.size ?_)
     | (refine wpList_load_blk rfl 23 _ rfl (w1.heap.size) rfl _ 23 Kow4.out _ Tryd.underlying23 rfl 32 size_digest HY.out.size ?_))
  refine (refpair_hi X Y _ HX.out HY.out).mono ?_
  rintro e w5 ⟨p1, pc1, rfl, hp1, hh1, bw5⟩
  have HBw5 := hid (Below.on HBw4.out bw5)
  have hsw5 := HBw5.out.size
  have Kaw5 := hid (Kaw4.out.below bw5)
  have Krw5 := hid (Krw4.out.below bw5)
  have Kow5 := hid (Kow4.out.below bw5)
  have Kxw5 := hid (Kxw4.out.below bw5)
  have HRw5 := hid (HRw4.out.below bw5)
  have HP1 := hid hp1
  clear hp1
  clear bw5
  have KB := hid (Blk.new (w := w5) (n := w5.heap.size) rfl #[.slice p1 65 pc1] 29)
  have HPA := hid (TextAt.below HP1.out ((Below.refl _ _).alloc (Nat.le_refl _) (.cells #[.slice p1 65 pc1] 29 (0, 0))))
  have HRA := hid (TextsHi.below HRw5.out ((Below.refl _ _).alloc (Nat.le_refl _) (.cells #[.slice p1 65 pc1] 29 (0, 0))))
  have hbb : w.heap.size + 1 + 1 ≤ w5.heap.size := Krw5.out.lt
  have hh2 : ∀ q : Addr, p1 = some q → w.heap.size + 1 + 1 ≤ q.block := fun q hq => Nat.le_trans (by have := Krw4.out.lt; omega) (hh1 q hq)
  have HBA := hid (HBw5.out.alloc HBw5.out.size (.cells #[.slice p1 65 pc1] 29 (0, 0)))
  have KrA := hid (Krw5.out.below ((Below.refl _ _).alloc (Nat.le_refl _) (.cells #[.slice p1 65 pc1] 29 (0, 0))))
  go_wp2_with (at_builtin; refine wpList_append_aheadH rfl _ _ rfl rfl KB.out HPA.out HRA.out (by omega) hbb hh2 rfl rfl ?_)
  intro a9 c9 w9 hr9 b9
  have HR9 := hid hr9
  have HB9 := hid (HBA.out.trans (b9.mono (by have := HBw5.out.size; omega)))
  have b9' : Below (w5.alloc (.cells #[.slice p1 65 pc1] 29 (0, 0))).heap.size (w5.alloc (.cells #[.slice p1 65 pc1] 29 (0, 0))) w9 := by simpa only [World.size_alloc] using b9
  have HP9 := hid (HPA.out.below b9')
  have Kr9 := hid (KrA.out.below b9')
  clear hr9 b9 b9'
  go_wp2_with fail
  refine (CS.out p1 pc1 w9 HP9.out).mono ?_
  rintro e w10 ⟨rfl, b10⟩
  have HB10 := hid (Below.on HB9.out b10)
  have HR10 := hid (HR9.out.below b10)
  have Kr10 := hid (Kr9.out.below b10)
  have hs10 := HB10.out.size
  have hq10 := Kr10.out.lt
  clear b10
  go_wp2_with (
      refine wpList_store_blk rfl 23 _ _ rfl (w.heap.size + 1) (S9.map (Value.int .u8)).toArray rfl rfl _ 23 Kr10.out 32 size_digest zsize HS9.out.size (ints_one _ _) ?_
      intro w11 hb11 hk11
      have HB11 := hid (hb11.below HB10.out HB10.out.size (by omega))
      have HK11 := hid hk11
      have HR11 := hid ((HR10.out.but hb11 (Nat.lt_succ_self _)).mono (low := w.heap.size) (by omega))
      clear hb11 hk11)
  exact bodyPost_ret (v := .tuple #[.slice a9 (rn + 1) c9, .agg (S9.map (Value.int .u8)).toArray, .bool ok]) (results_tbt Tryd.results17 _ (w.heap.size + 1) _ rfl rfl _ rfl _ 23 HK11.out _ Tryd.underlying23 rfl 32 size_digest HS9.out.size) rfl ⟨_, rfl, ⟨_, _, _, rfl, HR11.out⟩, HB11.out⟩
set_option maxHeartbeats 4000000 in
theorem refgrow_r (A : List Int) (m n k q len : Nat) (cut : Bool) (x o yc : Nat) (ds : List (List Int)) (w : World) (hA : Dg A) (hn2 : n ≤ 200) (hmn : m < n) (hm1 : 1 ≤ m) (hkk : halfN n = k) (hik : ¬ m ≤ k) (hq1 : q < len) (hq2 : len ≤ q + 1) (hlen : len ≤ 1000000) (hD : DigsAt w (some ⟨x, o, none⟩) len yc ds)
    (L : List (List Int)) (X : List Int) (ok : Bool) (hX : Dg X) (hL : L.length ≤ 300) (cu : ∀ W : World, DigsAt W (some ⟨x, o, none⟩) q yc (ds.take q) → Calls Tryd.prog 17 #[.agg (A.map (Value.int .u8)).toArray, .int .i64 ((m : Int) - (k : Int)), .int .i64 ((n : Int) - (k : Int)), .bool true, .slice (some ⟨x, o, none⟩) q yc] W fun e w' => ∃ v, e = .returned (.tuple #[v, .agg (X.map (Value.int .u8)).toArray, .bool ok]) ∧ HiV W.heap.size L v w' ∧ Below W.heap.size W w') :
    Calls Tryd.prog 17 #[.agg (A.map (Value.int .u8)).toArray, .int .i64 m, .int .i64 n, .bool cut, .slice (some ⟨x, o, none⟩) len yc] w fun e w' => ∃ v, e = .returned (.tuple #[v, .agg ((sumZ (nodeX (ds.getD q []) X)).map (Value.int .u8)).toArray, .bool ok]) ∧ HiV w.heap.size ((nodeX (ds.getD q []) X) :: L) v w' ∧ Below w.heap.size w w' := by
  have hn : 2 ≤ n := by omega
  obtain ⟨hk1, hk2⟩ := halfN_lt hn
  rw [hkk] at hk1 hk2
  have hn1 : ¬ ((m : Int) = n) := by omega
  have hl0 : ¬ ((len : Int) = 0) := by omega
  have hw0 : wrap64 ((len : Int) - 1) = (len : Int) - 1 := by unfold wrap64; omega
  have hqc := hD.le
  obtain ⟨x0, o0, hxa, hx, hc⟩ := hD.at_ (by omega)
  cases hxa
  have Hc := hid (hc q (by omega))
  have DQ := hid (hD.head q (by omega))
  have hcut : ∀ W' : World, (Instr.slice 24 (.slice (some ⟨x, o, none⟩) len yc) none (some (.int .i64 ((len : Int) - 1))) none).run Tryd.prog W' = .ok (.slice (some ⟨x, o, none⟩) q yc) W' := fun W' => by
    have h := run_cutd_h (P := Tryd.prog) Tryd.underlying24 size_digest (some ⟨x, o, none⟩) len yc ((len : Int) - 1) W' (by omega) (by omega)
    rw [show ((len : Int) - 1).toNat = q by omega] at h
    exact h
  have CH := hid (fun W : World => (refhalf_any n n W (Nat.le_refl _) hn (by omega)).mono (fun e w' (h : e = .returned (.int .i64 (halfN n : Int)) ∧ w' = W) => show e = .returned (.int .i64 (halfN n : Int)) ∧ Below W.heap.size W w' from ⟨h.1, by rw [h.2]; exact Below.refl _ _⟩))
  rw [hkk] at CH
  have CU := hid cu
  have HY := hid (hD.get (j := q) (by omega))
  generalize ds.getD q [] = Y at *
  have HX := hid hX
  have CS := hid (fun (p : Option Addr) (c : Nat) (W : World) (h : TextAt W p 65 c (nodeX Y X)) => refsum_any p 65 c (nodeX Y X) W h (by omega))
  have HS9 := hid (Dg.sum (nodeX Y X))
  generalize sumZ (nodeX Y X) = S9 at *
  have hikI : ¬ ((m : Int) ≤ k) := by omega
  have hw1 : wrap64 ((n : Int) - (k : Int)) = (n : Int) - (k : Int) := by unfold wrap64; omega
  have hw2 : wrap64 ((m : Int) - (k : Int)) = (m : Int) - (k : Int) := by unfold wrap64; omega
  clear cu hkk hc hD hX
  have b1 := (Below.refl w.heap.size w).alloc (Nat.le_refl _) (.cells (A.map (Value.int .u8)).toArray 23 (0, 0))
  have b2 := b1.alloc b1.size (.cells (byteCells 32 []) 23 (0, 0))
  have Ka := hid ((Blk.new (w := w) (n := w.heap.size) rfl (A.map (Value.int .u8)).toArray 23).old (.cells (byteCells 32 []) 23 (0, 0)))
  have Kr := hid (Blk.new (w := (w.alloc (.cells (A.map (Value.int .u8)).toArray 23 (0, 0)))) (n := w.heap.size + 1) (by simp only [World.size_alloc]) (byteCells 32 []) 23)
  have Hb := hid b2
  have hbz := b2.size
  have Hbs := hid (show w.heap.size + 1 + 1 = ((w.alloc (.cells (A.map (Value.int .u8)).toArray 23 (0, 0))).alloc (.cells (byteCells 32 []) 23 (0, 0))).heap.size by simp only [World.size_alloc])
  clear b1 b2 
  go_enter Tryd.func17, Tryd.ntmps17
  go_wp2_with fail
  refine (CH.out _).mono ?_
  rintro e w1 ⟨rfl, bw1⟩
  have HBw1 := hid (Below.on Hb.out bw1)
  have hsw1 := HBw1.out.size
  have Kaw1 := hid (Ka.out.below bw1)
  have Krw1 := hid (Kr.out.below bw1)
  clear bw1
  have Hcx : Hid (w1.rangeAt x (o + q * 32) (Y.map (Value.int .u8))) := hid (fun j v hv => (HBw1.out.cell (p := ⟨x, o + q * 32 + j, none⟩) hx).trans (Hc.out j v hv))
  go_wp2_with (first
     | (refine wpList_index_digs rfl 24 _ _ rfl Tryd.underlying24 size_digest x o len yc rfl _ _ rfl q (by omega) (by omega) ?_)
     | (refine wpList_load_mid rfl 23 _ rfl x (o + q * 32) rfl _ _ Hcx.out Tryd.underlying23 rfl (by rw [List.length_map, HY.out.len]; exact size_digest) ?_)
     | (
        refine wpList_store_blk rfl 23 _ _ rfl (w1.heap.size) (Y.map (Value.int .u8)).toArray rfl rfl _ 23 (Blk.new rfl (byteCells 32 []) _) 32 size_digest zsize HY.out.size (ints_one _ _) ?_
        intro w2 hbw2 hkw2
        have hw2 := hbw2.below ((Below.refl w1.heap.size w1).alloc (Nat.le_refl _) _) (by simp only [World.size_alloc]; omega) (Nat.le_refl _)
        have HBw2 := hid (Below.on HBw1.out hw2)
        have hsw2 := HBw2.out.size
        have Kaw2 := hid (Kaw1.out.below hw2)
        have hlaw2 := Kaw1.out.lt
        have Krw2 := hid (Krw1.out.below hw2)
        have hlrw2 := Krw1.out.lt
        have Kow2 := hid hkw2
        have hfw2 : w.heap.size ≤ w1.heap.size := HBw1.out.size
        clear hbw2 hkw2 hw2)
     | (refine wpList_load_blk rfl 23 _ rfl (w.heap.size) rfl _ 23 Kaw2.out _ Tryd.underlying23 rfl 32 size_digest hA.size ?_))
  have hlow : w.heap.size + 1 + 1 ≤ w2.heap.size := Krw2.out.lt
  refine (CU.out _ (DQ.out.below HBw2.out)).mono ?_
  rintro e w3 ⟨v15, rfl, ⟨ra, rn, rc, rfl, hr⟩, bw3⟩
  have HBw3 := hid (Below.on HBw2.out bw3)
  have hsw3 := HBw3.out.size
  have Kaw3 := hid (Kaw2.out.below bw3)
  have Krw3 := hid (Krw2.out.below bw3)
  have Kow3 := hid (Kow2.out.below bw3)
  clear bw3
  have hrl := hr.length
  have HR := hid (hr.mono (low := w.heap.size + 1 + 1) (by omega))
  clear hr
  go_wp2_with (first
     | (
        refine wpList_store_blk rfl 23 _ _ rfl (w3.heap.size) (X.map (Value.int .u8)).toArray rfl rfl _ 23 (Blk.new rfl (byteCells 32 []) _) 32 size_digest zsize HX.out.size (ints_one _ _) ?_
        intro w4 hbw4 hkw4
        have hw4 := hbw4.below ((Below.refl w3.heap.size w3).alloc (Nat.le_refl _) _) (by simp only [World.size_alloc]; omega) (Nat.le_refl _)
        have HBw4 := hid (Below.on HBw3.out hw4)
        have hsw4 := HBw4.out.size
        have Kaw4 := hid (Kaw3.out.below hw4)
        have hlaw4 := Kaw3.out.lt
        have Krw4 := hid (Krw3.out.below hw4)
        have hlrw4 := Krw3.out.lt
        have Kow4 := hid (Kow3.out.below hw4)
        have hlow4 := Kow3.out.lt
        have Kxw4 := hid hkw4
        have hfw4 : w.heap.size ≤ w3.heap.size := HBw3.out.size
        have HRw4 := hid (HR.out.below hw4)
        clear hbw4 hkw4 hw4)
     | (refine wpList_load_blk rfl 23 _ rfl (w3.heap.size) rfl _ 23 Kxw4.out _ Tryd.underlying23 rfl 32 size_digest HX.out.size ?_)
     | (refine wpList_load_blk rfl 23 _ rfl (w1.heap.size) rfl _ 23 Kow4.out _ Tryd.underlying23 rfl 32 size_digest HY.out.size ?_))
  refine (refpair_hi Y X _ HY.out HX.out).mono ?_
  rintro e w5 ⟨p1, pc1, rfl, hp1, hh1, bw5⟩
  have HBw5 := hid (Below.on HBw4.out bw5)
  have hsw5 := HBw5.out.size
  have Kaw5 := hid (Kaw4.out.below bw5)
  have Krw5 := hid (Krw4.out.below bw5)
  have Kow5 := hid (Kow4.out.below bw5)
  have Kxw5 := hid (Kxw4.out.below bw5)
  have HRw5 := hid (HRw4.out.below bw5)
  have HP1 := hid hp1
  clear hp1
  clear bw5
  have KB := hid (Blk.new (w := w5) (n := w5.heap.size) rfl #[.slice p1 65 pc1] 29)
  have HPA := hid (TextAt.below HP1.out ((Below.refl _ _).alloc (Nat.le_refl _) (.cells #[.slice p1 65 pc1] 29 (0, 0))))
  have HRA := hid (TextsHi.below HRw5.out ((Below.refl _ _).alloc (Nat.le_refl _) (.cells #[.slice p1 65 pc1] 29 (0, 0))))
  have hbb : w.heap.size + 1 + 1 ≤ w5.heap.size := Krw5.out.lt
  have hh2 : ∀ q : Addr, p1 = some q → w.heap.size + 1 + 1 ≤ q.block := fun q hq => Nat.le_trans (by have := Krw4.out.lt; omega) (hh1 q hq)
  have HBA := hid (HBw5.out.alloc HBw5.out.size (.cells #[.slice p1 65 pc1] 29 (0, 0)))
  have KrA := hid (Krw5.out.below ((Below.refl _ _).alloc (Nat.le_refl _) (.cells #[.slice p1 65 pc1] 29 (0, 0))))
  go_wp2_with (at_builtin; refine wpList_append_aheadH rfl _ _ rfl rfl KB.out HPA.out HRA.out (by omega) hbb hh2 rfl rfl ?_)
  intro a9 c9 w9 hr9 b9
  have HR9 := hid hr9
  have HB9 := hid (HBA.out.trans (b9.mono (by have := HBw5.out.size; omega)))
  have b9' : Below (w5.alloc (.cells #[.slice p1 65 pc1] 29 (0, 0))).heap.size (w5.alloc (.cells #[.slice p1 65 pc1] 29 (0, 0))) w9 := by simpa only [World.size_alloc] using b9
  have HP9 := hid (HPA.out.below b9')
  have Kr9 := hid (KrA.out.below b9')
  clear hr9 b9 b9'
  go_wp2_with fail
  refine (CS.out p1 pc1 w9 HP9.out).mono ?_
  rintro e w10 ⟨rfl, b10⟩
  have HB10 := hid (Below.on HB9.out b10)
  have HR10 := hid (HR9.out.below b10)
  have Kr10 := hid (Kr9.out.below b10)
  have hs10 := HB10.out.size
  have hq10 := Kr10.out.lt
  clear b10
  go_wp2_with (
      refine wpList_store_blk rfl 23 _ _ rfl (w.heap.size + 1) (S9.map (Value.int .u8)).toArray rfl rfl _ 23 Kr10.out 32 size_digest zsize HS9.out.size (ints_one _ _) ?_
      intro w11 hb11 hk11
      have HB11 := hid (hb11.below HB10.out HB10.out.size (by omega))
      have HK11 := hid hk11
      have HR11 := hid ((HR10.out.but hb11 (Nat.lt_succ_self _)).mono (low := w.heap.size) (by omega))
      clear hb11 hk11)
  exact bodyPost_ret (v := .tuple #[.slice a9 (rn + 1) c9, .agg (S9.map (Value.int .u8)).toArray, .bool ok]) (results_tbt Tryd.results17 _ (w.heap.size + 1) _ rfl rfl _ rfl _ 23 HK11.out _ Tryd.underlying23 rfl 32 size_digest HS9.out.size) rfl ⟨_, rfl, ⟨_, _, _, rfl, HR11.out⟩, HB11.out⟩
end Go.Proofs.YtkakoiaahgchmaaDoor
namespace Go.Proofs.YtkakoiaahgchmaaDoor
set_option maxRecDepth 100000
open Go.ChangeShapes Go.WideShapes Go.ChangeAt Go.RowKit
/-- The trail of a log that grows, as the reference makes it. -/
def grR : Nat → List Int → Nat → Nat → Bool → List (List Int) → List (List Int) × List Int × Bool
  | 0, A, _, _, _, _ => ([], A, false)
  | f + 1, A, m, n, cut, ds => if m = n then (if cut then (if ds.length = 1 then ([], ds.getD 0 [], true) else ([], A, false)) else ([], A, decide (ds.length = 0)))
    else if ds.length = 0 then ([], A, false)
    else if m ≤ halfN n then (nodeX (grR f A m (halfN n) cut (ds.take (ds.length - 1))).2.1 (ds.getD (ds.length - 1) []) :: (grR f A m (halfN n) cut (ds.take (ds.length - 1))).1, sumZ (nodeX (grR f A m (halfN n) cut (ds.take (ds.length - 1))).2.1 (ds.getD (ds.length - 1) [])), (grR f A m (halfN n) cut (ds.take (ds.length - 1))).2.2)
    else (nodeX (ds.getD (ds.length - 1) []) (grR f A (m - halfN n) (n - halfN n) true (ds.take (ds.length - 1))).2.1 :: (grR f A (m - halfN n) (n - halfN n) true (ds.take (ds.length - 1))).1, sumZ (nodeX (ds.getD (ds.length - 1) []) (grR f A (m - halfN n) (n - halfN n) true (ds.take (ds.length - 1))).2.1), (grR f A (m - halfN n) (n - halfN n) true (ds.take (ds.length - 1))).2.2)
theorem grR_dg {A : List Int} (hA : Dg A) (f : Nat) : ∀ (m n : Nat) (cut : Bool) (ds : List (List Int)), (∀ d ∈ ds, Dg d) → Dg (grR f A m n cut ds).2.1 := by
  induction f with
  | zero => intro m n cut ds h; exact hA
  | succ f ih =>
    intro m n cut ds h
    unfold grR
    split
    · split
      · split
        · exact Dg.getD h (by omega)
        · exact hA
      · exact hA
    · split
      · exact hA
      · split
        · exact Dg.sum _
        · exact Dg.sum _
theorem grR_length (A : List Int) (f : Nat) : ∀ (m n : Nat) (cut : Bool) (ds : List (List Int)), (grR f A m n cut ds).1.length ≤ f := by
  induction f with
  | zero => intro m n cut ds; exact Nat.le_refl _
  | succ f ih =>
    intro m n cut ds
    unfold grR
    split
    · split
      · split <;> simp
      · simp
    · split
      · simp
      · split
        · simp only [List.length_cons]; exact Nat.succ_le_succ (ih _ _ _ _)
        · simp only [List.length_cons]; exact Nat.succ_le_succ (ih _ _ _ _)
theorem grow_zip (A : List Int) {c b : Bool} {ds : List (List Int)} {L : List Bool} (h : ds.length = L.length + 1 + oneIf c) :
    (restX c ds).zip (b :: L).reverse = (restX c (ds.take (ds.length - 1))).zip L.reverse ++ [(ds.getD (ds.length - 1) [], b)] ∧ startX A c ds = startX A c (ds.take (ds.length - 1)) := by
  have hz := zip_rev_snoc (ds := restX c ds) (L := L) b (by rw [restX_length]; omega)
  rw [List.take_of_length_le (by rw [restX_length]; omega), restX_getD] at hz
  have e1 : L.length + oneIf c = ds.length - 1 := by omega
  rw [e1] at hz
  constructor
  · rw [List.reverse_cons, hz]
    congr 2
    cases c with
    | false => simp only [restX, oneIf, Bool.false_eq_true, if_false, Nat.add_zero] at *; rw [e1]
    | true =>
      simp only [restX, oneIf, if_true] at *
      rw [List.drop_take]
      congr 1
      omega
  · cases c with
    | false => rfl
    | true =>
      simp only [startX, oneIf, if_true] at *
      rw [List.getD_eq_getElem?_getD, List.getD_eq_getElem?_getD, List.getElem?_take, if_pos (by omega)]
theorem grR_gs (A : List Int) (f : Nat) : ∀ (m n : Nat) (cut : Bool) (ds : List (List Int)), n ≤ f → 1 ≤ m → m ≤ n →
    (grR f A m n cut ds).2.2 = decide (ds.length = (gsF f m n cut).1.length + oneIf (gsF f m n cut).2) ∧
    (ds.length = (gsF f m n cut).1.length + oneIf (gsF f m n cut).2 → (grR f A m n cut ds).1 = (trailF (startX A (gsF f m n cut).2 ds) ((restX (gsF f m n cut).2 ds).zip (gsF f m n cut).1.reverse)).reverse ∧ (grR f A m n cut ds).2.1 = topF (startX A (gsF f m n cut).2 ds) ((restX (gsF f m n cut).2 ds).zip (gsF f m n cut).1.reverse)) := by
  induction f with
  | zero => intro m n cut ds h1 h2 h3; omega
  | succ f ih =>
    intro m n cut ds h1 h2 h3
    by_cases hn : m = n
    · subst hn
      rw [gsF_same, grR, if_pos rfl]
      cases cut with
      | false => simp [oneIf, startX, restX, trailF, topF]
      | true =>
        rw [if_pos rfl]
        by_cases hl : ds.length = 1
        · rw [if_pos hl]; simp [oneIf, startX, trailF, topF, hl]
        · rw [if_neg hl]; simp [oneIf, hl]
    · have hh := halfN_lt (n := n) (by omega)
      have ht : (ds.take (ds.length - 1)).length = ds.length - 1 := by rw [List.length_take]; omega
      by_cases hi : m ≤ halfN n
      · rw [show gsF (f + 1) m n cut = (false :: (gsF f m (halfN n) cut).1, (gsF f m (halfN n) cut).2) by rw [gsF, if_neg hn, if_pos hi], grR, if_neg hn]
        have hi2 := ih m (halfN n) cut (ds.take (ds.length - 1)) (by omega) (by omega) hi
        generalize gsF f m (halfN n) cut = g at *
        generalize grR f A m (halfN n) cut (ds.take (ds.length - 1)) = r at *
        by_cases hz : ds.length = 0
        · rw [if_pos hz]
          have hne : ¬ ds.length = (false :: g.1).length + oneIf g.2 := by simp only [List.length_cons]; omega
          exact ⟨(decide_eq_false hne).symm, fun h => absurd h hne⟩
        · rw [if_neg hz, if_pos hi]
          rw [ht] at hi2
          refine ⟨hi2.1.trans (decide_eq_decide.2 (by simp only [List.length_cons]; omega)), fun h => ?_⟩
          obtain ⟨q1, q2⟩ := hi2.2 (by simp only [List.length_cons] at h; omega)
          obtain ⟨z1, z2⟩ := grow_zip A (b := false) (L := g.1) (c := g.2) (ds := ds) (by simp only [List.length_cons] at h; omega)
          show nodeX r.2.1 _ :: r.1 = (trailF (startX A g.2 ds) ((restX g.2 ds).zip (false :: g.1).reverse)).reverse ∧ sumZ (nodeX r.2.1 _) = topF (startX A g.2 ds) ((restX g.2 ds).zip (false :: g.1).reverse)
          rw [z1, z2, trailF_snoc, topF_snoc, List.reverse_append, q1, q2]
          exact ⟨rfl, (nodeL_nodeX _ _).symm⟩
      · rw [show gsF (f + 1) m n cut = (true :: (gsF f (m - halfN n) (n - halfN n) true).1, (gsF f (m - halfN n) (n - halfN n) true).2) by rw [gsF, if_neg hn, if_neg hi], grR, if_neg hn]
        have hi2 := ih (m - halfN n) (n - halfN n) true (ds.take (ds.length - 1)) (by omega) (by omega) (by omega)
        generalize gsF f (m - halfN n) (n - halfN n) true = g at *
        generalize grR f A (m - halfN n) (n - halfN n) true (ds.take (ds.length - 1)) = r at *
        by_cases hz : ds.length = 0
        · rw [if_pos hz]
          have hne : ¬ ds.length = (true :: g.1).length + oneIf g.2 := by simp only [List.length_cons]; omega
          exact ⟨(decide_eq_false hne).symm, fun h => absurd h hne⟩
        · rw [if_neg hz, if_neg hi]
          rw [ht] at hi2
          refine ⟨hi2.1.trans (decide_eq_decide.2 (by simp only [List.length_cons]; omega)), fun h => ?_⟩
          obtain ⟨q1, q2⟩ := hi2.2 (by simp only [List.length_cons] at h; omega)
          obtain ⟨z1, z2⟩ := grow_zip A (b := true) (L := g.1) (c := g.2) (ds := ds) (by simp only [List.length_cons] at h; omega)
          show nodeX _ r.2.1 :: r.1 = (trailF (startX A g.2 ds) ((restX g.2 ds).zip (true :: g.1).reverse)).reverse ∧ sumZ (nodeX _ r.2.1) = topF (startX A g.2 ds) ((restX g.2 ds).zip (true :: g.1).reverse)
          rw [z1, z2, trailF_snoc, topF_snoc, List.reverse_append, q1, q2]
          exact ⟨rfl, (nodeL_nodeX _ _).symm⟩
theorem HiV.nil (base : Nat) (w : World) : HiV base [] (.slice none 0 0) w := ⟨none, 0, 0, rfl, rfl, Nat.le_refl _, by omega, .inl rfl⟩
/-- The reference's trail of a log that grows. -/
theorem refgrow_any {A : List Int} (hA : Dg A) (f : Nat) : ∀ (m n : Nat) (cut : Bool) (ya : Option Addr) (len yc : Nat) (ds : List (List Int)) (w : World), 1 ≤ m → m ≤ n → n ≤ f → n ≤ 200 → f ≤ 200 → len ≤ 1000000 → DigsAt w ya len yc ds →
    Calls Tryd.prog 17 #[.agg (A.map (Value.int .u8)).toArray, .int .i64 m, .int .i64 n, .bool cut, .slice ya len yc] w fun e w' => ∃ v, e = .returned (.tuple #[v, .agg ((grR f A m n cut ds).2.1.map (Value.int .u8)).toArray, .bool (grR f A m n cut ds).2.2]) ∧ HiV w.heap.size (grR f A m n cut ds).1 v w' ∧ Below w.heap.size w w' := by
  induction f with
  | zero => intro m n cut ya len yc ds w h1 h2 h3; omega
  | succ f ih =>
    intro m n cut ya len yc ds w h1 h2 h3 h4 h4b h5 hD
    have hl := hD.length
    by_cases hn : m = n
    · subst hn
      rw [grR, if_pos rfl]
      cases cut with
      | false =>
        refine (refgrow_same A m len ya yc w hA).mono ?_
        rintro e w' ⟨rfl, hb⟩
        exact ⟨_, by rw [hl, show ((len : Int) == 0) = decide (len = 0) by by_cases h : len = 0 <;> simp [h]]; rfl, HiV.nil _ _, hb⟩
      | true =>
        rw [if_pos rfl, hl]
        by_cases hl1 : len = 1
        · rw [if_pos hl1]
          subst hl1
          obtain ⟨x, o, rfl, hx, hc⟩ := hD.at_ (by omega)
          refine (refgrow_one A m x o yc ds w hA hD).mono ?_
          rintro e w' ⟨rfl, hb⟩
          exact ⟨_, rfl, HiV.nil _ _, hb⟩
        · rw [if_neg hl1]
          refine (refgrow_bad A m len ya yc w hA (by omega)).mono ?_
          rintro e w' ⟨rfl, hb⟩
          exact ⟨_, rfl, HiV.nil _ _, hb⟩
    · have hh := halfN_lt (n := n) (by omega)
      rw [grR, if_neg hn, hl]
      rcases Nat.eq_zero_or_pos len with rfl | hp
      · rw [if_pos rfl]
        refine (refgrow_nil A m n cut ya yc w hA (by omega)).mono ?_
        rintro e w' ⟨rfl, hb⟩
        exact ⟨_, rfl, HiV.nil _ _, hb⟩
      · obtain ⟨x, o, rfl, hx, hc⟩ := hD.at_ hp
        rw [if_neg (by omega)]
        have hdt : ∀ d ∈ ds.take (len - 1), Dg d := fun d hd => hD.each d (List.mem_of_mem_take hd)
        by_cases hik : m ≤ halfN n
        · rw [if_pos hik]
          have hL := grR_length A f m (halfN n) cut (ds.take (len - 1))
          exact refgrow_l A m n (halfN n) (len - 1) len cut x o yc ds w hA h4 (by omega) h1 rfl hik (by omega) (by omega) h5 hD _ _ _ (grR_dg hA f _ _ _ _ hdt) (by omega) (fun W hW => ih m (halfN n) cut _ (len - 1) yc _ W h1 hik (by omega) (by omega) (by omega) (by omega) hW)
        · rw [if_neg hik]
          have hL := grR_length A f (m - halfN n) (n - halfN n) true (ds.take (len - 1))
          exact refgrow_r A m n (halfN n) (len - 1) len cut x o yc ds w hA h4 (by omega) h1 rfl hik (by omega) (by omega) h5 hD _ _ _ (grR_dg hA f _ _ _ _ hdt) (by omega) (fun W hW => by
            have := ih (m - halfN n) (n - halfN n) true _ (len - 1) yc _ W (by omega) (by omega) (by omega) (by omega) (by omega) (by omega) hW
            rw [show ((n - halfN n : Nat) : Int) = (n : Int) - (halfN n : Int) by omega, show ((m - halfN n : Nat) : Int) = (m : Int) - (halfN n : Int) by omega] at this
            exact this)
end Go.Proofs.YtkakoiaahgchmaaDoor
namespace Go.Proofs.YtkakoiaahgchmaaDoor
set_option maxRecDepth 100000
open Go.ChangeShapes Go.WideShapes Go.ChangeAt Go.RowKit
set_option maxHeartbeats 4000000 in
theorem refwhole23_any (d : List Int) (ad : Option Addr) (len cap : Nat) (w : World) (hd : Dg d) :
    Calls Tryd.prog 11 #[.agg (d.map (Value.int .u8)).toArray, .slice ad len cap] w fun e w' => e = .returned (.bool (decide (knN d 256 = len))) ∧ Below w.heap.size w w' := by
  have b1 := (Below.refl w.heap.size w).alloc (Nat.le_refl _) (.cells (d.map (Value.int .u8)).toArray 23 (0, 0))
  have Kd := hid (Blk.new (w := w) (n := w.heap.size) rfl (d.map (Value.int .u8)).toArray 23)
  have Hb := hid b1
  have hbz := b1.size
  have Hbs := hid (show w.heap.size + 1 = (w.alloc (.cells (d.map (Value.int .u8)).toArray 23 (0, 0))).heap.size by simp only [World.size_alloc])
  clear b1 
  go_enter Tryd.func11, Tryd.ntmps11
  go_wp2_with (refine wpList_load_blk rfl 23 _ rfl (w.heap.size) rfl _ 23 Kd.out _ Tryd.underlying23 rfl 32 size_digest hd.size ?_)
  refine (refwhole_any d ad len cap _ hd).mono ?_
  rintro e w1 ⟨rfl, bw1⟩
  have HBw1 := hid (Below.on Hb.out bw1)
  have hsw1 := HBw1.out.size
  have Kdw1 := hid (Kd.out.below bw1)
  clear bw1
  go_wp2_with fail
  go_returns
  exact ⟨rfl, HBw1.out⟩
/-- The trail of a tree as far as a level. -/
def treeK (p : Bool) (i c d : List Int) (ns : List (List Int)) (k : Nat) : List (List Int) := ((lastX p i c) :: trailF (lastD p i c) (treeS i d ns k)).reverse
theorem treeK_zero (p : Bool) (i c d : List Int) (ns : List (List Int)) : treeK p i c d ns 0 = [lastX p i c] := rfl
theorem treeK_all (p : Bool) (i c d : List Int) (ns : List (List Int)) : treeK p i c d ns 256 = treeT p i c d ns := rfl
theorem treeK_length (p : Bool) (i c d : List Int) (ns : List (List Int)) (k : Nat) : (treeK p i c d ns k).length = k + 1 := by
  unfold treeK
  rw [List.length_reverse, List.length_cons, trailF_length, treeS_length]
theorem treeK_head (p : Bool) (i c d : List Int) (ns : List (List Int)) (k : Nat) : sumZ ((treeK p i c d ns k).getD 0 []) = climbK d i ns (lastD p i c) k := by
  unfold treeK
  rw [lastD_sum, trail_head, ← lastD_sum]
  exact topF_tree i d ns _ k
theorem treeK_succ (p : Bool) (i c d : List Int) (ns : List (List Int)) (k : Nat) : treeK p i c d ns (k + 1) =
    (if bitL i k = 1 then nodeX (sibL d ns k) (sumZ ((treeK p i c d ns k).getD 0 [])) else nodeX (sumZ ((treeK p i c d ns k).getD 0 [])) (sibL d ns k)) :: treeK p i c d ns k := by
  rw [treeK_head]
  unfold treeK
  rw [treeS_succ, trailF_snoc, ← List.cons_append, List.reverse_append, topF_tree]
  simp only [List.reverse_cons, List.reverse_nil, List.nil_append, List.singleton_append]
  congr 1
  by_cases h : bitL i k = 1
  · rw [if_pos h, decide_eq_true h, if_pos rfl]
  · rw [if_neg h, decide_eq_false h, if_neg (by simp)]
end Go.Proofs.YtkakoiaahgchmaaDoor
namespace Go.Proofs.YtkakoiaahgchmaaDoor
set_option maxRecDepth 100000
open Go.ChangeShapes Go.WideShapes Go.ChangeAt Go.RowKit
theorem treeK_small0 {w : World} {i c d : List Int} {ns : List (List Int)} {ad : Option Addr} {len cap : Nat} (hi : Dg i) (hc : Dg c) (hns : DigsAt w ad len cap ns) (hn : knN d 256 = len) (p : Bool) (k : Nat) (hk : k ≤ 256) : ((treeK p i c d ns k).getD 0 []).length ≤ 1000000 := by
  cases k with
  | zero =>
    rw [treeK_zero]
    show (lastX p i c).length ≤ _
    unfold lastX
    split
    · rw [List.length_cons, List.length_append, hi.len, hc.len]; omega
    · simp
  | succ k =>
    have hs := Dg.sibL hn hns (k := k) (by omega)
    have hx := Dg.sum ((treeK p i c d ns k).getD 0 [])
    rw [treeK_succ, List.getD_cons_zero]
    unfold nodeX
    split
    · rw [List.length_cons, List.length_append, hs.len, hx.len]; omega
    · rw [List.length_cons, List.length_append, hs.len, hx.len]; omega
set_option maxHeartbeats 4000000 in
theorem reftree_no (i c d : List Int) (ad : Option Addr) (len cap : Nat) (ns : List (List Int)) (w : World) (hi : Dg i) (hc : Dg c) (hd : Dg d) (hns : DigsAt w ad len cap ns) (hn : knN d 256 = len) :
    Calls Tryd.prog 13 #[.agg (i.map (Value.int .u8)).toArray, .bool false, .agg (c.map (Value.int .u8)).toArray, .agg (d.map (Value.int .u8)).toArray, .slice ad len cap] w fun e w' => ∃ v, e = .returned v ∧ TextsV (treeT false i c d ns) v w' ∧ Below w.heap.size w w' := by
  have b1 := (Below.refl w.heap.size w).alloc (Nat.le_refl _) (.cells (i.map (Value.int .u8)).toArray 23 (0, 0))
  have b2 := b1.alloc b1.size (.cells (c.map (Value.int .u8)).toArray 23 (0, 0))
  have b3 := b2.alloc b2.size (.cells (d.map (Value.int .u8)).toArray 23 (0, 0))
  have Ki := hid (((Blk.new (w := w) (n := w.heap.size) rfl (i.map (Value.int .u8)).toArray 23).old (.cells (c.map (Value.int .u8)).toArray 23 (0, 0))).old (.cells (d.map (Value.int .u8)).toArray 23 (0, 0)))
  have Kc := hid ((Blk.new (w := (w.alloc (.cells (i.map (Value.int .u8)).toArray 23 (0, 0)))) (n := w.heap.size + 1) (by simp only [World.size_alloc]) (c.map (Value.int .u8)).toArray 23).old (.cells (d.map (Value.int .u8)).toArray 23 (0, 0)))
  have Kd := hid (Blk.new (w := ((w.alloc (.cells (i.map (Value.int .u8)).toArray 23 (0, 0))).alloc (.cells (c.map (Value.int .u8)).toArray 23 (0, 0)))) (n := w.heap.size + 1 + 1) (by simp only [World.size_alloc]) (d.map (Value.int .u8)).toArray 23)
  have Hb := hid b3
  have hbz := b3.size
  have Hbs := hid (show w.heap.size + 1 + 1 + 1 = (((w.alloc (.cells (i.map (Value.int .u8)).toArray 23 (0, 0))).alloc (.cells (c.map (Value.int .u8)).toArray 23 (0, 0))).alloc (.cells (d.map (Value.int .u8)).toArray 23 (0, 0))).heap.size by simp only [World.size_alloc])
  clear b1 b2 b3 
  go_enter Tryd.func13, Tryd.ntmps13
  have bA := Hb.out.alloc Hb.out.size (.cells (([2] : List Int).map (Value.int .u8)).toArray 5 (0, 0))
  have KiA := hid (Ki.out.old (.cells (([2] : List Int).map (Value.int .u8)).toArray 5 (0, 0)))
  have KdA := hid (Kd.out.old (.cells (([2] : List Int).map (Value.int .u8)).toArray 5 (0, 0)))
  have htA : TextAt ((((w.alloc (.cells (i.map (Value.int .u8)).toArray 23 (0, 0))).alloc (.cells (c.map (Value.int .u8)).toArray 23 (0, 0))).alloc (.cells (d.map (Value.int .u8)).toArray 23 (0, 0))).alloc (.cells (([2] : List Int).map (Value.int .u8)).toArray 5 (0, 0))) (some ⟨(((w.alloc (.cells (i.map (Value.int .u8)).toArray 23 (0, 0))).alloc (.cells (c.map (Value.int .u8)).toArray 23 (0, 0))).alloc (.cells (d.map (Value.int .u8)).toArray 23 (0, 0))).heap.size, 0, none⟩) 1 1 [2] := TextAt.made (w := (((w.alloc (.cells (i.map (Value.int .u8)).toArray 23 (0, 0))).alloc (.cells (c.map (Value.int .u8)).toArray 23 (0, 0))).alloc (.cells (d.map (Value.int .u8)).toArray 23 (0, 0)))) (bs := [2]) (n := 1) (T := 5) (0, 0) rfl (by omega) (by simp)
  rw [← Hbs.out] at htA
  have HTA := hid htA
  have HbA := hid bA
  clear bA htA
  go_wp2_with fail
  refine (refempty_any _).mono ?_
  rintro e w1 ⟨v, rfl, b1, ho⟩
  have HB1 := hid (Below.on HbA.out b1)
  have hs1 := HB1.out.size
  have Ki1 := hid (KiA.out.below b1)
  have Kd1 := hid (KdA.out.below b1)
  have HT1 := hid (HTA.out.below b1)
  have ho := ho.re (base' := (w.heap.size + 1 + 1 + 1)) (by simp only [World.size_alloc]; omega)
  obtain ⟨ea, ec, rfl, -, -⟩ := ho.digs
  rw [empN_length] at ho ⊢
  have HO1 := hid ho
  clear b1 ho
  have al3 := ((Below.refl _ w1).alloc (Nat.le_refl _) (.cells #[.slice (some ⟨w.heap.size + 1 + 1 + 1, 0, none⟩) 1 1] 29 (0, 0)))
  have HB3 := hid (HB1.out.alloc HB1.out.size (.cells #[.slice (some ⟨w.heap.size + 1 + 1 + 1, 0, none⟩) 1 1] 29 (0, 0)))
  have Ki3 := hid (Ki1.out.below al3)
  have Kd3 := hid (Kd1.out.below al3)
  have HT3 := hid (HT1.out.below al3)
  have HO3 := hid (HO1.out.below al3)
  have HR3 := hid (TextsAt.of_blk (n := 1) (cap := 1) (ts := [[2]]) (Blk.new (w := w1) rfl #[.slice (some ⟨w.heap.size + 1 + 1 + 1, 0, none⟩) 1 1] 29) rfl (Nat.le_refl _) (by omega) fun j hj => by
    match j, hj with
    | 0, _ => exact ⟨_, _, _, rfl, HT3.out⟩)
  clear al3
  go_wp2_with fail
  go_loopw [13, 14, 15] (fun rv av kv wr => ∃ (k : Nat) (ra : Option Addr) (rc : Nat), k ≤ 256 ∧ kv = .int .i64 k ∧ av = .int .i64 (knN d k : Nat) ∧ rv = .slice ra (k + 1) rc ∧ TextsAt wr ra (k + 1) rc (treeK false i c d ns k) ∧ Blk wr w.heap.size (i.map (Value.int .u8)).toArray 23 ∧ Blk wr (w.heap.size + 1 + 1) (d.map (Value.int .u8)).toArray 23 ∧ OwnD wr (w.heap.size + 1 + 1 + 1) 23 (.slice ea 257 ec) (empN 257) ∧ Below w.heap.size w wr) (fun _ _ kv _ => 256 - (intOf kv).toNat)
  case atStart => exact ⟨0, _, _, Nat.zero_le _, rfl, rfl, rfl, HR3.out, Ki3.out, Kd3.out, HO3.out, HB3.out⟩
  case round =>
    obtain ⟨k, ra, rc, hk, rfl, rfl, rfl, hra, ki, kd, ho, bel⟩ := hrel
    have Kiwr := hid ki
    have Kdwr := hid kd
    have HRwr := hid hra
    have HBwr := hid bel
    have KOwr := hid ho
    have hswr := bel.size
    have hrl := kd.lt
    have hnk := knN_le d k
    clear ki kd bel hra
    by_cases hlt : k < 256
    · skip
      have hc0 : (k : Int) < 256 := by omega
      obtain ⟨g, o, rfl, ⟨hgb, hgl⟩, hr0⟩ := own_at ho (show k < (empN 257).length by rw [empN_length]; omega)
      rw [empN_get (by omega)] at hr0
      have Hr0 := hid hr0
      have HE := hid (Dg.emptyL k)
      have HI0 := hid hi
      have HD0 := hid hd
      have CB := hid (fun W : World => refbit_in i k W hi hlt)
      have HN := hid (show knN d (k + 1) = knN d k + (if knB d k then 1 else 0) from rfl)
      have HS := hid (treeK_succ false i c d ns k)
      have HLN := hid (treeK_length false i c d ns k)
      have HSB := hid (show sibL d ns k = if knB d k then ns.getD (knN d k) [] else emptyL k from rfl)
      have HKB := hid (show knB d k = decide (d.getD (k / 8) 0 / 2 ^ (k % 8) % 2 = 1) from rfl)
      have hxx := dg_at hd (k / 8)
      have hlen := hd.len
      have HXE := hid (fun (W : World) (K : Blk W (w.heap.size + 1 + 1) (d.map (Value.int .u8)).toArray 23) => show W.cell? ⟨w.heap.size + 1 + 1, k / 8, none⟩ = some (.int .u8 (d.getD (k / 8) 0)) from by rw [K.cell, List.getElem?_toArray, List.getElem?_map, List.getD_eq_getElem?_getD, List.getElem?_eq_getElem (by omega)]; rfl)
      have hI0 : ¬ (k : Int) / 8 < 0 := by omega
      have hI1 : ¬ (32 : Int) ≤ (k : Int) / 8 := by omega
      have hI2 : ¬ (k : Int) % 8 < 0 := by omega
      generalize d.getD (k / 8) 0 = xb at *
      generalize emptyL k = E at *
      obtain ⟨gx, gy, xa, xl, xc, rfl, hgx, hxc, hxt⟩ := HRwr.out.at_ 0 (by omega)
      have HL0 := hid (treeK_small0 hi hc hns hn false k (by omega))
      generalize treeK false i c d ns k = L at *
      have HXT := hid hxt
      have HXC := hid hxc
      have hxl := hxt.length
      have HX9 := hid (Dg.sum (L.getD 0 []))
      have CS := hid (fun (W : World) (h : TextAt W xa xl xc (L.getD 0 [])) => refsum_any xa xl xc (L.getD 0 []) W h (by have := HL0.out; omega))
      generalize hX9 : sumZ (L.getD 0 []) = X9 at *
      clear ho hr0 hxt hxc hX9
      go_wp2_with (first
         | (refine wpList_index_digs rfl 24 _ _ rfl Tryd.underlying24 size_digest g o 257 ec rfl _ _ rfl k rfl (by omega) ?_)
         | (refine wpList_load_mid rfl 23 _ rfl g (o + k * 32) rfl _ _ Hr0.out Tryd.underlying23 rfl (by rw [List.length_map, HE.out.len]; exact size_digest) ?_)
         | (
            refine wpList_store_blk rfl 23 _ _ rfl (wr.heap.size) (E.map (Value.int .u8)).toArray rfl rfl _ 23 (Blk.new rfl (byteCells 32 []) _) 32 size_digest zsize HE.out.size (ints_one _ _) ?_
            intro w21 hbw21 hkw21
            have hw21 := hbw21.below ((Below.refl wr.heap.size wr).alloc (Nat.le_refl _) _) (by simp only [World.size_alloc]; omega) (Nat.le_refl _)
            have HBw21 := hid (Below.on HBwr.out hw21)
            have hsw21 := HBw21.out.size
            have Kiw21 := hid (Kiwr.out.below hw21)
            have hliw21 := Kiwr.out.lt
            have Kdw21 := hid (Kdwr.out.below hw21)
            have hldw21 := Kdwr.out.lt
            have Ksw21 := hid hkw21
            have hfw21 : w.heap.size ≤ wr.heap.size := HBwr.out.size
            have HRw21 := hid (HRwr.out.below hw21)
            have KOw21 := hid (KOwr.out.below hw21)
            have HXTw21 := hid (HXT.out.below hw21)
            have HXCw21 := hid ((hw21.cell (p := ⟨gx, gy, none⟩) hgx).trans HXC.out)
            have hxe := HXE.out _ Kdw21.out
            have HWw21 := hid hw21
            clear hbw21 hkw21 hw21))
      go_loopw [17, 18] (fun bv iv wi => ∃ j : Nat, j ≤ k % 8 ∧ iv = .int .i64 j ∧ bv = .int .u8 (xb / 2 ^ j) ∧ w21 = wi) (fun _ iv _ => 8 - (intOf iv).toNat)
      case atStart => exact ⟨0, Nat.zero_le _, rfl, by rw [Int.pow_zero, Int.ediv_one], rfl⟩
      case round =>
        obtain ⟨j, hj, rfl, rfl, hwi⟩ := hrel
        subst hwi
        have hj8 : j < 8 := by omega
        have hyy : 0 ≤ xb / 2 ^ j ∧ xb / 2 ^ j < 256 := ⟨Int.ediv_nonneg hxx.1 (Int.le_of_lt (Int.pow_pos (by omega))), Int.lt_of_le_of_lt (Int.ediv_le_self _ hxx.1) hxx.2⟩
        by_cases hlj : j < k % 8
        · skip
          have hc1 : (j : Int) < (k : Int) % 8 := by omega
          have HS := hid (show xb / 2 ^ (j + 1) = xb / 2 ^ j / 2 by rw [Int.pow_succ]; first | exact (Int.ediv_ediv_of_nonneg (Int.le_of_lt (Int.pow_pos (by omega)))).symm | (rw [Int.ediv_ediv_of_nonneg (Int.le_of_lt (Int.pow_pos (by omega)))]))
          generalize hY : xb / 2 ^ j = y at *
          have HY := hid hY
          clear hY
          go_wp2_with fail
          exact ⟨⟨j + 1, by omega, by first | rfl | simp, by rw [HS.out], by first | rfl | trivial⟩, by simp [intOf]; omega⟩
        · skip
          have hk7 : j = k % 8 := by omega
          have hc1 : ¬ ((j : Int) < (k : Int) % 8) := by omega
          rw [← hk7] at HKB
          clear hk7
          generalize hY : xb / 2 ^ j = y at *
          clear hY
          cases hB : knB d k
          · skip
            rw [hB] at HN HSB HKB
            clear hB
            have hc2 : (y % 2 == 1) = false := by
              have := of_decide_eq_false HKB.out.symm
              simpa using this
            rw [if_neg (by simp)] at HSB
            generalize hQ : knN d k = q at *
            clear hQ
            have HK8 := hid hnk
            clear hnk
            have hxc0 : w21.cell? ⟨gx, gy, none⟩ = some (.slice xa xl xc) := HXCw21.out
            go_wp2_with (refine wpList_index_s 1 (by first | rfl | go_simp) 31 _ _ rfl Tryd.underlying31 size_text gx gy (k + 1) rc rfl _ _ rfl 0 rfl (by omega) ?_)
            have HRp := hid HRw21.out
            have KOp := hid KOw21.out
            refine (CS.out _ HXTw21.out).mono ?_
            rintro e w22 ⟨rfl, bw22⟩
            have HBw22 := hid (Below.on HBw21.out bw22)
            have hsw22 := HBw22.out.size
            have Kiw22 := hid (Kiw21.out.below bw22)
            have Kdw22 := hid (Kdw21.out.below bw22)
            have Ksw22 := hid (Ksw21.out.below bw22)
            have HRq := hid (HRp.out.below bw22)
            have KOq := hid (KOp.out.below bw22)
            clear bw22
            skip
            go_wp2_with (first
               | (
                  refine wpList_store_blk rfl 23 _ _ rfl (w22.heap.size) (X9.map (Value.int .u8)).toArray rfl rfl _ 23 (Blk.new rfl (byteCells 32 []) _) 32 size_digest zsize HX9.out.size (ints_one _ _) ?_
                  intro w23 hbw23 hkw23
                  have hw23 := hbw23.below ((Below.refl w22.heap.size w22).alloc (Nat.le_refl _) _) (by simp only [World.size_alloc]; omega) (Nat.le_refl _)
                  have HBw23 := hid (Below.on HBw22.out hw23)
                  have hsw23 := HBw23.out.size
                  have Kiw23 := hid (Kiw22.out.below hw23)
                  have hliw23 := Kiw22.out.lt
                  have Kdw23 := hid (Kdw22.out.below hw23)
                  have hldw23 := Kdw22.out.lt
                  have Ksw23 := hid (Ksw22.out.below hw23)
                  have hlsw23 := Ksw22.out.lt
                  have Kxw23 := hid hkw23
                  have hfw23 : w.heap.size ≤ w22.heap.size := HBw22.out.size
                  have HRw23 := hid (HRq.out.below hw23)
                  have KOw23 := hid (KOq.out.below hw23)
                  clear hbw23 hkw23 hw23)
               | (refine wpList_load_blk rfl 23 _ rfl (w22.heap.size) rfl _ 23 Kxw23.out _ Tryd.underlying23 rfl 32 size_digest HX9.out.size ?_)
               | (refine wpList_load_blk rfl 23 _ rfl (wr.heap.size) rfl _ 23 Ksw23.out _ Tryd.underlying23 rfl 32 size_digest HE.out.size ?_))
            refine (refpair_any X9 E _ HX9.out HE.out).mono ?_
            rintro e w24 ⟨p1, pc1, rfl, hp1, bw24⟩
            have HBw24 := hid (Below.on HBw23.out bw24)
            have hsw24 := HBw24.out.size
            have Kiw24 := hid (Kiw23.out.below bw24)
            have Kdw24 := hid (Kdw23.out.below bw24)
            have Ksw24 := hid (Ksw23.out.below bw24)
            have Kxw24 := hid (Kxw23.out.below bw24)
            have HRw24 := hid (HRw23.out.below bw24)
            have KOw24 := hid (KOw23.out.below bw24)
            have HP1 := hid hp1
            clear hp1
            clear bw24
            go_wp2_with (refine wpList_load_blk rfl 23 _ rfl (w.heap.size) rfl _ 23 Kiw24.out _ Tryd.underlying23 rfl 32 size_digest HI0.out.size ?_)
            refine (CB.out _).mono ?_
            rintro e w25 ⟨rfl, bw25⟩
            have HBw25 := hid (Below.on HBw24.out bw25)
            have hsw25 := HBw25.out.size
            have Kiw25 := hid (Kiw24.out.below bw25)
            have Kdw25 := hid (Kdw24.out.below bw25)
            have Ksw25 := hid (Ksw24.out.below bw25)
            have Kxw25 := hid (Kxw24.out.below bw25)
            have HRw25 := hid (HRw24.out.below bw25)
            have KOw25 := hid (KOw24.out.below bw25)
            have HP1b := hid (HP1.out.below bw25)
            clear bw25
            by_cases hb : bitL i k = 1
            · skip
              have HE9 := hid hb
              have hc3 : (bitL i k == 1) = true := by simp [hb]
              generalize bitL i k = bv at *
              clear hb
              go_wp2_with (first
                 | (refine wpList_load_blk rfl 23 _ rfl (wr.heap.size) rfl _ 23 Ksw25.out _ Tryd.underlying23 rfl 32 size_digest HE.out.size ?_)
                 | (refine wpList_load_blk rfl 23 _ rfl (w22.heap.size) rfl _ 23 Kxw25.out _ Tryd.underlying23 rfl 32 size_digest HX9.out.size ?_))
              refine (refpair_any E X9 _ HE.out HX9.out).mono ?_
              rintro e w26 ⟨p2, pc2, rfl, hp2, bw26⟩
              have HBw26 := hid (Below.on HBw25.out bw26)
              have hsw26 := HBw26.out.size
              have Kiw26 := hid (Kiw25.out.below bw26)
              have Kdw26 := hid (Kdw25.out.below bw26)
              have Ksw26 := hid (Ksw25.out.below bw26)
              have Kxw26 := hid (Kxw25.out.below bw26)
              have HRw26 := hid (HRw25.out.below bw26)
              have KOw26 := hid (KOw25.out.below bw26)
              have HP2 := hid hp2
              clear hp2
              clear bw26
              have KB := hid (Blk.new (w := w26) (n := w26.heap.size) rfl #[.slice p2 65 pc2] 29)
              have HPA := hid (TextAt.below HP2.out ((Below.refl _ _).alloc (Nat.le_refl _) (.cells #[.slice p2 65 pc2] 29 (0, 0))))
              have HRA := hid (TextsAt.below HRw26.out ((Below.refl _ _).alloc (Nat.le_refl _) (.cells #[.slice p2 65 pc2] 29 (0, 0))))
              have KOA := hid (OwnD.below KOw26.out ((Below.refl _ _).alloc (Nat.le_refl _) (.cells #[.slice p2 65 pc2] 29 (0, 0))))
              have KiA := hid (Kiw26.out.below ((Below.refl _ _).alloc (Nat.le_refl _) (.cells #[.slice p2 65 pc2] 29 (0, 0))))
              have KdA := hid (Kdw26.out.below ((Below.refl _ _).alloc (Nat.le_refl _) (.cells #[.slice p2 65 pc2] 29 (0, 0))))
              have HBA := hid (HBw26.out.alloc HBw26.out.size (.cells #[.slice p2 65 pc2] 29 (0, 0)))
              go_wp2_with (at_builtin; refine wpList_append_ahead rfl _ _ rfl rfl KB.out HPA.out HRA.out (by omega) rfl rfl ?_)
              intro a9 c9 w9 hr9 b9
              have HR9 := hid hr9
              have b9' : Below (w26.alloc (.cells #[.slice p2 65 pc2] 29 (0, 0))).heap.size (w26.alloc (.cells #[.slice p2 65 pc2] 29 (0, 0))) w9 := by simpa only [World.size_alloc] using b9
              have HB9 := hid (Below.on HBA.out b9')
              have KO9 := hid (KOA.out.below b9')
              have Ki9 := hid (KiA.out.below b9')
              have Kd9 := hid (KdA.out.below b9')
              clear hr9 b9 b9'
              go_wp2_with fail
              exact ⟨⟨k + 1, _, _, by omega, by first | rfl | simp, by rw [HN.out]; first | rfl | (rw [show wrap64 ((q : Int) + 1) = (q : Int) + 1 by have := HK8.out; unfold wrap64; omega]; simp), rfl, by rw [HS.out, if_pos HE9.out, HSB.out]; exact HR9.out, Ki9.out, Kd9.out, KO9.out, HB9.out⟩, by simp [intOf]; omega⟩
            · skip
              have HE9 := hid hb
              have hc3 : (bitL i k == 1) = false := by simp [hb]
              generalize bitL i k = bv at *
              clear hb
              have KB := hid (Blk.new (w := w25) (n := w25.heap.size) rfl #[.slice p1 65 pc1] 29)
              have HPA := hid (TextAt.below HP1b.out ((Below.refl _ _).alloc (Nat.le_refl _) (.cells #[.slice p1 65 pc1] 29 (0, 0))))
              have HRA := hid (TextsAt.below HRw25.out ((Below.refl _ _).alloc (Nat.le_refl _) (.cells #[.slice p1 65 pc1] 29 (0, 0))))
              have KOA := hid (OwnD.below KOw25.out ((Below.refl _ _).alloc (Nat.le_refl _) (.cells #[.slice p1 65 pc1] 29 (0, 0))))
              have KiA := hid (Kiw25.out.below ((Below.refl _ _).alloc (Nat.le_refl _) (.cells #[.slice p1 65 pc1] 29 (0, 0))))
              have KdA := hid (Kdw25.out.below ((Below.refl _ _).alloc (Nat.le_refl _) (.cells #[.slice p1 65 pc1] 29 (0, 0))))
              have HBA := hid (HBw25.out.alloc HBw25.out.size (.cells #[.slice p1 65 pc1] 29 (0, 0)))
              go_wp2_with (at_builtin; refine wpList_append_ahead rfl _ _ rfl rfl KB.out HPA.out HRA.out (by omega) rfl rfl ?_)
              intro a9 c9 w9 hr9 b9
              have HR9 := hid hr9
              have b9' : Below (w25.alloc (.cells #[.slice p1 65 pc1] 29 (0, 0))).heap.size (w25.alloc (.cells #[.slice p1 65 pc1] 29 (0, 0))) w9 := by simpa only [World.size_alloc] using b9
              have HB9 := hid (Below.on HBA.out b9')
              have KO9 := hid (KOA.out.below b9')
              have Ki9 := hid (KiA.out.below b9')
              have Kd9 := hid (KdA.out.below b9')
              clear hr9 b9 b9'
              go_wp2_with fail
              exact ⟨⟨k + 1, _, _, by omega, by first | rfl | simp, by rw [HN.out]; first | rfl | (rw [show wrap64 ((q : Int) + 1) = (q : Int) + 1 by have := HK8.out; unfold wrap64; omega]; simp), rfl, by rw [HS.out, if_neg HE9.out, HSB.out]; exact HR9.out, Ki9.out, Kd9.out, KO9.out, HB9.out⟩, by simp [intOf]; omega⟩
          · skip
            rw [hB] at HN HSB HKB
            clear hB
            have hc2 : (y % 2 == 1) = true := by
              have := of_decide_eq_true HKB.out.symm
              simpa using this
            have hkl : knN d k < len := by
              have h1 := knN_mono d (show k + 1 ≤ 256 by omega)
              rw [HN.out, if_pos rfl] at h1
              omega
            obtain ⟨g2, o2, rfl, -, hr2⟩ := (hns.below HBw21.out).at_ (by omega)
            have Hr2 := hid (hr2 _ hkl)
            have HY := hid (hns.get hkl)
            rw [if_pos rfl] at HSB
            generalize ns.getD (knN d k) [] = Y at *
            generalize hQ : knN d k = q at *
            clear hQ hr2
            have HK8 := hid hnk
            clear hnk
            go_wp2_with (first
               | (refine wpList_index_digs rfl 24 _ _ rfl Tryd.underlying24 size_digest g2 o2 len cap rfl _ _ rfl q rfl hkl ?_)
               | (refine wpList_load_mid rfl 23 _ rfl g2 (o2 + q * 32) rfl _ _ Hr2.out Tryd.underlying23 rfl (by rw [List.length_map, HY.out.len]; exact size_digest) ?_)
               | (
                  refine wpList_store_blk rfl 23 _ _ rfl (wr.heap.size) (Y.map (Value.int .u8)).toArray rfl rfl _ 23 Ksw21.out 32 size_digest HE.out.size HY.out.size (ints_one _ _) ?_
                  intro w22 hbw22 hkw22
                  have HBw22 := hid (hbw22.below HBw21.out HBw21.out.size (by omega))
                  have hsw22 := HBw22.out.size
                  have Kiw22 := hid (hbw22.blk Kiw21.out (by have := Kiw21.out.lt; omega))
                  have Kdw22 := hid (hbw22.blk Kdw21.out (by have := Kdw21.out.lt; omega))
                  have Ksw22 := hid hkw22
                  have HWw22 := hid (hbw22.below HWw21.out HWw21.out.size (by omega))
                  have HRw22 := hid (HRwr.out.below HWw22.out)
                  have KOw22 := hid (KOwr.out.below HWw22.out)
                  have HXTw22 := hid (HXT.out.below HWw22.out)
                  have hxc0 : w22.cell? ⟨gx, gy, none⟩ = some (.slice xa xl xc) := (HWw22.out.cell (p := ⟨gx, gy, none⟩) hgx).trans HXC.out
                  clear hbw22 hkw22)
               | (refine wpList_index_s 1 (by first | rfl | go_simp) 31 _ _ rfl Tryd.underlying31 size_text gx gy (k + 1) rc rfl _ _ rfl 0 rfl (by omega) ?_))
            have HRp := hid HRw22.out
            have KOp := hid KOw22.out
            refine (CS.out _ HXTw22.out).mono ?_
            rintro e w23 ⟨rfl, bw23⟩
            have HBw23 := hid (Below.on HBw22.out bw23)
            have hsw23 := HBw23.out.size
            have Kiw23 := hid (Kiw22.out.below bw23)
            have Kdw23 := hid (Kdw22.out.below bw23)
            have Ksw23 := hid (Ksw22.out.below bw23)
            have HRq := hid (HRp.out.below bw23)
            have KOq := hid (KOp.out.below bw23)
            clear bw23
            skip
            go_wp2_with (first
               | (
                  refine wpList_store_blk rfl 23 _ _ rfl (w23.heap.size) (X9.map (Value.int .u8)).toArray rfl rfl _ 23 (Blk.new rfl (byteCells 32 []) _) 32 size_digest zsize HX9.out.size (ints_one _ _) ?_
                  intro w24 hbw24 hkw24
                  have hw24 := hbw24.below ((Below.refl w23.heap.size w23).alloc (Nat.le_refl _) _) (by simp only [World.size_alloc]; omega) (Nat.le_refl _)
                  have HBw24 := hid (Below.on HBw23.out hw24)
                  have hsw24 := HBw24.out.size
                  have Kiw24 := hid (Kiw23.out.below hw24)
                  have hliw24 := Kiw23.out.lt
                  have Kdw24 := hid (Kdw23.out.below hw24)
                  have hldw24 := Kdw23.out.lt
                  have Ksw24 := hid (Ksw23.out.below hw24)
                  have hlsw24 := Ksw23.out.lt
                  have Kxw24 := hid hkw24
                  have hfw24 : w.heap.size ≤ w23.heap.size := HBw23.out.size
                  have HRw24 := hid (HRq.out.below hw24)
                  have KOw24 := hid (KOq.out.below hw24)
                  clear hbw24 hkw24 hw24)
               | (refine wpList_load_blk rfl 23 _ rfl (w23.heap.size) rfl _ 23 Kxw24.out _ Tryd.underlying23 rfl 32 size_digest HX9.out.size ?_)
               | (refine wpList_load_blk rfl 23 _ rfl (wr.heap.size) rfl _ 23 Ksw24.out _ Tryd.underlying23 rfl 32 size_digest HY.out.size ?_))
            refine (refpair_any X9 Y _ HX9.out HY.out).mono ?_
            rintro e w25 ⟨p1, pc1, rfl, hp1, bw25⟩
            have HBw25 := hid (Below.on HBw24.out bw25)
            have hsw25 := HBw25.out.size
            have Kiw25 := hid (Kiw24.out.below bw25)
            have Kdw25 := hid (Kdw24.out.below bw25)
            have Ksw25 := hid (Ksw24.out.below bw25)
            have Kxw25 := hid (Kxw24.out.below bw25)
            have HRw25 := hid (HRw24.out.below bw25)
            have KOw25 := hid (KOw24.out.below bw25)
            have HP1 := hid hp1
            clear hp1
            clear bw25
            go_wp2_with (refine wpList_load_blk rfl 23 _ rfl (w.heap.size) rfl _ 23 Kiw25.out _ Tryd.underlying23 rfl 32 size_digest HI0.out.size ?_)
            refine (CB.out _).mono ?_
            rintro e w26 ⟨rfl, bw26⟩
            have HBw26 := hid (Below.on HBw25.out bw26)
            have hsw26 := HBw26.out.size
            have Kiw26 := hid (Kiw25.out.below bw26)
            have Kdw26 := hid (Kdw25.out.below bw26)
            have Ksw26 := hid (Ksw25.out.below bw26)
            have Kxw26 := hid (Kxw25.out.below bw26)
            have HRw26 := hid (HRw25.out.below bw26)
            have KOw26 := hid (KOw25.out.below bw26)
            have HP1b := hid (HP1.out.below bw26)
            clear bw26
            by_cases hb : bitL i k = 1
            · skip
              have HE9 := hid hb
              have hc3 : (bitL i k == 1) = true := by simp [hb]
              generalize bitL i k = bv at *
              clear hb
              go_wp2_with (first
                 | (refine wpList_load_blk rfl 23 _ rfl (wr.heap.size) rfl _ 23 Ksw26.out _ Tryd.underlying23 rfl 32 size_digest HY.out.size ?_)
                 | (refine wpList_load_blk rfl 23 _ rfl (w23.heap.size) rfl _ 23 Kxw26.out _ Tryd.underlying23 rfl 32 size_digest HX9.out.size ?_))
              refine (refpair_any Y X9 _ HY.out HX9.out).mono ?_
              rintro e w27 ⟨p2, pc2, rfl, hp2, bw27⟩
              have HBw27 := hid (Below.on HBw26.out bw27)
              have hsw27 := HBw27.out.size
              have Kiw27 := hid (Kiw26.out.below bw27)
              have Kdw27 := hid (Kdw26.out.below bw27)
              have Ksw27 := hid (Ksw26.out.below bw27)
              have Kxw27 := hid (Kxw26.out.below bw27)
              have HRw27 := hid (HRw26.out.below bw27)
              have KOw27 := hid (KOw26.out.below bw27)
              have HP2 := hid hp2
              clear hp2
              clear bw27
              have KB := hid (Blk.new (w := w27) (n := w27.heap.size) rfl #[.slice p2 65 pc2] 29)
              have HPA := hid (TextAt.below HP2.out ((Below.refl _ _).alloc (Nat.le_refl _) (.cells #[.slice p2 65 pc2] 29 (0, 0))))
              have HRA := hid (TextsAt.below HRw27.out ((Below.refl _ _).alloc (Nat.le_refl _) (.cells #[.slice p2 65 pc2] 29 (0, 0))))
              have KOA := hid (OwnD.below KOw27.out ((Below.refl _ _).alloc (Nat.le_refl _) (.cells #[.slice p2 65 pc2] 29 (0, 0))))
              have KiA := hid (Kiw27.out.below ((Below.refl _ _).alloc (Nat.le_refl _) (.cells #[.slice p2 65 pc2] 29 (0, 0))))
              have KdA := hid (Kdw27.out.below ((Below.refl _ _).alloc (Nat.le_refl _) (.cells #[.slice p2 65 pc2] 29 (0, 0))))
              have HBA := hid (HBw27.out.alloc HBw27.out.size (.cells #[.slice p2 65 pc2] 29 (0, 0)))
              go_wp2_with (at_builtin; refine wpList_append_ahead rfl _ _ rfl rfl KB.out HPA.out HRA.out (by omega) rfl rfl ?_)
              intro a9 c9 w9 hr9 b9
              have HR9 := hid hr9
              have b9' : Below (w27.alloc (.cells #[.slice p2 65 pc2] 29 (0, 0))).heap.size (w27.alloc (.cells #[.slice p2 65 pc2] 29 (0, 0))) w9 := by simpa only [World.size_alloc] using b9
              have HB9 := hid (Below.on HBA.out b9')
              have KO9 := hid (KOA.out.below b9')
              have Ki9 := hid (KiA.out.below b9')
              have Kd9 := hid (KdA.out.below b9')
              clear hr9 b9 b9'
              go_wp2_with fail
              exact ⟨⟨k + 1, _, _, by omega, by first | rfl | simp, by rw [HN.out]; first | rfl | (rw [show wrap64 ((q : Int) + 1) = (q : Int) + 1 by have := HK8.out; unfold wrap64; omega]; simp), rfl, by rw [HS.out, if_pos HE9.out, HSB.out]; exact HR9.out, Ki9.out, Kd9.out, KO9.out, HB9.out⟩, by simp [intOf]; omega⟩
            · skip
              have HE9 := hid hb
              have hc3 : (bitL i k == 1) = false := by simp [hb]
              generalize bitL i k = bv at *
              clear hb
              have KB := hid (Blk.new (w := w26) (n := w26.heap.size) rfl #[.slice p1 65 pc1] 29)
              have HPA := hid (TextAt.below HP1b.out ((Below.refl _ _).alloc (Nat.le_refl _) (.cells #[.slice p1 65 pc1] 29 (0, 0))))
              have HRA := hid (TextsAt.below HRw26.out ((Below.refl _ _).alloc (Nat.le_refl _) (.cells #[.slice p1 65 pc1] 29 (0, 0))))
              have KOA := hid (OwnD.below KOw26.out ((Below.refl _ _).alloc (Nat.le_refl _) (.cells #[.slice p1 65 pc1] 29 (0, 0))))
              have KiA := hid (Kiw26.out.below ((Below.refl _ _).alloc (Nat.le_refl _) (.cells #[.slice p1 65 pc1] 29 (0, 0))))
              have KdA := hid (Kdw26.out.below ((Below.refl _ _).alloc (Nat.le_refl _) (.cells #[.slice p1 65 pc1] 29 (0, 0))))
              have HBA := hid (HBw26.out.alloc HBw26.out.size (.cells #[.slice p1 65 pc1] 29 (0, 0)))
              go_wp2_with (at_builtin; refine wpList_append_ahead rfl _ _ rfl rfl KB.out HPA.out HRA.out (by omega) rfl rfl ?_)
              intro a9 c9 w9 hr9 b9
              have HR9 := hid hr9
              have b9' : Below (w26.alloc (.cells #[.slice p1 65 pc1] 29 (0, 0))).heap.size (w26.alloc (.cells #[.slice p1 65 pc1] 29 (0, 0))) w9 := by simpa only [World.size_alloc] using b9
              have HB9 := hid (Below.on HBA.out b9')
              have KO9 := hid (KOA.out.below b9')
              have Ki9 := hid (KiA.out.below b9')
              have Kd9 := hid (KdA.out.below b9')
              clear hr9 b9 b9'
              go_wp2_with fail
              exact ⟨⟨k + 1, _, _, by omega, by first | rfl | simp, by rw [HN.out]; first | rfl | (rw [show wrap64 ((q : Int) + 1) = (q : Int) + 1 by have := HK8.out; unfold wrap64; omega]; simp), rfl, by rw [HS.out, if_neg HE9.out, HSB.out]; exact HR9.out, Ki9.out, Kd9.out, KO9.out, HB9.out⟩, by simp [intOf]; omega⟩
    · skip
      have hk7 : k = 256 := by omega
      subst hk7
      have hc0 : ¬ ((256 : Int) < 256) := by omega
      rw [treeK_all] at HRwr
      go_wp2_with fail
      go_returns
      exact ⟨_, rfl, ⟨_, _, _, rfl, HRwr.out⟩, HBwr.out⟩
set_option maxHeartbeats 4000000 in
theorem reftree_yes (i c d : List Int) (ad : Option Addr) (len cap : Nat) (ns : List (List Int)) (w : World) (hi : Dg i) (hc : Dg c) (hd : Dg d) (hns : DigsAt w ad len cap ns) (hn : knN d 256 = len) :
    Calls Tryd.prog 13 #[.agg (i.map (Value.int .u8)).toArray, .bool true, .agg (c.map (Value.int .u8)).toArray, .agg (d.map (Value.int .u8)).toArray, .slice ad len cap] w fun e w' => ∃ v, e = .returned v ∧ TextsV (treeT true i c d ns) v w' ∧ Below w.heap.size w w' := by
  have b1 := (Below.refl w.heap.size w).alloc (Nat.le_refl _) (.cells (i.map (Value.int .u8)).toArray 23 (0, 0))
  have b2 := b1.alloc b1.size (.cells (c.map (Value.int .u8)).toArray 23 (0, 0))
  have b3 := b2.alloc b2.size (.cells (d.map (Value.int .u8)).toArray 23 (0, 0))
  have Ki := hid (((Blk.new (w := w) (n := w.heap.size) rfl (i.map (Value.int .u8)).toArray 23).old (.cells (c.map (Value.int .u8)).toArray 23 (0, 0))).old (.cells (d.map (Value.int .u8)).toArray 23 (0, 0)))
  have Kc := hid ((Blk.new (w := (w.alloc (.cells (i.map (Value.int .u8)).toArray 23 (0, 0)))) (n := w.heap.size + 1) (by simp only [World.size_alloc]) (c.map (Value.int .u8)).toArray 23).old (.cells (d.map (Value.int .u8)).toArray 23 (0, 0)))
  have Kd := hid (Blk.new (w := ((w.alloc (.cells (i.map (Value.int .u8)).toArray 23 (0, 0))).alloc (.cells (c.map (Value.int .u8)).toArray 23 (0, 0)))) (n := w.heap.size + 1 + 1) (by simp only [World.size_alloc]) (d.map (Value.int .u8)).toArray 23)
  have Hb := hid b3
  have hbz := b3.size
  have Hbs := hid (show w.heap.size + 1 + 1 + 1 = (((w.alloc (.cells (i.map (Value.int .u8)).toArray 23 (0, 0))).alloc (.cells (c.map (Value.int .u8)).toArray 23 (0, 0))).alloc (.cells (d.map (Value.int .u8)).toArray 23 (0, 0))).heap.size by simp only [World.size_alloc])
  clear b1 b2 b3 
  go_enter Tryd.func13, Tryd.ntmps13
  have bX := Hb.out.alloc Hb.out.size (.cells (([2] : List Int).map (Value.int .u8)).toArray 5 (0, 0))
  have KiX := hid (Ki.out.old (.cells (([2] : List Int).map (Value.int .u8)).toArray 5 (0, 0)))
  have KcX := hid (Kc.out.old (.cells (([2] : List Int).map (Value.int .u8)).toArray 5 (0, 0)))
  have KdX := hid (Kd.out.old (.cells (([2] : List Int).map (Value.int .u8)).toArray 5 (0, 0)))
  have HbX := hid bX
  clear bX
  go_wp2_with fail
  have HBB : Hid (w.heap.size + 1 + 1 + 1 ≤ ((((w.alloc (.cells (i.map (Value.int .u8)).toArray 23 (0, 0))).alloc (.cells (c.map (Value.int .u8)).toArray 23 (0, 0))).alloc (.cells (d.map (Value.int .u8)).toArray 23 (0, 0))).alloc (.cells (([2] : List Int).map (Value.int .u8)).toArray 5 (0, 0))).heap.size) := hid (by have := Hbs.out; simp only [World.size_alloc] at this ⊢; omega)
  obtain ⟨i0, hinf, hz0, hz1, hz2⟩ := info_parts info_byte
  refine FlowB.wp_region_typed (w.heap.size + 1 + 1 + 1) 5 4 [1, 3] [] [(.c 0, [], []), (.c 2, [], [])] (by kernel_rfl) (by kernel_rfl) ?_
  apply Exists.intro
  refine ⟨fun w0 hb0 hF0 => ?_, ?_⟩
  · simp only [pick, List.getElem?_toArray, List.getElem?_cons_succ, List.getElem?_cons_zero, Option.toList_some, List.cons_append, List.nil_append]
    repeat (go_big_quiet_step (fail))
    exact wpQuiet_nil rfl
  refine FlowB.AlChk.nil ?_
  refine FlowB.Walk.does rfl (fun _ _ => True) (fun v w' => OwnB w' (w.heap.size + 1 + 1 + 1) 5 v [0]) (fun v w' w'' _ h _ => h) (fun v w' w'' h k => h.below k) rfl (fun w5 hb5 hF5 _ => ?_) ?_
  · exact ⟨.slice (some ⟨w5.heap.size, 0, none⟩) 1 1, w5.alloc (.cells (([0] : List Int).map (Value.int .u8)).toArray 5), by first | (go_simp; done) | (go_simp; rfl), (FlowB.rel_typed _ _).of ((Below.refl _ _).alloc (Nat.le_refl _) _), trivial, OwnB.of_blk (Blk.new rfl _ _) (Nat.le_trans HBB.out hb5.size) rfl (by omega) (by simp)⟩
  rintro vl w5 hb5 hF5 _
  apply Exists.intro
  refine ⟨fun w4 hb4 hF4 => wpQuiet_nil rfl, ?_⟩
  refine FlowB.AlChk.nil ?_
  refine FlowB.Walk.does rfl (fun _ _ => True) (fun v w' => OwnB w' (w.heap.size + 1 + 1 + 1) 5 v ([0] ++ i)) (fun v w' w'' _ h _ => h) (fun v w' w'' h k => h.below k) rfl (fun w2 hb2 hF2 hG2 => ?_) ?_
  · have hbB := hb2.below (B := w.heap.size + 1 + 1 + 1) HBB.out
    obtain ⟨v', w', hr, q2, q3, q4⟩ := run_append_text (P := Tryd.prog) 29 Tryd.underlying29 hinf hz0 hz1 hz2 hG2 (hi.text (KiX.out.belowB (by omega) hbB)) (by simp) (Nat.le_trans HBB.out hb2.size)
    exact ⟨v', w', FlowB.exec_append rfl rfl rfl hr, hG2.typed (Nat.le_refl _) q3, trivial, q2⟩
  rintro v3 w3 hb3 hF3 _
  apply Exists.intro
  refine ⟨fun w2 hb2 hF2 => wpQuiet_nil rfl, ?_⟩
  refine FlowB.AlChk.nil ?_
  refine FlowB.Walk.fin fun w4 h4 _ hG4 => ?_
  simp only [List.drop_succ_cons, List.drop_zero]
  have hbB := h4.below (B := w.heap.size + 1 + 1 + 1) HBB.out
  have Kc4 := hid (KcX.out.belowB (by omega) hbB)
  have Hb4 := hid (HbX.out.trans (hbB.mono (by omega)))
  have Ho4 := hid (show OwnB w4 (w.heap.size + 1 + 1 + 1) 5 v3 ([0] ++ i) from hG4)
  have hsz4 : w.heap.size + 1 + 1 + 1 ≤ w4.heap.size := Nat.le_trans HBB.out h4.size
  have Ki4 := hid (KiX.out.belowB (by omega) hbB)
  have Kd4 := hid (KdX.out.belowB (by omega) hbB)
  clear h4 hG4 hbB HbX
  go_wp2_with (at_builtin; refine wpList_append_text rfl _ _ rfl Tryd.underlying29 hinf hz0 hz1 hz2 rfl Ho4.out rfl (hc.text Kc4.out) (by rw [List.length_append, hi.len]; simp) hsz4 ?_)
  intro v5 w5 own5 _ b5
  obtain ⟨a5, c5, rfl, hT5, _⟩ := own5.text
  rw [show (0 :: (i ++ c)).length = 65 by rw [List.length_cons, List.length_append, hi.len, hc.len]] at hT5 ⊢
  have HT5 := hid hT5
  have HBw5 := hid (Hb4.out.trans (b5.mono (by omega)))
  have KiA := hid (Ki4.out.belowB (by omega) b5)
  have KdA := hid (Kd4.out.belowB (by omega) b5)
  have hszA : w.heap.size + 1 + 1 + 1 ≤ w5.heap.size := Nat.le_trans hsz4 b5.size
  clear own5 hT5 b5
  have HTA := HT5
  have HbA := HBw5
  go_wp2_with fail
  refine (refempty_any _).mono ?_
  rintro e w1 ⟨v, rfl, b1, ho⟩
  have HB1 := hid (Below.on HbA.out b1)
  have hs1 := HB1.out.size
  have Ki1 := hid (KiA.out.below b1)
  have Kd1 := hid (KdA.out.below b1)
  have HT1 := hid (HTA.out.below b1)
  have ho := ho.re (base' := (w.heap.size + 1 + 1 + 1)) hszA
  obtain ⟨ea, ec, rfl, -, -⟩ := ho.digs
  rw [empN_length] at ho ⊢
  have HO1 := hid ho
  clear b1 ho
  have al3 := ((Below.refl _ w1).alloc (Nat.le_refl _) (.cells #[.slice a5 65 c5] 29 (0, 0)))
  have HB3 := hid (HB1.out.alloc HB1.out.size (.cells #[.slice a5 65 c5] 29 (0, 0)))
  have Ki3 := hid (Ki1.out.below al3)
  have Kd3 := hid (Kd1.out.below al3)
  have HT3 := hid (HT1.out.below al3)
  have HO3 := hid (HO1.out.below al3)
  have HR3 := hid (TextsAt.of_blk (n := 1) (cap := 1) (ts := [(0 :: (i ++ c))]) (Blk.new (w := w1) rfl #[.slice a5 65 c5] 29) rfl (Nat.le_refl _) (by omega) fun j hj => by
    match j, hj with
    | 0, _ => exact ⟨_, _, _, rfl, HT3.out⟩)
  clear al3
  go_wp2_with fail
  go_loopw [13, 14, 15] (fun rv av kv wr => ∃ (k : Nat) (ra : Option Addr) (rc : Nat), k ≤ 256 ∧ kv = .int .i64 k ∧ av = .int .i64 (knN d k : Nat) ∧ rv = .slice ra (k + 1) rc ∧ TextsAt wr ra (k + 1) rc (treeK true i c d ns k) ∧ Blk wr w.heap.size (i.map (Value.int .u8)).toArray 23 ∧ Blk wr (w.heap.size + 1 + 1) (d.map (Value.int .u8)).toArray 23 ∧ OwnD wr (w.heap.size + 1 + 1 + 1) 23 (.slice ea 257 ec) (empN 257) ∧ Below w.heap.size w wr) (fun _ _ kv _ => 256 - (intOf kv).toNat)
  case atStart => exact ⟨0, _, _, Nat.zero_le _, rfl, rfl, rfl, HR3.out, Ki3.out, Kd3.out, HO3.out, HB3.out⟩
  case round =>
    obtain ⟨k, ra, rc, hk, rfl, rfl, rfl, hra, ki, kd, ho, bel⟩ := hrel
    have Kiwr := hid ki
    have Kdwr := hid kd
    have HRwr := hid hra
    have HBwr := hid bel
    have KOwr := hid ho
    have hswr := bel.size
    have hrl := kd.lt
    have hnk := knN_le d k
    clear ki kd bel hra
    by_cases hlt : k < 256
    · skip
      have hc0 : (k : Int) < 256 := by omega
      obtain ⟨g, o, rfl, ⟨hgb, hgl⟩, hr0⟩ := own_at ho (show k < (empN 257).length by rw [empN_length]; omega)
      rw [empN_get (by omega)] at hr0
      have Hr0 := hid hr0
      have HE := hid (Dg.emptyL k)
      have HI0 := hid hi
      have HD0 := hid hd
      have CB := hid (fun W : World => refbit_in i k W hi hlt)
      have HN := hid (show knN d (k + 1) = knN d k + (if knB d k then 1 else 0) from rfl)
      have HS := hid (treeK_succ true i c d ns k)
      have HLN := hid (treeK_length true i c d ns k)
      have HSB := hid (show sibL d ns k = if knB d k then ns.getD (knN d k) [] else emptyL k from rfl)
      have HKB := hid (show knB d k = decide (d.getD (k / 8) 0 / 2 ^ (k % 8) % 2 = 1) from rfl)
      have hxx := dg_at hd (k / 8)
      have hlen := hd.len
      have HXE := hid (fun (W : World) (K : Blk W (w.heap.size + 1 + 1) (d.map (Value.int .u8)).toArray 23) => show W.cell? ⟨w.heap.size + 1 + 1, k / 8, none⟩ = some (.int .u8 (d.getD (k / 8) 0)) from by rw [K.cell, List.getElem?_toArray, List.getElem?_map, List.getD_eq_getElem?_getD, List.getElem?_eq_getElem (by omega)]; rfl)
      have hI0 : ¬ (k : Int) / 8 < 0 := by omega
      have hI1 : ¬ (32 : Int) ≤ (k : Int) / 8 := by omega
      have hI2 : ¬ (k : Int) % 8 < 0 := by omega
      generalize d.getD (k / 8) 0 = xb at *
      generalize emptyL k = E at *
      obtain ⟨gx, gy, xa, xl, xc, rfl, hgx, hxc, hxt⟩ := HRwr.out.at_ 0 (by omega)
      have HL0 := hid (treeK_small0 hi hc hns hn true k (by omega))
      generalize treeK true i c d ns k = L at *
      have HXT := hid hxt
      have HXC := hid hxc
      have hxl := hxt.length
      have HX9 := hid (Dg.sum (L.getD 0 []))
      have CS := hid (fun (W : World) (h : TextAt W xa xl xc (L.getD 0 [])) => refsum_any xa xl xc (L.getD 0 []) W h (by have := HL0.out; omega))
      generalize hX9 : sumZ (L.getD 0 []) = X9 at *
      clear ho hr0 hxt hxc hX9
      go_wp2_with (first
         | (refine wpList_index_digs rfl 24 _ _ rfl Tryd.underlying24 size_digest g o 257 ec rfl _ _ rfl k rfl (by omega) ?_)
         | (refine wpList_load_mid rfl 23 _ rfl g (o + k * 32) rfl _ _ Hr0.out Tryd.underlying23 rfl (by rw [List.length_map, HE.out.len]; exact size_digest) ?_)
         | (
            refine wpList_store_blk rfl 23 _ _ rfl (wr.heap.size) (E.map (Value.int .u8)).toArray rfl rfl _ 23 (Blk.new rfl (byteCells 32 []) _) 32 size_digest zsize HE.out.size (ints_one _ _) ?_
            intro w21 hbw21 hkw21
            have hw21 := hbw21.below ((Below.refl wr.heap.size wr).alloc (Nat.le_refl _) _) (by simp only [World.size_alloc]; omega) (Nat.le_refl _)
            have HBw21 := hid (Below.on HBwr.out hw21)
            have hsw21 := HBw21.out.size
            have Kiw21 := hid (Kiwr.out.below hw21)
            have hliw21 := Kiwr.out.lt
            have Kdw21 := hid (Kdwr.out.below hw21)
            have hldw21 := Kdwr.out.lt
            have Ksw21 := hid hkw21
            have hfw21 : w.heap.size ≤ wr.heap.size := HBwr.out.size
            have HRw21 := hid (HRwr.out.below hw21)
            have KOw21 := hid (KOwr.out.below hw21)
            have HXTw21 := hid (HXT.out.below hw21)
            have HXCw21 := hid ((hw21.cell (p := ⟨gx, gy, none⟩) hgx).trans HXC.out)
            have hxe := HXE.out _ Kdw21.out
            have HWw21 := hid hw21
            clear hbw21 hkw21 hw21))
      go_loopw [17, 18] (fun bv iv wi => ∃ j : Nat, j ≤ k % 8 ∧ iv = .int .i64 j ∧ bv = .int .u8 (xb / 2 ^ j) ∧ w21 = wi) (fun _ iv _ => 8 - (intOf iv).toNat)
      case atStart => exact ⟨0, Nat.zero_le _, rfl, by rw [Int.pow_zero, Int.ediv_one], rfl⟩
      case round =>
        obtain ⟨j, hj, rfl, rfl, hwi⟩ := hrel
        subst hwi
        have hj8 : j < 8 := by omega
        have hyy : 0 ≤ xb / 2 ^ j ∧ xb / 2 ^ j < 256 := ⟨Int.ediv_nonneg hxx.1 (Int.le_of_lt (Int.pow_pos (by omega))), Int.lt_of_le_of_lt (Int.ediv_le_self _ hxx.1) hxx.2⟩
        by_cases hlj : j < k % 8
        · skip
          have hc1 : (j : Int) < (k : Int) % 8 := by omega
          have HS := hid (show xb / 2 ^ (j + 1) = xb / 2 ^ j / 2 by rw [Int.pow_succ]; first | exact (Int.ediv_ediv_of_nonneg (Int.le_of_lt (Int.pow_pos (by omega)))).symm | (rw [Int.ediv_ediv_of_nonneg (Int.le_of_lt (Int.pow_pos (by omega)))]))
          generalize hY : xb / 2 ^ j = y at *
          have HY := hid hY
          clear hY
          go_wp2_with fail
          exact ⟨⟨j + 1, by omega, by first | rfl | simp, by rw [HS.out], by first | rfl | trivial⟩, by simp [intOf]; omega⟩
        · skip
          have hk7 : j = k % 8 := by omega
          have hc1 : ¬ ((j : Int) < (k : Int) % 8) := by omega
          rw [← hk7] at HKB
          clear hk7
          generalize hY : xb / 2 ^ j = y at *
          clear hY
          cases hB : knB d k
          · skip
            rw [hB] at HN HSB HKB
            clear hB
            have hc2 : (y % 2 == 1) = false := by
              have := of_decide_eq_false HKB.out.symm
              simpa using this
            rw [if_neg (by simp)] at HSB
            generalize hQ : knN d k = q at *
            clear hQ
            have HK8 := hid hnk
            clear hnk
            have hxc0 : w21.cell? ⟨gx, gy, none⟩ = some (.slice xa xl xc) := HXCw21.out
            go_wp2_with (refine wpList_index_s 1 (by first | rfl | go_simp) 31 _ _ rfl Tryd.underlying31 size_text gx gy (k + 1) rc rfl _ _ rfl 0 rfl (by omega) ?_)
            have HRp := hid HRw21.out
            have KOp := hid KOw21.out
            refine (CS.out _ HXTw21.out).mono ?_
            rintro e w22 ⟨rfl, bw22⟩
            have HBw22 := hid (Below.on HBw21.out bw22)
            have hsw22 := HBw22.out.size
            have Kiw22 := hid (Kiw21.out.below bw22)
            have Kdw22 := hid (Kdw21.out.below bw22)
            have Ksw22 := hid (Ksw21.out.below bw22)
            have HRq := hid (HRp.out.below bw22)
            have KOq := hid (KOp.out.below bw22)
            clear bw22
            skip
            go_wp2_with (first
               | (
                  refine wpList_store_blk rfl 23 _ _ rfl (w22.heap.size) (X9.map (Value.int .u8)).toArray rfl rfl _ 23 (Blk.new rfl (byteCells 32 []) _) 32 size_digest zsize HX9.out.size (ints_one _ _) ?_
                  intro w23 hbw23 hkw23
                  have hw23 := hbw23.below ((Below.refl w22.heap.size w22).alloc (Nat.le_refl _) _) (by simp only [World.size_alloc]; omega) (Nat.le_refl _)
                  have HBw23 := hid (Below.on HBw22.out hw23)
                  have hsw23 := HBw23.out.size
                  have Kiw23 := hid (Kiw22.out.below hw23)
                  have hliw23 := Kiw22.out.lt
                  have Kdw23 := hid (Kdw22.out.below hw23)
                  have hldw23 := Kdw22.out.lt
                  have Ksw23 := hid (Ksw22.out.below hw23)
                  have hlsw23 := Ksw22.out.lt
                  have Kxw23 := hid hkw23
                  have hfw23 : w.heap.size ≤ w22.heap.size := HBw22.out.size
                  have HRw23 := hid (HRq.out.below hw23)
                  have KOw23 := hid (KOq.out.below hw23)
                  clear hbw23 hkw23 hw23)
               | (refine wpList_load_blk rfl 23 _ rfl (w22.heap.size) rfl _ 23 Kxw23.out _ Tryd.underlying23 rfl 32 size_digest HX9.out.size ?_)
               | (refine wpList_load_blk rfl 23 _ rfl (wr.heap.size) rfl _ 23 Ksw23.out _ Tryd.underlying23 rfl 32 size_digest HE.out.size ?_))
            refine (refpair_any X9 E _ HX9.out HE.out).mono ?_
            rintro e w24 ⟨p1, pc1, rfl, hp1, bw24⟩
            have HBw24 := hid (Below.on HBw23.out bw24)
            have hsw24 := HBw24.out.size
            have Kiw24 := hid (Kiw23.out.below bw24)
            have Kdw24 := hid (Kdw23.out.below bw24)
            have Ksw24 := hid (Ksw23.out.below bw24)
            have Kxw24 := hid (Kxw23.out.below bw24)
            have HRw24 := hid (HRw23.out.below bw24)
            have KOw24 := hid (KOw23.out.below bw24)
            have HP1 := hid hp1
            clear hp1
            clear bw24
            go_wp2_with (refine wpList_load_blk rfl 23 _ rfl (w.heap.size) rfl _ 23 Kiw24.out _ Tryd.underlying23 rfl 32 size_digest HI0.out.size ?_)
            refine (CB.out _).mono ?_
            rintro e w25 ⟨rfl, bw25⟩
            have HBw25 := hid (Below.on HBw24.out bw25)
            have hsw25 := HBw25.out.size
            have Kiw25 := hid (Kiw24.out.below bw25)
            have Kdw25 := hid (Kdw24.out.below bw25)
            have Ksw25 := hid (Ksw24.out.below bw25)
            have Kxw25 := hid (Kxw24.out.below bw25)
            have HRw25 := hid (HRw24.out.below bw25)
            have KOw25 := hid (KOw24.out.below bw25)
            have HP1b := hid (HP1.out.below bw25)
            clear bw25
            by_cases hb : bitL i k = 1
            · skip
              have HE9 := hid hb
              have hc3 : (bitL i k == 1) = true := by simp [hb]
              generalize bitL i k = bv at *
              clear hb
              go_wp2_with (first
                 | (refine wpList_load_blk rfl 23 _ rfl (wr.heap.size) rfl _ 23 Ksw25.out _ Tryd.underlying23 rfl 32 size_digest HE.out.size ?_)
                 | (refine wpList_load_blk rfl 23 _ rfl (w22.heap.size) rfl _ 23 Kxw25.out _ Tryd.underlying23 rfl 32 size_digest HX9.out.size ?_))
              refine (refpair_any E X9 _ HE.out HX9.out).mono ?_
              rintro e w26 ⟨p2, pc2, rfl, hp2, bw26⟩
              have HBw26 := hid (Below.on HBw25.out bw26)
              have hsw26 := HBw26.out.size
              have Kiw26 := hid (Kiw25.out.below bw26)
              have Kdw26 := hid (Kdw25.out.below bw26)
              have Ksw26 := hid (Ksw25.out.below bw26)
              have Kxw26 := hid (Kxw25.out.below bw26)
              have HRw26 := hid (HRw25.out.below bw26)
              have KOw26 := hid (KOw25.out.below bw26)
              have HP2 := hid hp2
              clear hp2
              clear bw26
              have KB := hid (Blk.new (w := w26) (n := w26.heap.size) rfl #[.slice p2 65 pc2] 29)
              have HPA := hid (TextAt.below HP2.out ((Below.refl _ _).alloc (Nat.le_refl _) (.cells #[.slice p2 65 pc2] 29 (0, 0))))
              have HRA := hid (TextsAt.below HRw26.out ((Below.refl _ _).alloc (Nat.le_refl _) (.cells #[.slice p2 65 pc2] 29 (0, 0))))
              have KOA := hid (OwnD.below KOw26.out ((Below.refl _ _).alloc (Nat.le_refl _) (.cells #[.slice p2 65 pc2] 29 (0, 0))))
              have KiA := hid (Kiw26.out.below ((Below.refl _ _).alloc (Nat.le_refl _) (.cells #[.slice p2 65 pc2] 29 (0, 0))))
              have KdA := hid (Kdw26.out.below ((Below.refl _ _).alloc (Nat.le_refl _) (.cells #[.slice p2 65 pc2] 29 (0, 0))))
              have HBA := hid (HBw26.out.alloc HBw26.out.size (.cells #[.slice p2 65 pc2] 29 (0, 0)))
              go_wp2_with (at_builtin; refine wpList_append_ahead rfl _ _ rfl rfl KB.out HPA.out HRA.out (by omega) rfl rfl ?_)
              intro a9 c9 w9 hr9 b9
              have HR9 := hid hr9
              have b9' : Below (w26.alloc (.cells #[.slice p2 65 pc2] 29 (0, 0))).heap.size (w26.alloc (.cells #[.slice p2 65 pc2] 29 (0, 0))) w9 := by simpa only [World.size_alloc] using b9
              have HB9 := hid (Below.on HBA.out b9')
              have KO9 := hid (KOA.out.below b9')
              have Ki9 := hid (KiA.out.below b9')
              have Kd9 := hid (KdA.out.below b9')
              clear hr9 b9 b9'
              go_wp2_with fail
              exact ⟨⟨k + 1, _, _, by omega, by first | rfl | simp, by rw [HN.out]; first | rfl | (rw [show wrap64 ((q : Int) + 1) = (q : Int) + 1 by have := HK8.out; unfold wrap64; omega]; simp), rfl, by rw [HS.out, if_pos HE9.out, HSB.out]; exact HR9.out, Ki9.out, Kd9.out, KO9.out, HB9.out⟩, by simp [intOf]; omega⟩
            · skip
              have HE9 := hid hb
              have hc3 : (bitL i k == 1) = false := by simp [hb]
              generalize bitL i k = bv at *
              clear hb
              have KB := hid (Blk.new (w := w25) (n := w25.heap.size) rfl #[.slice p1 65 pc1] 29)
              have HPA := hid (TextAt.below HP1b.out ((Below.refl _ _).alloc (Nat.le_refl _) (.cells #[.slice p1 65 pc1] 29 (0, 0))))
              have HRA := hid (TextsAt.below HRw25.out ((Below.refl _ _).alloc (Nat.le_refl _) (.cells #[.slice p1 65 pc1] 29 (0, 0))))
              have KOA := hid (OwnD.below KOw25.out ((Below.refl _ _).alloc (Nat.le_refl _) (.cells #[.slice p1 65 pc1] 29 (0, 0))))
              have KiA := hid (Kiw25.out.below ((Below.refl _ _).alloc (Nat.le_refl _) (.cells #[.slice p1 65 pc1] 29 (0, 0))))
              have KdA := hid (Kdw25.out.below ((Below.refl _ _).alloc (Nat.le_refl _) (.cells #[.slice p1 65 pc1] 29 (0, 0))))
              have HBA := hid (HBw25.out.alloc HBw25.out.size (.cells #[.slice p1 65 pc1] 29 (0, 0)))
              go_wp2_with (at_builtin; refine wpList_append_ahead rfl _ _ rfl rfl KB.out HPA.out HRA.out (by omega) rfl rfl ?_)
              intro a9 c9 w9 hr9 b9
              have HR9 := hid hr9
              have b9' : Below (w25.alloc (.cells #[.slice p1 65 pc1] 29 (0, 0))).heap.size (w25.alloc (.cells #[.slice p1 65 pc1] 29 (0, 0))) w9 := by simpa only [World.size_alloc] using b9
              have HB9 := hid (Below.on HBA.out b9')
              have KO9 := hid (KOA.out.below b9')
              have Ki9 := hid (KiA.out.below b9')
              have Kd9 := hid (KdA.out.below b9')
              clear hr9 b9 b9'
              go_wp2_with fail
              exact ⟨⟨k + 1, _, _, by omega, by first | rfl | simp, by rw [HN.out]; first | rfl | (rw [show wrap64 ((q : Int) + 1) = (q : Int) + 1 by have := HK8.out; unfold wrap64; omega]; simp), rfl, by rw [HS.out, if_neg HE9.out, HSB.out]; exact HR9.out, Ki9.out, Kd9.out, KO9.out, HB9.out⟩, by simp [intOf]; omega⟩
          · skip
            rw [hB] at HN HSB HKB
            clear hB
            have hc2 : (y % 2 == 1) = true := by
              have := of_decide_eq_true HKB.out.symm
              simpa using this
            have hkl : knN d k < len := by
              have h1 := knN_mono d (show k + 1 ≤ 256 by omega)
              rw [HN.out, if_pos rfl] at h1
              omega
            obtain ⟨g2, o2, rfl, -, hr2⟩ := (hns.below HBw21.out).at_ (by omega)
            have Hr2 := hid (hr2 _ hkl)
            have HY := hid (hns.get hkl)
            rw [if_pos rfl] at HSB
            generalize ns.getD (knN d k) [] = Y at *
            generalize hQ : knN d k = q at *
            clear hQ hr2
            have HK8 := hid hnk
            clear hnk
            go_wp2_with (first
               | (refine wpList_index_digs rfl 24 _ _ rfl Tryd.underlying24 size_digest g2 o2 len cap rfl _ _ rfl q rfl hkl ?_)
               | (refine wpList_load_mid rfl 23 _ rfl g2 (o2 + q * 32) rfl _ _ Hr2.out Tryd.underlying23 rfl (by rw [List.length_map, HY.out.len]; exact size_digest) ?_)
               | (
                  refine wpList_store_blk rfl 23 _ _ rfl (wr.heap.size) (Y.map (Value.int .u8)).toArray rfl rfl _ 23 Ksw21.out 32 size_digest HE.out.size HY.out.size (ints_one _ _) ?_
                  intro w22 hbw22 hkw22
                  have HBw22 := hid (hbw22.below HBw21.out HBw21.out.size (by omega))
                  have hsw22 := HBw22.out.size
                  have Kiw22 := hid (hbw22.blk Kiw21.out (by have := Kiw21.out.lt; omega))
                  have Kdw22 := hid (hbw22.blk Kdw21.out (by have := Kdw21.out.lt; omega))
                  have Ksw22 := hid hkw22
                  have HWw22 := hid (hbw22.below HWw21.out HWw21.out.size (by omega))
                  have HRw22 := hid (HRwr.out.below HWw22.out)
                  have KOw22 := hid (KOwr.out.below HWw22.out)
                  have HXTw22 := hid (HXT.out.below HWw22.out)
                  have hxc0 : w22.cell? ⟨gx, gy, none⟩ = some (.slice xa xl xc) := (HWw22.out.cell (p := ⟨gx, gy, none⟩) hgx).trans HXC.out
                  clear hbw22 hkw22)
               | (refine wpList_index_s 1 (by first | rfl | go_simp) 31 _ _ rfl Tryd.underlying31 size_text gx gy (k + 1) rc rfl _ _ rfl 0 rfl (by omega) ?_))
            have HRp := hid HRw22.out
            have KOp := hid KOw22.out
            refine (CS.out _ HXTw22.out).mono ?_
            rintro e w23 ⟨rfl, bw23⟩
            have HBw23 := hid (Below.on HBw22.out bw23)
            have hsw23 := HBw23.out.size
            have Kiw23 := hid (Kiw22.out.below bw23)
            have Kdw23 := hid (Kdw22.out.below bw23)
            have Ksw23 := hid (Ksw22.out.below bw23)
            have HRq := hid (HRp.out.below bw23)
            have KOq := hid (KOp.out.below bw23)
            clear bw23
            skip
            go_wp2_with (first
               | (
                  refine wpList_store_blk rfl 23 _ _ rfl (w23.heap.size) (X9.map (Value.int .u8)).toArray rfl rfl _ 23 (Blk.new rfl (byteCells 32 []) _) 32 size_digest zsize HX9.out.size (ints_one _ _) ?_
                  intro w24 hbw24 hkw24
                  have hw24 := hbw24.below ((Below.refl w23.heap.size w23).alloc (Nat.le_refl _) _) (by simp only [World.size_alloc]; omega) (Nat.le_refl _)
                  have HBw24 := hid (Below.on HBw23.out hw24)
                  have hsw24 := HBw24.out.size
                  have Kiw24 := hid (Kiw23.out.below hw24)
                  have hliw24 := Kiw23.out.lt
                  have Kdw24 := hid (Kdw23.out.below hw24)
                  have hldw24 := Kdw23.out.lt
                  have Ksw24 := hid (Ksw23.out.below hw24)
                  have hlsw24 := Ksw23.out.lt
                  have Kxw24 := hid hkw24
                  have hfw24 : w.heap.size ≤ w23.heap.size := HBw23.out.size
                  have HRw24 := hid (HRq.out.below hw24)
                  have KOw24 := hid (KOq.out.below hw24)
                  clear hbw24 hkw24 hw24)
               | (refine wpList_load_blk rfl 23 _ rfl (w23.heap.size) rfl _ 23 Kxw24.out _ Tryd.underlying23 rfl 32 size_digest HX9.out.size ?_)
               | (refine wpList_load_blk rfl 23 _ rfl (wr.heap.size) rfl _ 23 Ksw24.out _ Tryd.underlying23 rfl 32 size_digest HY.out.size ?_))
            refine (refpair_any X9 Y _ HX9.out HY.out).mono ?_
            rintro e w25 ⟨p1, pc1, rfl, hp1, bw25⟩
            have HBw25 := hid (Below.on HBw24.out bw25)
            have hsw25 := HBw25.out.size
            have Kiw25 := hid (Kiw24.out.below bw25)
            have Kdw25 := hid (Kdw24.out.below bw25)
            have Ksw25 := hid (Ksw24.out.below bw25)
            have Kxw25 := hid (Kxw24.out.below bw25)
            have HRw25 := hid (HRw24.out.below bw25)
            have KOw25 := hid (KOw24.out.below bw25)
            have HP1 := hid hp1
            clear hp1
            clear bw25
            go_wp2_with (refine wpList_load_blk rfl 23 _ rfl (w.heap.size) rfl _ 23 Kiw25.out _ Tryd.underlying23 rfl 32 size_digest HI0.out.size ?_)
            refine (CB.out _).mono ?_
            rintro e w26 ⟨rfl, bw26⟩
            have HBw26 := hid (Below.on HBw25.out bw26)
            have hsw26 := HBw26.out.size
            have Kiw26 := hid (Kiw25.out.below bw26)
            have Kdw26 := hid (Kdw25.out.below bw26)
            have Ksw26 := hid (Ksw25.out.below bw26)
            have Kxw26 := hid (Kxw25.out.below bw26)
            have HRw26 := hid (HRw25.out.below bw26)
            have KOw26 := hid (KOw25.out.below bw26)
            have HP1b := hid (HP1.out.below bw26)
            clear bw26
            by_cases hb : bitL i k = 1
            · skip
              have HE9 := hid hb
              have hc3 : (bitL i k == 1) = true := by simp [hb]
              generalize bitL i k = bv at *
              clear hb
              go_wp2_with (first
                 | (refine wpList_load_blk rfl 23 _ rfl (wr.heap.size) rfl _ 23 Ksw26.out _ Tryd.underlying23 rfl 32 size_digest HY.out.size ?_)
                 | (refine wpList_load_blk rfl 23 _ rfl (w23.heap.size) rfl _ 23 Kxw26.out _ Tryd.underlying23 rfl 32 size_digest HX9.out.size ?_))
              refine (refpair_any Y X9 _ HY.out HX9.out).mono ?_
              rintro e w27 ⟨p2, pc2, rfl, hp2, bw27⟩
              have HBw27 := hid (Below.on HBw26.out bw27)
              have hsw27 := HBw27.out.size
              have Kiw27 := hid (Kiw26.out.below bw27)
              have Kdw27 := hid (Kdw26.out.below bw27)
              have Ksw27 := hid (Ksw26.out.below bw27)
              have Kxw27 := hid (Kxw26.out.below bw27)
              have HRw27 := hid (HRw26.out.below bw27)
              have KOw27 := hid (KOw26.out.below bw27)
              have HP2 := hid hp2
              clear hp2
              clear bw27
              have KB := hid (Blk.new (w := w27) (n := w27.heap.size) rfl #[.slice p2 65 pc2] 29)
              have HPA := hid (TextAt.below HP2.out ((Below.refl _ _).alloc (Nat.le_refl _) (.cells #[.slice p2 65 pc2] 29 (0, 0))))
              have HRA := hid (TextsAt.below HRw27.out ((Below.refl _ _).alloc (Nat.le_refl _) (.cells #[.slice p2 65 pc2] 29 (0, 0))))
              have KOA := hid (OwnD.below KOw27.out ((Below.refl _ _).alloc (Nat.le_refl _) (.cells #[.slice p2 65 pc2] 29 (0, 0))))
              have KiA := hid (Kiw27.out.below ((Below.refl _ _).alloc (Nat.le_refl _) (.cells #[.slice p2 65 pc2] 29 (0, 0))))
              have KdA := hid (Kdw27.out.below ((Below.refl _ _).alloc (Nat.le_refl _) (.cells #[.slice p2 65 pc2] 29 (0, 0))))
              have HBA := hid (HBw27.out.alloc HBw27.out.size (.cells #[.slice p2 65 pc2] 29 (0, 0)))
              go_wp2_with (at_builtin; refine wpList_append_ahead rfl _ _ rfl rfl KB.out HPA.out HRA.out (by omega) rfl rfl ?_)
              intro a9 c9 w9 hr9 b9
              have HR9 := hid hr9
              have b9' : Below (w27.alloc (.cells #[.slice p2 65 pc2] 29 (0, 0))).heap.size (w27.alloc (.cells #[.slice p2 65 pc2] 29 (0, 0))) w9 := by simpa only [World.size_alloc] using b9
              have HB9 := hid (Below.on HBA.out b9')
              have KO9 := hid (KOA.out.below b9')
              have Ki9 := hid (KiA.out.below b9')
              have Kd9 := hid (KdA.out.below b9')
              clear hr9 b9 b9'
              go_wp2_with fail
              exact ⟨⟨k + 1, _, _, by omega, by first | rfl | simp, by rw [HN.out]; first | rfl | (rw [show wrap64 ((q : Int) + 1) = (q : Int) + 1 by have := HK8.out; unfold wrap64; omega]; simp), rfl, by rw [HS.out, if_pos HE9.out, HSB.out]; exact HR9.out, Ki9.out, Kd9.out, KO9.out, HB9.out⟩, by simp [intOf]; omega⟩
            · skip
              have HE9 := hid hb
              have hc3 : (bitL i k == 1) = false := by simp [hb]
              generalize bitL i k = bv at *
              clear hb
              have KB := hid (Blk.new (w := w26) (n := w26.heap.size) rfl #[.slice p1 65 pc1] 29)
              have HPA := hid (TextAt.below HP1b.out ((Below.refl _ _).alloc (Nat.le_refl _) (.cells #[.slice p1 65 pc1] 29 (0, 0))))
              have HRA := hid (TextsAt.below HRw26.out ((Below.refl _ _).alloc (Nat.le_refl _) (.cells #[.slice p1 65 pc1] 29 (0, 0))))
              have KOA := hid (OwnD.below KOw26.out ((Below.refl _ _).alloc (Nat.le_refl _) (.cells #[.slice p1 65 pc1] 29 (0, 0))))
              have KiA := hid (Kiw26.out.below ((Below.refl _ _).alloc (Nat.le_refl _) (.cells #[.slice p1 65 pc1] 29 (0, 0))))
              have KdA := hid (Kdw26.out.below ((Below.refl _ _).alloc (Nat.le_refl _) (.cells #[.slice p1 65 pc1] 29 (0, 0))))
              have HBA := hid (HBw26.out.alloc HBw26.out.size (.cells #[.slice p1 65 pc1] 29 (0, 0)))
              go_wp2_with (at_builtin; refine wpList_append_ahead rfl _ _ rfl rfl KB.out HPA.out HRA.out (by omega) rfl rfl ?_)
              intro a9 c9 w9 hr9 b9
              have HR9 := hid hr9
              have b9' : Below (w26.alloc (.cells #[.slice p1 65 pc1] 29 (0, 0))).heap.size (w26.alloc (.cells #[.slice p1 65 pc1] 29 (0, 0))) w9 := by simpa only [World.size_alloc] using b9
              have HB9 := hid (Below.on HBA.out b9')
              have KO9 := hid (KOA.out.below b9')
              have Ki9 := hid (KiA.out.below b9')
              have Kd9 := hid (KdA.out.below b9')
              clear hr9 b9 b9'
              go_wp2_with fail
              exact ⟨⟨k + 1, _, _, by omega, by first | rfl | simp, by rw [HN.out]; first | rfl | (rw [show wrap64 ((q : Int) + 1) = (q : Int) + 1 by have := HK8.out; unfold wrap64; omega]; simp), rfl, by rw [HS.out, if_neg HE9.out, HSB.out]; exact HR9.out, Ki9.out, Kd9.out, KO9.out, HB9.out⟩, by simp [intOf]; omega⟩
    · skip
      have hk7 : k = 256 := by omega
      subst hk7
      have hc0 : ¬ ((256 : Int) < 256) := by omega
      rw [treeK_all] at HRwr
      go_wp2_with fail
      go_returns
      exact ⟨_, rfl, ⟨_, _, _, rfl, HRwr.out⟩, HBwr.out⟩
end Go.Proofs.YtkakoiaahgchmaaDoor
