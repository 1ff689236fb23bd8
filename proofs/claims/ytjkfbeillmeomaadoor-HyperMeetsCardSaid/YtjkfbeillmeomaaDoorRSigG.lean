/-
  Layer 11: which signatures are formed (the program).
-/
import Derived.Test.YtjkfbeillmeomaaDoorRSigF
namespace Go.Proofs.YtjkfbeillmeomaaDoor
set_option maxRecDepth 100000
open Go.ChangeShapes Go.WideShapes Go.ChangeAt Go.RowKit
/-- Has a signature the parts that a shape asks for? -/
def formB (L V i : Int) (ps : List Prt) : Bool := rightS L V && decide (0 ≤ i) && decide (i < manyS L V) && decide ((ps.length : Int) = L) && decide (∀ j, j < ps.length → (ps.getD j ([], [])).1.length = 67 ∧ ((ps.getD j ([], [])).2.length : Int) = V)
theorem formB_neg {L V i : Int} {ps : List Prt} (h : i < 0) : formB L V i ps = false := by simp [formB, show ¬ 0 ≤ i by omega]
theorem formB_many {L V i : Int} {ps : List Prt} (h : manyS L V ≤ i) : formB L V i ps = false := by simp [formB, show ¬ i < manyS L V by omega]
theorem formB_len {L V i : Int} {ps : List Prt} (h : ¬ (ps.length : Int) = L) : formB L V i ps = false := by simp [formB, h]
theorem formB_part {L V i : Int} {ps : List Prt} {k : Nat} (hk : k < ps.length) (h : ¬ ((ps.getD k ([], [])).1.length = 67 ∧ ((ps.getD k ([], [])).2.length : Int) = V)) : formB L V i ps = false := by
  have hn : ¬ ∀ j, j < ps.length → (ps.getD j ([], [])).1.length = 67 ∧ ((ps.getD j ([], [])).2.length : Int) = V := fun hh => h (hh k hk)
  unfold formB
  rw [decide_eq_false hn, Bool.and_false]
theorem formB_right {L V i : Int} {ps : List Prt} (h : rightS L V = false) : formB L V i ps = false := by simp [formB, h]
theorem formB_good {L V i : Int} {ps : List Prt} (h : rightS L V = true) (h0 : 0 ≤ i) (h1 : i < manyS L V) (h2 : (ps.length : Int) = L) (h3 : ∀ j, j < ps.length → (ps.getD j ([], [])).1.length = 67 ∧ ((ps.getD j ([], [])).2.length : Int) = V) : formB L V i ps = true := by
  unfold formB
  rw [decide_eq_true h3, decide_eq_true h2, decide_eq_true h1, decide_eq_true h0, h]
  rfl
set_option maxHeartbeats 4000000 in
theorem formed_right (L V i : Int) (r : List Int) (a : Option Addr) (n c : Nat) (ps : List Prt) (w : World) (hrt : rightS L V = true) (hr : Dg r) (hP : PartsAt w a n c ps) :
    Calls Tryd.prog 99 #[.agg (shC L V), .agg (sigC i r (.slice a n c)).toArray] w fun e w' => e = .returned (.bool (formB L V i ps)) ∧ Below w.heap.size w w' := by
  have hmx := hP.max
  have hle := hP.le
  have b1 := (Below.refl w.heap.size w).alloc (Nat.le_refl _) (.cells (shC L V) 63 (0, 0))
  have b2 := b1.alloc b1.size (.cells (sigC i r (.slice a n c)).toArray 75 (0, 0))
  have Ksh := hid ((Blk.new (w := w) (n := w.heap.size) rfl (shC L V) 63).old (.cells (sigC i r (.slice a n c)).toArray 75 (0, 0)))
  have Kg := hid (Blk.new (w := (w.alloc (.cells (shC L V) 63 (0, 0)))) (n := w.heap.size + 1) (by simp only [World.size_alloc]) (sigC i r (.slice a n c)).toArray 75)
  have Hb := hid b2
  have hbz := b2.size
  have Hbs := hid (show w.heap.size + 1 + 1 = ((w.alloc (.cells (shC L V) 63 (0, 0))).alloc (.cells (sigC i r (.slice a n c)).toArray 75 (0, 0))).heap.size by simp only [World.size_alloc])
  clear b1 b2 
  go_enter Tryd.func99, Tryd.ntmps99
  go_wp2_with fail
  have CM := hid (fun W : World => many_any L V W)
  obtain ⟨M, hM⟩ : ∃ M, manyS L V = M := ⟨_, rfl⟩
  have HM := hid hM
  rw [hM] at CM
  clear hM
  by_cases h0 : i < 0
  · skip
    have hd0 : decide (i < 0) = true := decide_eq_true h0
    refine wp_region_flow 23 (List.range 23) [] [] (by kernel_rfl) (by kernel_rfl) ?_
    apply Exists.intro
    refine ⟨fun w0 hb0 hF0 => ?_, ?_⟩
    · skip
      have x0 : ∀ w', (∃ x : Ext w0, w' = x.at_) → ∃ T, Blk w' (w.heap.size) (shC L V) T := fun w' ⟨x, hx⟩ => ⟨_, hx ▸ (Ksh.out.below hb0).below x.same⟩
      have y0 : ∀ w', (∃ x : Ext w0, w' = x.at_) → w'.cell? ⟨w.heap.size + 1, 0, none⟩ = some (.int .i64 i) := fun w' ⟨x, hx⟩ => by rw [hx, ((Kg.out.below hb0).below x.same).cell]; rfl
      have c0 := fun e : Ext w0 => hright_b L V true hrt e.at_
      have c1 := fun e : Ext w0 => CM.out e.at_
      simp only [pick, List.range, List.range.loop, List.getElem?_toArray, List.getElem?_cons_succ, List.getElem?_cons_zero, Option.toList_some, List.cons_append, List.nil_append]
      repeat (first | (go_big_quiet_want; refine quiet_load_blk 63 _ rfl (w.heap.size) rfl _ x0 _ Tryd.underlying63 rfl 2 size_shape rfl ?_; go_big_quiet_on; simp only [Act.put, List.setIfInBounds_toArray, List.set_cons_zero, List.set_cons_succ]) | (go_big_quiet_want; refine quiet_load_one 3 _ rfl ⟨w.heap.size + 1, 0, none⟩ rfl _ y0 _ Tryd.underlying3 rfl ?_; go_big_quiet_on; simp only [Act.put, List.setIfInBounds_toArray, List.set_cons_zero, List.set_cons_succ]) | go_big_quiet_step (first | (go_at_call 41; with_reducible exact Calls.ext (c0 _)) | (go_at_call 43; with_reducible exact Calls.ext (c1 _))))
      exact wpQuiet_nil rfl
    refine AlChk.nil ?_
    refine Walk.fin fun w1 hw1 _ _ => ?_
    simp only [List.drop_succ_cons, List.drop_zero]
    have HBw1 := hid (Below.on Hb.out hw1)
    have hsw1 := HBw1.out.size
    have Kshw1 := hid (Ksh.out.below hw1)
    have Kgw1 := hid (Kg.out.below hw1)
    clear hw1
    go_wp2_with fail
    go_returns
    exact ⟨by rw [formB_neg h0]; rfl, HBw1.out⟩
  have hd0 : decide (i < 0) = false := decide_eq_false h0
  by_cases h1 : i ≥ M
  · skip
    have hd1 : decide (i ≥ M) = true := decide_eq_true h1
    have hd1 : decide (M ≤ i) = true := decide_eq_true h1
    refine wp_region_flow 23 (List.range 23) [] [] (by kernel_rfl) (by kernel_rfl) ?_
    apply Exists.intro
    refine ⟨fun w0 hb0 hF0 => ?_, ?_⟩
    · skip
      have x0 : ∀ w', (∃ x : Ext w0, w' = x.at_) → ∃ T, Blk w' (w.heap.size) (shC L V) T := fun w' ⟨x, hx⟩ => ⟨_, hx ▸ (Ksh.out.below hb0).below x.same⟩
      have y0 : ∀ w', (∃ x : Ext w0, w' = x.at_) → w'.cell? ⟨w.heap.size + 1, 0, none⟩ = some (.int .i64 i) := fun w' ⟨x, hx⟩ => by rw [hx, ((Kg.out.below hb0).below x.same).cell]; rfl
      have c0 := fun e : Ext w0 => hright_b L V true hrt e.at_
      have c1 := fun e : Ext w0 => CM.out e.at_
      simp only [pick, List.range, List.range.loop, List.getElem?_toArray, List.getElem?_cons_succ, List.getElem?_cons_zero, Option.toList_some, List.cons_append, List.nil_append]
      repeat (first | (go_big_quiet_want; refine quiet_load_blk 63 _ rfl (w.heap.size) rfl _ x0 _ Tryd.underlying63 rfl 2 size_shape rfl ?_; go_big_quiet_on; simp only [Act.put, List.setIfInBounds_toArray, List.set_cons_zero, List.set_cons_succ]) | (go_big_quiet_want; refine quiet_load_one 3 _ rfl ⟨w.heap.size + 1, 0, none⟩ rfl _ y0 _ Tryd.underlying3 rfl ?_; go_big_quiet_on; simp only [Act.put, List.setIfInBounds_toArray, List.set_cons_zero, List.set_cons_succ]) | go_big_quiet_step (first | (go_at_call 41; with_reducible exact Calls.ext (c0 _)) | (go_at_call 43; with_reducible exact Calls.ext (c1 _))))
      exact wpQuiet_nil rfl
    refine AlChk.nil ?_
    refine Walk.fin fun w1 hw1 _ _ => ?_
    simp only [List.drop_succ_cons, List.drop_zero]
    have HBw1 := hid (Below.on Hb.out hw1)
    have hsw1 := HBw1.out.size
    have Kshw1 := hid (Ksh.out.below hw1)
    have Kgw1 := hid (Kg.out.below hw1)
    clear hw1
    go_wp2_with fail
    go_returns
    exact ⟨by rw [formB_many (by rw [HM.out]; exact h1)]; rfl, HBw1.out⟩
  have hd1 : decide (i ≥ M) = false := decide_eq_false h1
  have hd1 : decide (M ≤ i) = false := decide_eq_false h1
  by_cases h2 : (n : Int) = L
  · skip
    have hd2 : ((n : Int) != L) = false := by simp [h2]
    have hd2 : ((n : Int) == L) = true := by simp [h2]
    have H2 := hid h2
    clear h2
    refine wp_region_flow 23 (List.range 23) [] [] (by kernel_rfl) (by kernel_rfl) ?_
    apply Exists.intro
    refine ⟨fun w0 hb0 hF0 => ?_, ?_⟩
    · skip
      have x0 : ∀ w', (∃ x : Ext w0, w' = x.at_) → ∃ T, Blk w' (w.heap.size) (shC L V) T := fun w' ⟨x, hx⟩ => ⟨_, hx ▸ (Ksh.out.below hb0).below x.same⟩
      have y0 : ∀ w', (∃ x : Ext w0, w' = x.at_) → w'.cell? ⟨w.heap.size + 1, 0, none⟩ = some (.int .i64 i) := fun w' ⟨x, hx⟩ => by rw [hx, ((Kg.out.below hb0).below x.same).cell]; rfl
      have y1 : ∀ w', (∃ x : Ext w0, w' = x.at_) → w'.cell? ⟨w.heap.size, 0, none⟩ = some (.int .i64 L) := fun w' ⟨x, hx⟩ => by rw [hx, ((Ksh.out.below hb0).below x.same).cell]; rfl
      have c0 := fun e : Ext w0 => hright_b L V true hrt e.at_
      have c1 := fun e : Ext w0 => CM.out e.at_
      have yp : ∀ w', (∃ x : Ext w0, w' = x.at_) → w'.cell? ⟨w.heap.size + 1, 33, none⟩ = some (.slice a n c) := fun w' ⟨x, hx⟩ => hx ▸ sigC_parts hr ((Kg.out.below hb0).below x.same)
      simp only [pick, List.range, List.range.loop, List.getElem?_toArray, List.getElem?_cons_succ, List.getElem?_cons_zero, Option.toList_some, List.cons_append, List.nil_append]
      repeat (first | (go_big_quiet_want; refine quiet_load_blk 63 _ rfl (w.heap.size) rfl _ x0 _ Tryd.underlying63 rfl 2 size_shape rfl ?_; go_big_quiet_on; simp only [Act.put, List.setIfInBounds_toArray, List.set_cons_zero, List.set_cons_succ]) | (go_big_quiet_want; refine quiet_load_one 3 _ rfl ⟨w.heap.size + 1, 0, none⟩ rfl _ y0 _ Tryd.underlying3 rfl ?_; go_big_quiet_on; simp only [Act.put, List.setIfInBounds_toArray, List.set_cons_zero, List.set_cons_succ]) | (go_big_quiet_want; refine quiet_load_one 3 _ rfl ⟨w.heap.size, 0, none⟩ rfl _ y1 _ Tryd.underlying3 rfl ?_; go_big_quiet_on; simp only [Act.put, List.setIfInBounds_toArray, List.set_cons_zero, List.set_cons_succ]) | (go_big_quiet_want; refine quiet_load_one 73 _ rfl ⟨w.heap.size + 1, 33, none⟩ rfl _ yp _ Tryd.underlying73 rfl ?_; go_big_quiet_on; simp only [Act.put, List.setIfInBounds_toArray, List.set_cons_zero, List.set_cons_succ]) | go_big_quiet_step (first | (go_at_call 41; with_reducible exact Calls.ext (c0 _)) | (go_at_call 43; with_reducible exact Calls.ext (c1 _))))
      exact wpQuiet_nil rfl
    refine AlChk.nil ?_
    refine Walk.fin fun w1 hw1 _ _ => ?_
    simp only [List.drop_succ_cons, List.drop_zero]
    have HBw1 := hid (Below.on Hb.out hw1)
    have hsw1 := HBw1.out.size
    have Kshw1 := hid (Ksh.out.below hw1)
    have Kgw1 := hid (Kg.out.below hw1)
    clear hw1
    have g33 := sigC_parts hr Kgw1.out
    go_wp2_with fail
    go_loopw [33] (fun iv wr => ∃ k : Nat, k ≤ n ∧ iv = .int .i64 k ∧ Blk wr (w.heap.size) (shC L V) 63 ∧ Blk wr (w.heap.size + 1) (sigC i r (.slice a n c)).toArray 75 ∧ Below w.heap.size w wr ∧ ∀ j, j < k → (ps.getD j ([], [])).1.length = 67 ∧ ((ps.getD j ([], [])).2.length : Int) = V) (fun iv _ => n - (intOf iv).toNat)
    case atStart => exact ⟨0, Nat.zero_le _, rfl, Kshw1.out, Kgw1.out, HBw1.out, fun j hj => absurd hj (by omega)⟩
    case round =>
      obtain ⟨k, hk, rfl, ksh, kg, bel, hall⟩ := hrel
      have Kshwr := hid ksh
      have Kgwr := hid kg
      have HBwr := hid bel
      have hswr := bel.size
      have Hall := hid hall
      have g33 := sigC_parts hr kg
      have s1 : wr.cell? ⟨w.heap.size, 1, none⟩ = some (.int .i64 V) := by rw [ksh.cell]; rfl
      clear ksh kg bel hall
      by_cases hlt : k < n
      · have hc0 : (k : Int) < n := by omega
        obtain ⟨x, o, oa, oc, aa, ac, rfl, hpc⟩ := (hP.below HBwr.out).part hlt
        have HPC := hid hpc
        have p0 := hpc.c0
        have p1 := hpc.c1
        clear hpc
        have hkl : k < ps.length := by rw [hP.length]; exact hlt
        have Hbad := hid (formB_part (L := L) (V := V) (i := i) hkl)
        obtain ⟨q, hq⟩ : ∃ q, ps.getD k ([], []) = q := ⟨_, rfl⟩
        have Hq := hid hq
        rw [hq] at Hbad HPC p0 p1
        clear hq
        by_cases h3 : q.1.length = 67
        · have hd3 : ((q.1.length : Int) != 67) = false := by simp; omega
          have hd3 : ((q.1.length : Int) == 67) = true := by simp; omega
          have H3 := hid h3
          clear h3
          by_cases h4 : (q.2.length : Int) = V
          · skip
            have hd4 : ((q.2.length : Int) != V) = false := by simp [h4]
            have hd4 : ((q.2.length : Int) == V) = true := by simp [h4]
            have H4 := hid h4
            clear h4
            have Kshw2 := hid (Kshwr.out.old (.cells #[.slice oa q.1.length oc, .slice aa q.2.length ac] 88 (0, 0)))
            have hlshw2 := Kshwr.out.lt
            have Kgw2 := hid (Kgwr.out.old (.cells #[.slice oa q.1.length oc, .slice aa q.2.length ac] 88 (0, 0)))
            have hlgw2 := Kgwr.out.lt
            have Kxw2 := hid (Blk.new (w := wr) rfl #[.slice oa q.1.length oc, .slice aa q.2.length ac] 88)
            have HBw2 := hid (HBwr.out.alloc HBwr.out.size (.cells #[.slice oa q.1.length oc, .slice aa q.2.length ac] 88 (0, 0)))
            have hsw2 := HBw2.out.size
            have hfw2 : w.heap.size ≤ wr.heap.size := HBwr.out.size
            have v1 : (wr.alloc (.cells #[.slice oa q.1.length oc, .slice aa q.2.length ac] 88 (0, 0))).cell? ⟨w.heap.size, 1, none⟩ = some (.int .i64 V) := by rw [Kshw2.out.cell]; rfl
            have hne : ¬ wr.heap.size = w.heap.size := by omega
            have hne2 : ¬ w.heap.size = wr.heap.size := by omega
            go_wp2_with (first
               | (refine wpList_index_s 2 (by first | rfl | go_simp) 73 _ _ rfl Tryd.underlying73 size_part x (o) (n) (c) rfl _ _ rfl k (by omega) (by omega) ?_)
               | (refine wpList_load_mid rfl 88 _ rfl x (o + k * 2) rfl _ _ HPC.out.range Tryd.underlying88 rfl (by exact size_part) ?_))
            exact ⟨⟨k + 1, by omega, by first | rfl | simp, Kshw2.out, Kgw2.out, HBw2.out, fun j hj => by
              by_cases hjk : j = k
              · subst hjk; rw [Hq.out]; exact ⟨H3.out, H4.out⟩
              · exact Hall.out j (by omega)⟩, by simp [intOf]; omega⟩
          · skip
            have hd4 : ((q.2.length : Int) != V) = true := by simp [h4]
            have hd4 : ((q.2.length : Int) == V) = false := by simp [h4]
            have Kshw2 := hid (Kshwr.out.old (.cells #[.slice oa q.1.length oc, .slice aa q.2.length ac] 88 (0, 0)))
            have hlshw2 := Kshwr.out.lt
            have Kgw2 := hid (Kgwr.out.old (.cells #[.slice oa q.1.length oc, .slice aa q.2.length ac] 88 (0, 0)))
            have hlgw2 := Kgwr.out.lt
            have Kxw2 := hid (Blk.new (w := wr) rfl #[.slice oa q.1.length oc, .slice aa q.2.length ac] 88)
            have HBw2 := hid (HBwr.out.alloc HBwr.out.size (.cells #[.slice oa q.1.length oc, .slice aa q.2.length ac] 88 (0, 0)))
            have hsw2 := HBw2.out.size
            have hfw2 : w.heap.size ≤ wr.heap.size := HBwr.out.size
            have v1 : (wr.alloc (.cells #[.slice oa q.1.length oc, .slice aa q.2.length ac] 88 (0, 0))).cell? ⟨w.heap.size, 1, none⟩ = some (.int .i64 V) := by rw [Kshw2.out.cell]; rfl
            have hne : ¬ wr.heap.size = w.heap.size := by omega
            have hne2 : ¬ w.heap.size = wr.heap.size := by omega
            go_wp2_with (first
               | (refine wpList_index_s 2 (by first | rfl | go_simp) 73 _ _ rfl Tryd.underlying73 size_part x (o) (n) (c) rfl _ _ rfl k (by omega) (by omega) ?_)
               | (refine wpList_load_mid rfl 88 _ rfl x (o + k * 2) rfl _ _ HPC.out.range Tryd.underlying88 rfl (by exact size_part) ?_))
            go_returns
            exact ⟨by rw [Hbad.out (fun h => h4 h.2)]; rfl, HBw2.out⟩
        · have hd3 : ((q.1.length : Int) != 67) = true := by simp; omega
          have hd3 : ((q.1.length : Int) == 67) = false := by simp; omega
          skip
          have Kshw2 := hid (Kshwr.out.old (.cells #[.slice oa q.1.length oc, .slice aa q.2.length ac] 88 (0, 0)))
          have hlshw2 := Kshwr.out.lt
          have Kgw2 := hid (Kgwr.out.old (.cells #[.slice oa q.1.length oc, .slice aa q.2.length ac] 88 (0, 0)))
          have hlgw2 := Kgwr.out.lt
          have Kxw2 := hid (Blk.new (w := wr) rfl #[.slice oa q.1.length oc, .slice aa q.2.length ac] 88)
          have HBw2 := hid (HBwr.out.alloc HBwr.out.size (.cells #[.slice oa q.1.length oc, .slice aa q.2.length ac] 88 (0, 0)))
          have hsw2 := HBw2.out.size
          have hfw2 : w.heap.size ≤ wr.heap.size := HBwr.out.size
          have v1 : (wr.alloc (.cells #[.slice oa q.1.length oc, .slice aa q.2.length ac] 88 (0, 0))).cell? ⟨w.heap.size, 1, none⟩ = some (.int .i64 V) := by rw [Kshw2.out.cell]; rfl
          have hne : ¬ wr.heap.size = w.heap.size := by omega
          have hne2 : ¬ w.heap.size = wr.heap.size := by omega
          go_wp2_with (first
             | (refine wpList_index_s 2 (by first | rfl | go_simp) 73 _ _ rfl Tryd.underlying73 size_part x (o) (n) (c) rfl _ _ rfl k (by omega) (by omega) ?_)
             | (refine wpList_load_mid rfl 88 _ rfl x (o + k * 2) rfl _ _ HPC.out.range Tryd.underlying88 rfl (by exact size_part) ?_))
          go_returns
          exact ⟨by rw [Hbad.out (fun h => h3 h.1)]; rfl, HBw2.out⟩
      · obtain rfl : k = n := by omega
        have hc0 : ¬ ((k : Int) < k) := by omega
        have hl := hP.length
        go_wp2_with fail
        go_returns
        exact ⟨by rw [formB_good hrt (by omega) (by rw [HM.out]; omega) (by rw [hl]; exact H2.out) (fun j hj => Hall.out j (by omega))]; rfl, HBwr.out⟩
  · skip
    have hd2 : ((n : Int) != L) = true := by simp [h2]
    have hd2 : ((n : Int) == L) = false := by simp [h2]
    refine wp_region_flow 23 (List.range 23) [] [] (by kernel_rfl) (by kernel_rfl) ?_
    apply Exists.intro
    refine ⟨fun w0 hb0 hF0 => ?_, ?_⟩
    · skip
      have x0 : ∀ w', (∃ x : Ext w0, w' = x.at_) → ∃ T, Blk w' (w.heap.size) (shC L V) T := fun w' ⟨x, hx⟩ => ⟨_, hx ▸ (Ksh.out.below hb0).below x.same⟩
      have y0 : ∀ w', (∃ x : Ext w0, w' = x.at_) → w'.cell? ⟨w.heap.size + 1, 0, none⟩ = some (.int .i64 i) := fun w' ⟨x, hx⟩ => by rw [hx, ((Kg.out.below hb0).below x.same).cell]; rfl
      have y1 : ∀ w', (∃ x : Ext w0, w' = x.at_) → w'.cell? ⟨w.heap.size, 0, none⟩ = some (.int .i64 L) := fun w' ⟨x, hx⟩ => by rw [hx, ((Ksh.out.below hb0).below x.same).cell]; rfl
      have c0 := fun e : Ext w0 => hright_b L V true hrt e.at_
      have c1 := fun e : Ext w0 => CM.out e.at_
      have yp : ∀ w', (∃ x : Ext w0, w' = x.at_) → w'.cell? ⟨w.heap.size + 1, 33, none⟩ = some (.slice a n c) := fun w' ⟨x, hx⟩ => hx ▸ sigC_parts hr ((Kg.out.below hb0).below x.same)
      simp only [pick, List.range, List.range.loop, List.getElem?_toArray, List.getElem?_cons_succ, List.getElem?_cons_zero, Option.toList_some, List.cons_append, List.nil_append]
      repeat (first | (go_big_quiet_want; refine quiet_load_blk 63 _ rfl (w.heap.size) rfl _ x0 _ Tryd.underlying63 rfl 2 size_shape rfl ?_; go_big_quiet_on; simp only [Act.put, List.setIfInBounds_toArray, List.set_cons_zero, List.set_cons_succ]) | (go_big_quiet_want; refine quiet_load_one 3 _ rfl ⟨w.heap.size + 1, 0, none⟩ rfl _ y0 _ Tryd.underlying3 rfl ?_; go_big_quiet_on; simp only [Act.put, List.setIfInBounds_toArray, List.set_cons_zero, List.set_cons_succ]) | (go_big_quiet_want; refine quiet_load_one 3 _ rfl ⟨w.heap.size, 0, none⟩ rfl _ y1 _ Tryd.underlying3 rfl ?_; go_big_quiet_on; simp only [Act.put, List.setIfInBounds_toArray, List.set_cons_zero, List.set_cons_succ]) | (go_big_quiet_want; refine quiet_load_one 73 _ rfl ⟨w.heap.size + 1, 33, none⟩ rfl _ yp _ Tryd.underlying73 rfl ?_; go_big_quiet_on; simp only [Act.put, List.setIfInBounds_toArray, List.set_cons_zero, List.set_cons_succ]) | go_big_quiet_step (first | (go_at_call 41; with_reducible exact Calls.ext (c0 _)) | (go_at_call 43; with_reducible exact Calls.ext (c1 _))))
      exact wpQuiet_nil rfl
    refine AlChk.nil ?_
    refine Walk.fin fun w1 hw1 _ _ => ?_
    simp only [List.drop_succ_cons, List.drop_zero]
    have HBw1 := hid (Below.on Hb.out hw1)
    have hsw1 := HBw1.out.size
    have Kshw1 := hid (Ksh.out.below hw1)
    have Kgw1 := hid (Kg.out.below hw1)
    clear hw1
    go_wp2_with fail
    go_returns
    exact ⟨by rw [formB_len (by rw [hP.length]; exact h2)]; rfl, HBw1.out⟩
end Go.Proofs.YtjkfbeillmeomaaDoor
