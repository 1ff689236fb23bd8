/-
  Layer 20: mathematics of a signature's bytes; two signatures alike.
-/
import Derived.Test.YtkakoiaahgchmaaGP6
namespace Go.Proofs.Ytkakoiaahgchmaa
open Go.ChangeShapes Go.WideShapes Go.ChangeAt Go.RowKit

theorem wpList_load_mid_if {P : Program} {ops : Array Oper} {rest : List Oper} {op : Oper} {a : Act} {w : World} {Q : Exit → Act → World → Prop} (hw : Region.wanted op (yielded ops a.tmps) = true) (ty : TypeId) (x : Operand) (ho : op.op = .load ty x) (b o : Nat) (hx : a.eval x = .pointer (some ⟨b, o, none⟩)) (cs : List Value) (d : TypeDesc) (hk : w.rangeAt b o cs)
    (hu : P.underlying ty = some d) (hd : d.isRow = true) (hi : (P.info? ty).map (·.size) = some cs.length)
    (h : wpList P ops Q rest (a.put op.dst (.agg cs.toArray)) w) : wpList P ops Q (op :: rest) a w := by
  unfold wpList
  rw [if_pos hw]
  exact .inl (wp_load_mid ty x ho b o hx cs d hk hu hd hi h)
set_option maxHeartbeats 4000000 in
set_option maxRecDepth 100000 in
theorem sigsame_any (i : Int) (r : List Int) (a : Option Addr) (n c : Nat) (a2 : Option Addr) (c2 : Nat) (ps : List Prt) (w : World) (hr : Dg r) (hP1 : PartsAt w a n c ps) (hP2 : PartsAt w a2 n c2 ps) :
    Calls Try.prog 12 #[.agg (sigC i r (.slice a n c)).toArray, .agg (sigC i r (.slice a2 n c2)).toArray] w fun e w' => e = .returned (.bool true) ∧ Below w.heap.size w w' := by
  have hnm : n ≤ 9223372036854775807 := Nat.le_trans hP1.le hP1.max
  have b1 := (Below.refl w.heap.size w).alloc (Nat.le_refl _) (.cells (sigC i r (.slice a n c)).toArray 28 (0, 0))
  have b2 := b1.alloc b1.size (.cells (sigC i r (.slice a2 n c2)).toArray 28 (0, 0))
  have Kx := hid ((Blk.new (w := w) (n := w.heap.size) rfl (sigC i r (.slice a n c)).toArray 28).old (.cells (sigC i r (.slice a2 n c2)).toArray 28 (0, 0)))
  have Ky := hid (Blk.new (w := (w.alloc (.cells (sigC i r (.slice a n c)).toArray 28 (0, 0)))) (n := w.heap.size + 1) (by simp only [World.size_alloc]) (sigC i r (.slice a2 n c2)).toArray 28)
  have Hb := hid b2
  have hbz := b2.size
  have Hbs := hid (show w.heap.size + 1 + 1 = ((w.alloc (.cells (sigC i r (.slice a n c)).toArray 28 (0, 0))).alloc (.cells (sigC i r (.slice a2 n c2)).toArray 28 (0, 0))).heap.size by simp only [World.size_alloc])
  clear b1 b2 
  go_enter Try.func12, Try.ntmps12
  have q1 := fun W => neD_self r hr.len W
  have i1 := sigC_index Kx.out
  have i2 := sigC_index Ky.out
  have v1 := sigC_parts hr Kx.out
  have v2 := sigC_parts hr Ky.out
  go_wp2_with (first
     | (refine wpList_load_mid_if (by first | rfl | go_simp) 25 _ rfl (w.heap.size) 1 rfl _ _ (sigC_r Kx.out) Try.underlying25 rfl (by rw [List.length_map, hr.len]; exact size_digest) ?_)
     | (refine wpList_load_mid_if (by first | rfl | go_simp) 25 _ rfl (w.heap.size + 1) 1 rfl _ _ (sigC_r Ky.out) Try.underlying25 rfl (by rw [List.length_map, hr.len]; exact size_digest) ?_))
  clear i1 i2 v1 v2 q1
  have Hxb := hid Kx.out
  have Hyb := hid Ky.out
  have Hbe := hid Hb.out
  go_loopw [5] (fun iv wr => ∃ k : Nat, k ≤ n ∧ iv = .int .i64 k ∧ Blk wr (w.heap.size) (sigC i r (.slice a n c)).toArray 28 ∧ Blk wr (w.heap.size + 1) (sigC i r (.slice a2 n c2)).toArray 28 ∧ Below w.heap.size w wr) (fun iv _ => n - (intOf iv).toNat)
  case atStart => exact ⟨0, Nat.zero_le _, rfl, Hxb.out, Hyb.out, Hbe.out⟩
  case round =>
    obtain ⟨k, hk, rfl, kx, ky, bel⟩ := hrel
    have Kxwr := hid kx
    have Kywr := hid ky
    have HBwr := hid bel
    have hswr := bel.size
    have v1 := sigC_parts hr kx
    have v2 := sigC_parts hr ky
    clear kx ky bel
    by_cases hlt : k < n
    · have hc0 : (k : Int) < n := by omega
      obtain ⟨x, o, oa, oc, aa, ac, hxa, hpc⟩ := hP1.part hlt
      obtain ⟨y, q, ob, od, ab, ad, hya, hpd⟩ := hP2.part hlt
      have hxlt := hpc.lt
      have hylt := hpd.lt
      have C0 := hid hpc.c0
      have C1 := hid hpc.c1
      have D0 := hid hpd.c0
      have D1 := hid hpd.c1
      have HO1 := hid hpc.ots
      have HA1 := hid hpc.auth
      have HO2 := hid hpd.ots
      have HA2 := hid hpd.auth
      subst hxa hya
      clear hpc hpd
      generalize hu1 : (ps.getD k ([], [])).1 = u1 at *
      generalize hu2 : (ps.getD k ([], [])).2 = u2 at *
      go_wp2_with fail
      refine wp_region_flow 30 (List.range 30) [] [] (by kernel_rfl) (by kernel_rfl) ?_
      apply Exists.intro
      refine ⟨fun w0 hb0 hF0 => ?_, ?_⟩
      · skip
        have c0 := fun e : Ext w0 => same_any oa ob u1.length oc od u1 e.at_ ((HO1.out.below (Below.on HBwr.out hb0)).below e.same) ((HO2.out.below (Below.on HBwr.out hb0)).below e.same)
        have c1 := fun e : Ext w0 => same_any aa ab u2.length ac ad u2 e.at_ ((HA1.out.below (Below.on HBwr.out hb0)).below e.same) ((HA2.out.below (Below.on HBwr.out hb0)).below e.same)
        have y0 : ∀ w', (∃ x : Ext w0, w' = x.at_) → w'.cell? ⟨w.heap.size, 33, none⟩ = some (.slice (some ⟨x, o, none⟩) n c) := fun w' ⟨x, hx⟩ => hx ▸ sigC_parts hr ((Kxwr.out.below hb0).below x.same)
        have y1 : ∀ w', (∃ x : Ext w0, w' = x.at_) → w'.cell? ⟨w.heap.size + 1, 33, none⟩ = some (.slice (some ⟨y, q, none⟩) n c2) := fun w' ⟨x, hx⟩ => hx ▸ sigC_parts hr ((Kywr.out.below hb0).below x.same)
        have HBw0 := Below.on HBwr.out hb0
        have y2 : ∀ w', (∃ x : Ext w0, w' = x.at_) → w'.cell? ⟨x, o + k * 2, none⟩ = some (.slice oa u1.length oc) := fun w' ⟨z, hz⟩ => by rw [hz]; exact (z.same.cell (Nat.lt_of_lt_of_le hxlt HBw0.size)).trans ((HBw0.cell hxlt).trans C0.out)
        have y3 : ∀ w', (∃ x : Ext w0, w' = x.at_) → w'.cell? ⟨x, o + k * 2 + 1, none⟩ = some (.slice aa u2.length ac) := fun w' ⟨z, hz⟩ => by rw [hz]; exact (z.same.cell (Nat.lt_of_lt_of_le hxlt HBw0.size)).trans ((HBw0.cell hxlt).trans C1.out)
        have y4 : ∀ w', (∃ x : Ext w0, w' = x.at_) → w'.cell? ⟨y, q + k * 2, none⟩ = some (.slice ob u1.length od) := fun w' ⟨z, hz⟩ => by rw [hz]; exact (z.same.cell (Nat.lt_of_lt_of_le hylt HBw0.size)).trans ((HBw0.cell hylt).trans D0.out)
        have y5 : ∀ w', (∃ x : Ext w0, w' = x.at_) → w'.cell? ⟨y, q + k * 2 + 1, none⟩ = some (.slice ab u2.length ad) := fun w' ⟨z, hz⟩ => by rw [hz]; exact (z.same.cell (Nat.lt_of_lt_of_le hylt HBw0.size)).trans ((HBw0.cell hylt).trans D1.out)
        simp only [pick, List.range, List.range.loop, List.getElem?_toArray, List.getElem?_cons_succ, List.getElem?_cons_zero, Option.toList_some, List.cons_append, List.nil_append]
        repeat (first | (go_big_quiet_want; refine quiet_load_one 26 _ rfl ⟨w.heap.size, 33, none⟩ rfl _ y0 _ Try.underlying26 rfl ?_; go_big_quiet_on; simp only [Act.put, List.setIfInBounds_toArray, List.set_cons_zero, List.set_cons_succ]) | (go_big_quiet_want; refine quiet_load_one 26 _ rfl ⟨w.heap.size + 1, 33, none⟩ rfl _ y1 _ Try.underlying26 rfl ?_; go_big_quiet_on; simp only [Act.put, List.setIfInBounds_toArray, List.set_cons_zero, List.set_cons_succ]) | (go_big_quiet_want; refine quiet_load_one 44 _ rfl ⟨x, o + k * 2, none⟩ rfl _ y2 _ Try.underlying44 rfl ?_; go_big_quiet_on; simp only [Act.put, List.setIfInBounds_toArray, List.set_cons_zero, List.set_cons_succ]) | (go_big_quiet_want; refine quiet_load_one 44 _ rfl ⟨x, o + k * 2 + 1, none⟩ rfl _ y3 _ Try.underlying44 rfl ?_; go_big_quiet_on; simp only [Act.put, List.setIfInBounds_toArray, List.set_cons_zero, List.set_cons_succ]) | (go_big_quiet_want; refine quiet_load_one 44 _ rfl ⟨y, q + k * 2, none⟩ rfl _ y4 _ Try.underlying44 rfl ?_; go_big_quiet_on; simp only [Act.put, List.setIfInBounds_toArray, List.set_cons_zero, List.set_cons_succ]) | (go_big_quiet_want; refine quiet_load_one 44 _ rfl ⟨y, q + k * 2 + 1, none⟩ rfl _ y5 _ Try.underlying44 rfl ?_; go_big_quiet_on; simp only [Act.put, List.setIfInBounds_toArray, List.set_cons_zero, List.set_cons_succ]) | (go_big_quiet_want; refine quiet_index_s 2 26 _ _ rfl Try.underlying26 size_part x o n c rfl _ _ rfl k (by omega) (by omega) ?_; go_big_quiet_on; simp only [Act.put, List.setIfInBounds_toArray, List.set_cons_zero, List.set_cons_succ]) | (go_big_quiet_want; refine quiet_index_s 2 26 _ _ rfl Try.underlying26 size_part y q n c2 rfl _ _ rfl k (by omega) (by omega) ?_; go_big_quiet_on; simp only [Act.put, List.setIfInBounds_toArray, List.set_cons_zero, List.set_cons_succ]) | go_big_quiet_step (first | (go_at_call 26; with_reducible exact Calls.ext (c0 _)) | (go_at_call 26; with_reducible exact Calls.ext (c1 _))))
        exact wpQuiet_nil rfl
      refine AlChk.nil ?_
      refine Walk.fin fun w31 hw31 _ _ => ?_
      simp only [List.drop_succ_cons, List.drop_zero]
      have HBw31 := hid (Below.on HBwr.out hw31)
      have hsw31 := HBw31.out.size
      have Kxw31 := hid (Kxwr.out.below hw31)
      have Kyw31 := hid (Kywr.out.below hw31)
      clear hw31
      go_wp2_with fail
      exact ⟨⟨k + 1, by omega, by first | rfl | simp, Kxw31.out, Kyw31.out, HBw31.out⟩, by simp [intOf]; omega⟩
    · obtain rfl : k = n := by omega
      have hc0 : ¬ ((k : Int) < k) := by omega
      go_wp2_with fail
      go_returns
      exact ⟨rfl, HBwr.out⟩
theorem rowsZ_cons (d u : List Int) (hd : d.length = 32) (n : Nat) : rowsZ (d ++ u) (n + 1) = d :: rowsZ u n := by
  unfold rowsZ
  rw [List.range_succ_eq_map, List.map_cons, List.map_map]
  congr 1
  · rw [Nat.zero_mul, List.drop_zero, List.take_append_of_le_length (by omega), List.take_of_length_le (by omega)]
  · apply List.map_congr_left
    intro j _
    show ((d ++ u).drop ((j + 1) * 32)).take 32 = (u.drop (j * 32)).take 32
    rw [show (j + 1) * 32 = d.length + j * 32 by omega, ← List.drop_drop, List.drop_left']
    rfl
theorem rowsZ_flat (ds : List (List Int)) (rest : List Int) (h : ∀ d ∈ ds, d.length = 32) : rowsZ (ds.flatten ++ rest) ds.length = ds := by
  induction ds with
  | nil => rfl
  | cons d ds ih =>
    rw [List.flatten_cons, List.append_assoc, List.length_cons, rowsZ_cons _ _ (h d (by simp)), ih (fun x hx => h x (by simp [hx]))]
theorem flat_rowsZ (t : List Int) (n : Nat) : (rowsZ t n).flatten = t.take (n * 32) := by
  induction n with
  | zero => simp [rowsZ]
  | succ n ih => rw [rowsZ_succ, List.flatten_append, ih, show (n + 1) * 32 = n * 32 + 32 by omega, List.take_add]; simp
theorem ptsB_append (a b : List Prt) : ptsB (a ++ b) = ptsB a ++ ptsB b := by simp [ptsB]
theorem ptsB_partsZ (V : Nat) (u : List Int) (k : Nat) : ptsB (partsZ V u k) = u.take (k * (2144 + V * 32)) := by
  induction k with
  | zero => simp [partsZ, ptsB]
  | succ k ih =>
    unfold partsZ
    rw [ptsB_append, ih, Nat.succ_mul, List.take_add]
    congr 1
    show ptsB [_] = _
    rw [List.take_add, List.drop_drop]
    simp [ptsB, ptB, flat_rowsZ]
theorem partsZ_ptsB (V : Nat) (ps : List Prt) (hf : ∀ j, j < ps.length → (ps.getD j ([], [])).1.length = 67 ∧ (ps.getD j ([], [])).2.length = V) (hd : ∀ j, j < ps.length → (∀ d ∈ (ps.getD j ([], [])).1, Dg d) ∧ (∀ d ∈ (ps.getD j ([], [])).2, Dg d)) (k : Nat) (hk : k ≤ ps.length) : partsZ V (ptsB ps) k = ps.take k ∧ (ptsB (ps.take k)).length = k * (2144 + V * 32) := by
  induction k with
  | zero => simp [partsZ, ptsB]
  | succ k ih =>
    obtain ⟨h1, h2⟩ := ih (by omega)
    have hkl : k < ps.length := by omega
    have f := hf k hkl
    have dd := hd k hkl
    have hT := ptsB_take ps k hkl
    obtain ⟨q, hq⟩ : ∃ q, ps.getD k ([], []) = q := ⟨_, rfl⟩
    have hqk : ps[k] = q := by rw [← hq]; simp [hkl]
    rw [hq] at f dd hT
    have e1 := flat_length (ds := q.1) (fun d h => (dd.1 d h).len)
    have e2 := flat_length (ds := q.2) (fun d h => (dd.2 d h).len)
    rw [f.1] at e1
    rw [f.2] at e2
    have hsp : ptsB ps = ptsB (ps.take k) ++ (q.1.flatten ++ (q.2.flatten ++ ptsB (ps.drop (k + 1)))) := by
      have h3 : ps = ps.take (k + 1) ++ ps.drop (k + 1) := (List.take_append_drop _ _).symm
      have h4 : ptsB ps = ptsB (ps.take (k + 1)) ++ ptsB (ps.drop (k + 1)) := by rw [← ptsB_append, ← h3]
      rw [h4, hT]
      simp
    constructor
    · unfold partsZ
      rw [h1, List.take_succ_eq_append_getElem hkl, hqk]
      congr 1
      have g1 : (ptsB ps).drop (k * (2144 + V * 32)) = q.1.flatten ++ (q.2.flatten ++ ptsB (ps.drop (k + 1))) := by
        rw [hsp, ← h2, List.drop_left']
        rfl
      have g2 : (ptsB ps).drop (k * (2144 + V * 32) + 2144) = q.2.flatten ++ ptsB (ps.drop (k + 1)) := by
        rw [← List.drop_drop, g1, show 2144 = q.1.flatten.length by omega, List.drop_left']
        rfl
      rw [g1, g2]
      have r1 := rowsZ_flat q.1 (q.2.flatten ++ ptsB (ps.drop (k + 1))) (fun d h => (dd.1 d h).len)
      have r2 := rowsZ_flat q.2 (ptsB (ps.drop (k + 1))) (fun d h => (dd.2 d h).len)
      rw [f.1] at r1
      rw [f.2] at r2
      rw [r1, r2]
    · have e3 : (k + 1) * (2144 + V * 32) = k * (2144 + V * 32) + (2144 + V * 32) := Nat.succ_mul _ _
      rw [hT, List.length_append, List.length_append, h2, e1, e2]
      omega
theorem be_numOf : ∀ (k : Nat) (bs : List Int), bs.length = k → (∀ x ∈ bs, 0 ≤ x ∧ x < 256) → be k (numOf bs) = bs := by
  intro k
  induction k with
  | zero => intro bs h _; rw [List.eq_nil_of_length_eq_zero h]; rfl
  | succ k ih =>
    intro bs h hs
    obtain ⟨l, x, rfl⟩ : ∃ l x, bs = l ++ [x] := ⟨bs.take k, bs[k], by rw [← List.take_succ_eq_append_getElem (by omega), List.take_of_length_le (by omega)]⟩
    have hx := hs x (by simp)
    have hl : l.length = k := by simpa using h
    rw [numOf_snoc]
    show be k ((256 * numOf l + x) / 256) ++ [(256 * numOf l + x) % 256] = _
    rw [show (256 * numOf l + x) / 256 = numOf l by omega, show (256 * numOf l + x) % 256 = x by omega, ih l hl (fun y hy => hs y (by simp [hy]))]
/-- What is written is read as it was. -/
theorem got_put {L V : Nat} {i : Int} {r : List Int} {ps : List Prt} (hf : formB L V i ps = true) (hr : Dg r) (hd : ∀ j, j < ps.length → (∀ d ∈ (ps.getD j ([], [])).1, Dg d) ∧ (∀ d ∈ (ps.getD j ([], [])).2, Dg d)) :
    (putZ i r ps).length = 40 + L * (2144 + V * 32) ∧ gotI (putZ i r ps) = i ∧ gotR (putZ i r ps) = r ∧ partsZ V ((putZ i r ps).drop 40) L = ps := by
  have hs : rightS L V = true ∧ 0 ≤ i ∧ i < manyS L V ∧ (ps.length : Int) = L ∧ ∀ j, j < ps.length → (ps.getD j ([], [])).1.length = 67 ∧ ((ps.getD j ([], [])).2.length : Int) = V := by
    unfold formB at hf
    simp only [Bool.and_eq_true, decide_eq_true_eq] at hf
    obtain ⟨⟨⟨⟨h1, h2⟩, h3⟩, h4⟩, h5⟩ := hf
    exact ⟨h1, h2, h3, h4, h5⟩
  obtain ⟨h1, h2, h3, h4, h5⟩ := hs
  have hM := manyS_in h1
  have hL : ps.length = L := by omega
  have hP := partsZ_ptsB V ps (fun j hj => ⟨(h5 j hj).1, by have := (h5 j hj).2; omega⟩) hd L (by omega)
  rw [show ps.take L = ps from List.take_of_length_le (by omega)] at hP
  have hu : uZ i = i := by unfold uZ; omega
  have hbl := be_length 8 (uZ i)
  have hd40 : (putZ i r ps).drop 40 = ptsB ps := by
    unfold putZ
    rw [show 40 = (be 8 (uZ i) ++ r).length by rw [List.length_append, hbl, hr.len], List.drop_left']
    rfl
  refine ⟨?_, ?_, ?_, ?_⟩
  · unfold putZ
    rw [List.length_append, List.length_append, hbl, hr.len, hP.2]
  · unfold gotI putZ
    rw [List.append_assoc, List.take_append_of_le_length (by omega), List.take_of_length_le (by omega), numOf_be, hu]
    have : (256 : Int) ^ 8 = 18446744073709551616 := by decide
    rw [this]
    omega
  · unfold gotR putZ
    rw [List.append_assoc, List.drop_left' hbl, List.take_append_of_le_length (by rw [hr.len]; omega), List.take_of_length_le (by rw [hr.len]; omega)]
  · rw [hd40]
    exact hP.1
/-- What is read is written as it was. -/
theorem put_got {L V : Nat} {t : List Int} (hl : t.length = 40 + L * (2144 + V * 32)) (hs : ∀ x ∈ t, 0 ≤ x ∧ x < 256) : putZ (gotI t) (gotR t) (partsZ V (t.drop 40) L) = t := by
  have hg := gotI_in hs
  have hu : uZ (gotI t) = gotI t := by unfold uZ; omega
  unfold putZ
  rw [ptsB_partsZ, List.take_of_length_le (by rw [List.length_drop]; omega), hu]
  unfold gotI gotR
  rw [be_numOf 8 (t.take 8) (by rw [List.length_take]; omega) (fun x hx => hs x (List.mem_of_mem_take hx))]
  rw [show t.drop 40 = (t.drop 8).drop 32 by rw [List.drop_drop], List.append_assoc, List.take_append_drop, List.take_append_drop]
theorem form_got {L V : Nat} {t : List Int} (hr : rightS L V = true) (hs : ∀ x ∈ t, 0 ≤ x ∧ x < 256) (hlt : gotI t < manyS L V) : formB L V (gotI t) (partsZ V (t.drop 40) L) = true := by
  refine formB_good hr (gotI_in hs).1 hlt (by rw [partsZ_length]) (fun j hj => ?_)
  rw [partsZ_length] at hj
  rw [partsZ_get V _ hj]
  simp only [rowsZ_length]
  exact ⟨trivial, trivial⟩
end Go.Proofs.Ytkakoiaahgchmaa
