/-
  Layer 17: the empty nodes, by the program and by the reference.
-/
import Derived.Test.YthaicocfbmpnmaaDoorLLogA
namespace Go.Proofs.YthaicocfbmpnmaaDoor
open Go.ChangeShapes Go.WideShapes Go.ChangeAt Go.RowKit

/-- The empty node of a level. -/
def emptyL : Nat → List Int
  | 0 => sumZ [2]
  | k + 1 => nodeL (emptyL k) (emptyL k)
theorem Dg.emptyL (k : Nat) : Dg (emptyL k) := by
  cases k with
  | zero => exact Dg.sum _
  | succ k => exact Dg.nodeL _ _
/-- The first empty nodes. -/
def empN (n : Nat) : List (List Int) := (List.range n).map emptyL
theorem empN_length (n : Nat) : (empN n).length = n := by simp [empN]
theorem empN_each (n : Nat) : ∀ d ∈ empN n, Dg d := fun d hd => by
  obtain ⟨i, _, rfl⟩ := List.mem_map.1 hd
  exact Dg.emptyL i
theorem empN_succ (n : Nat) : empN (n + 1) = empN n ++ [emptyL n] := by simp [empN, List.range_succ]
theorem empN_get {n k : Nat} (h : k < n) : (empN n).getD k [] = emptyL k := by simp [empN, h]
/-- The row, while it is filled. -/
@[irreducible] def fillE (m k : Nat) : List (List Int) := empN k ++ List.replicate (m - k) zD
theorem fillE_length {m k : Nat} (h : k ≤ m) : (fillE m k).length = m := by
  simp only [fillE, List.length_append, empN_length, List.length_replicate]
  omega
theorem fillE_each (m k : Nat) : ∀ d ∈ fillE m k, Dg d := fun d hd => by
  unfold fillE at hd
  rcases List.mem_append.1 hd with hd | hd
  · exact empN_each k d hd
  · exact zRow _ d hd
theorem fillE_set {m k : Nat} (h : k < m) : (fillE m k).set k (emptyL k) = fillE m (k + 1) := by
  unfold fillE
  rw [List.set_append_right _ _ (by rw [empN_length]; exact Nat.le_refl _), empN_length, Nat.sub_self, show m - k = (m - (k + 1)) + 1 by omega, List.replicate_succ, List.set_cons_zero, empN_succ, List.append_assoc]
  rfl
theorem fillE_zero (m : Nat) : fillE m 0 = List.replicate m zD := by simp [fillE, empN]
theorem fillE_done (m : Nat) : fillE m m = empN m := by simp [fillE]
theorem fillE_get {m k j : Nat} (h : j < k) : (fillE m k).getD j [] = emptyL j := by
  unfold fillE
  rw [List.getD_eq_getElem?_getD, List.getElem?_append_left (by rw [empN_length]; exact h), ← List.getD_eq_getElem?_getD, empN_get h]
theorem dig_rng {w : World} {g : Nat} {ds : List (List Int)} {T : TypeId} (hk : Blk w g (dcs ds) T) (hds : ∀ d ∈ ds, Dg d) {j : Nat} (hj : j < ds.length) : w.rangeAt g (0 + j * 32) ((ds.getD j []).map (Value.int .u8)) := by
  rw [Nat.zero_add]
  exact hk.digs hds j hj

set_option maxHeartbeats 4000000 in
set_option maxRecDepth 100000 in
theorem empty_any (w : World) (tab : ShaTab w) :
    Calls Tryd.prog 13 #[] w fun e w' => e = .returned (.slice (some ⟨w.heap.size, 0, none⟩) 257 257) ∧ Below w.heap.size w w' ∧ Blk w' w.heap.size (dcs (empN 257)) 23 := by
  have hmk := fun W : World => make_digs 257 257 rfl (by omega) W
  rw [← fillE_zero 257] at hmk
  have CS := hid (fun (W : World) (g g0 : Nat) (h : Blk W g #[.slice (some ⟨g0, 0, none⟩) 1 1] 67) (h0 : Blk W g0 (([2] : List Int).map (Value.int .u8)).toArray 5) (t : ShaTab W) => sum_any (some ⟨g, 0, none⟩) 1 1 [[2]] W (TextsAt.of_blk h rfl (Nat.le_refl _) (by omega) fun j hj => by
    match j, hj with
    | 0, _ => exact ⟨_, _, _, rfl, TextAt.of_ints h0 rfl (by omega) (by simp)⟩) (by simp only [sumLen, List.map_cons, List.map_nil, List.sum_cons, List.sum_nil, List.length_cons, List.length_nil]; omega) t)
  rw [show ([[2]] : List (List Int)).flatten = [2] by simp, show sumZ [2] = emptyL 0 from rfl] at CS
  have Htab := hid tab
  go_enter Tryd.func13, Tryd.ntmps13
  go_wp2_with fail
  have c0 := (Below.refl w.heap.size w).alloc (Nat.le_refl _) (.cells (dcs (fillE 257 0)) 23 (0, 0))
  have c1 := c0.alloc c0.size (.cells #[.int .u8 2] 5 (0, 0))
  have c2 := c1.alloc c1.size (.cells #[.slice (some ⟨w.heap.size + 1, 0, none⟩) 1 1] 67 (0, 0))
  have k1 : Blk (((w.alloc (.cells (dcs (fillE 257 0)) 23 (0, 0))).alloc (.cells #[.int .u8 2] 5 (0, 0))).alloc (.cells #[.slice (some ⟨w.heap.size + 1, 0, none⟩) 1 1] 67 (0, 0))) (w.heap.size + 1) (([2] : List Int).map (Value.int .u8)).toArray 5 := (Blk.new (w := w.alloc (.cells (dcs (fillE 257 0)) 23 (0, 0))) (n := w.heap.size + 1) (by simp only [World.size_alloc]) #[.int .u8 2] 5).old (.cells #[.slice (some ⟨w.heap.size + 1, 0, none⟩) 1 1] 67 (0, 0))
  have k2 : Blk (((w.alloc (.cells (dcs (fillE 257 0)) 23 (0, 0))).alloc (.cells #[.int .u8 2] 5 (0, 0))).alloc (.cells #[.slice (some ⟨w.heap.size + 1, 0, none⟩) 1 1] 67 (0, 0))) (w.heap.size + 1 + 1) #[.slice (some ⟨w.heap.size + 1, 0, none⟩) 1 1] 67 := Blk.new (w := (w.alloc (.cells (dcs (fillE 257 0)) 23 (0, 0))).alloc (.cells #[.int .u8 2] 5 (0, 0))) (n := w.heap.size + 1 + 1) (by simp only [World.size_alloc]) _ _
  have k0 : Blk (((w.alloc (.cells (dcs (fillE 257 0)) 23 (0, 0))).alloc (.cells #[.int .u8 2] 5 (0, 0))).alloc (.cells #[.slice (some ⟨w.heap.size + 1, 0, none⟩) 1 1] 67 (0, 0))) w.heap.size (dcs (fillE 257 0)) 23 := ((Blk.new rfl _ _).old (.cells #[.int .u8 2] 5 (0, 0))).old (.cells #[.slice (some ⟨w.heap.size + 1, 0, none⟩) 1 1] 67 (0, 0))
  refine (CS.out _ _ _ k2 k1 (Htab.out.below c2)).mono ?_
  rintro e w5 ⟨rfl, b5⟩
  have Hb5 := hid (Below.on c2 b5)
  have Kg5 := hid (k0.below b5)
  have hs5 := Hb5.out.size
  have hg5 := Kg5.out.lt
  clear c0 c1 c2 k0 k1 k2 b5
  go_wp2_with (first
     | (refine wpList_index_digs rfl 27 _ _ rfl Tryd.underlying27 size_digest w.heap.size 0 257 257 rfl _ _ rfl 0 rfl (by omega) ?_)
     | (
        refine wpList_store_dig rfl _ _ _ rfl w.heap.size 0 (emptyL 0) rfl rfl _ 23 Kg5.out (fillE_each 257 0) (Dg.emptyL 0) (by rw [fillE_length (by omega)]; omega) size_digest ?_
        intro w6 hb6 hk6
        rw [fillE_set (by omega)] at hk6
        have Kg6 := hid hk6
        have Hb6 := hid (hb6.below Hb5.out hs5 (Nat.le_refl _))
        clear hb6 hk6))
  go_loopw [9] (fun v wr => ∃ k : Nat, k ≤ 256 ∧ v = .int .i64 k ∧ Blk wr w.heap.size (dcs (fillE 257 (k + 1))) 23 ∧ Below w.heap.size w wr) (fun v _ => 256 - (intOf v).toNat)
  case atStart => exact ⟨0, Nat.zero_le _, rfl, Kg6.out, Hb6.out⟩
  case round =>
    clear Kg6 Hb6 Kg5 Hb5
    obtain ⟨k, hk, rfl, kg, bel⟩ := hrel
    have Kgwr := hid kg
    have HBwr := hid bel
    have hswr := bel.size
    have hgwr := kg.lt
    clear kg bel
    by_cases hlt : k < 256
    · skip
      have hc0 : (k : Int) < 256 := by omega
      go_wp2_with fail
      have HE := hid (Dg.emptyL k)
      have Hrg := hid (dig_rng Kgwr.out (fillE_each 257 (k + 1)) (j := k) (by rw [fillE_length (by omega)]; omega))
      rw [fillE_get (by omega)] at Hrg
      have HNX := hid (show emptyL (k + 1) = nodeL (emptyL k) (emptyL k) from rfl)
      have CN := hid (fun (W : World) (t : ShaTab W) => lonode_any (emptyL k) (emptyL k) W HE.out HE.out t)
      rw [← HNX.out] at CN
      have HX := hid (Dg.emptyL (k + 1))
      generalize hX1 : emptyL (k + 1) = X at *
      generalize emptyL k = E at *
      refine wp_region_flow 12 (List.range 12) [] [] (by kernel_rfl) (by kernel_rfl) ?_
      apply Exists.intro
      refine ⟨fun w0 hb0 hF0 => ?_, ?_⟩
      · skip
        have c0 := fun e : Ext w0 => CN.out e.at_ (Htab.out.below (Below.on (Below.on HBwr.out hb0) e.same))
        have yr : ∀ w', (∃ x : Ext w0, w' = x.at_) → w'.rangeAt w.heap.size (0 + k * 32) (E.map (Value.int .u8)) := fun w' ⟨x, hx⟩ j v hv => by rw [hx]; exact ((Below.on hb0 x.same).cell (p := ⟨w.heap.size, 0 + k * 32 + j, none⟩) hgwr).trans (Hrg.out j v hv)
        simp only [pick, List.range, List.range.loop, List.getElem?_toArray, List.getElem?_cons_succ, List.getElem?_cons_zero, Option.toList_some, List.cons_append, List.nil_append]
        repeat (first | (go_big_quiet_want; refine quiet_index_digs 27 _ _ rfl Tryd.underlying27 size_digest w.heap.size 0 257 257 rfl _ _ rfl k rfl (by omega) ?_; go_big_quiet_on; simp only [Act.put, List.setIfInBounds_toArray, List.set_cons_zero, List.set_cons_succ]) | (go_big_quiet_want; refine quiet_load_mid 23 _ rfl w.heap.size (0 + k * 32) rfl _ yr _ Tryd.underlying23 rfl (by rw [List.length_map, HE.out.len]; exact size_digest) ?_; go_big_quiet_on; simp only [Act.put, List.setIfInBounds_toArray, List.set_cons_zero, List.set_cons_succ]) | go_big_quiet_step (first | (go_at_call 17; with_reducible exact Calls.ext (c0 _))))
        exact wpQuiet_nil rfl
      refine AlChk.nil ?_
      refine Walk.fin fun w21 hw21 _ _ => ?_
      simp only [List.drop_succ_cons, List.drop_zero]
      have HBw21 := hid (Below.on HBwr.out hw21)
      have hsw21 := HBw21.out.size
      have Hw21 := hw21
      clear hw21
      go_wp2_with (first
         | (refine wpList_index_digs rfl 27 _ _ rfl Tryd.underlying27 size_digest w.heap.size 0 257 257 rfl _ _ rfl (k + 1) rfl (by omega) ?_)
         | (
            refine wpList_store_dig rfl _ _ _ rfl w.heap.size (k + 1) X rfl rfl _ 23 (Kgwr.out.below Hw21) (fillE_each 257 (k + 1)) HX.out (by rw [fillE_length (by omega)]; omega) size_digest ?_
            intro w9 hb9 hk9
            rw [← hX1, fillE_set (by omega)] at hk9
            have Kg9 := hid hk9
            have Hb9 := hid (hb9.below HBw21.out HBw21.out.size (Nat.le_refl _))
            clear hb9 hk9))
      exact ⟨⟨k + 1, by omega, by first | rfl | simp, Kg9.out, Hb9.out⟩, by simp [intOf]; omega⟩
    · skip
      have hk7 : k = 256 := by omega
      subst hk7
      have hc0 : ¬ ((256 : Int) < 256) := by omega
      go_wp2_with fail
      go_returns
      rw [show 256 + 1 = 257 from rfl, fillE_done] at Kgwr
      exact ⟨rfl, HBwr.out, Kgwr.out⟩

theorem But.ownD {b base : Nat} {w w' : World} {v : Value} {ds : List (List Int)} (hb : But b w w') (h : OwnD w base 23 v ds) (hlt : b < base) : OwnD w' base 23 v ds := by
  obtain ⟨⟨h1, h2⟩, h3⟩ := h
  refine ⟨⟨h1, h2.imp id ?_⟩, h3⟩
  rintro ⟨g, cap, cur, rfl, hg, hh, hle, hmx, hsz, htk⟩
  have hk : Blk w g cur 23 := hh
  exact ⟨g, cap, cur, rfl, hg, hb.blk hk (by omega), hle, hmx, hsz, htk⟩
set_option maxHeartbeats 4000000 in
set_option maxRecDepth 100000 in
theorem refempty_any (w : World) :
    Calls Tryd.prog 14 #[] w fun e w' => ∃ v, e = .returned v ∧ Below w.heap.size w w' ∧ OwnD w' w.heap.size 23 v (empN 257) := by
  have Hb := hid (Below.refl w.heap.size w)
  obtain ⟨i0, hi, hz0, hz1, hz2⟩ := info_parts info_dig
  go_enter Tryd.func14, Tryd.ntmps14
  go_wp2_with fail
  have c0 := (Below.refl w.heap.size w).alloc (Nat.le_refl _) (.cells #[.int .u8 2] 5 (0, 0))
  refine (refsum_any (some ⟨w.heap.size, 0, none⟩) 1 1 [2] (w.alloc (.cells #[.int .u8 2] 5 (0, 0))) (TextAt.of_ints (Blk.new rfl #[.int .u8 2] 5) rfl (by omega) (by simp)) (by omega)).mono ?_
  rintro e w1 ⟨rfl, b1⟩
  have HBw1 := hid (Below.on c0 b1)
  have hsw1 := HBw1.out.size
  rw [show sumZ [2] = emptyL 0 from rfl]
  have HE0 := hid (Dg.emptyL 0)
  generalize hE0 : emptyL 0 = E0 at *
  clear c0 b1
  go_wp2_with (
        refine wpList_store_blk rfl 23 _ _ rfl (w1.heap.size) (E0.map (Value.int .u8)).toArray rfl rfl _ 23 (Blk.new rfl (byteCells 32 []) _) 32 size_digest zsize HE0.out.size (ints_one _ _) ?_
        intro w2 hbw2 hkw2
        have hw2 := hbw2.below ((Below.refl w1.heap.size w1).alloc (Nat.le_refl _) _) (by simp only [World.size_alloc]; omega) (Nat.le_refl _)
        have HBw2 := hid (Below.on HBw1.out hw2)
        have hsw2 := HBw2.out.size
        have Knw2 := hid hkw2
        have hfw2 : w.heap.size ≤ w1.heap.size := HBw1.out.size
        clear hbw2 hkw2 hw2)
  go_loopw [1, 3] (fun v iv wr => ∃ k : Nat, k ≤ 257 ∧ iv = .int .i64 k ∧ Blk wr w1.heap.size ((emptyL k).map (Value.int .u8)).toArray 23 ∧ OwnD wr (w1.heap.size + 1) 23 v (empN k) ∧ Below w.heap.size w wr) (fun _ iv _ => 257 - (intOf iv).toNat)
  case atStart => exact ⟨0, Nat.zero_le _, rfl, by rw [hE0]; exact Knw2.out, OwnD.nil _ _ _, HBw2.out⟩
  case round =>
    obtain ⟨k, hk, rfl, kn, ho, bel⟩ := hrel
    have Knwr := hid kn
    have HOwr := hid ho
    have HBwr := hid bel
    have hswr := bel.size
    have hnwr := kn.lt
    have hel := empN_length k
    clear kn ho bel
    by_cases hlt : k < 257
    · skip
      have hc0 : (k : Int) ≤ 256 := by omega
      have HE := hid (Dg.emptyL k)
      have HNX := hid (show emptyL (k + 1) = nodeL (emptyL k) (emptyL k) from rfl)
      have HSX := hid (empN_succ k)
      have CN := hid (fun (W : World) => refnode_any (emptyL k) (emptyL k) W HE.out HE.out)
      rw [← HNX.out] at CN
      have HX := hid (Dg.emptyL (k + 1))
      generalize hX1 : emptyL (k + 1) = X at *
      generalize hE1 : emptyL k = E at *
      go_wp2_with (first
         | (refine wpList_build_one rfl _ rfl rfl HE.out ?_)
         | (
            refine wpList_append_dig rfl _ _ rfl Tryd.underlying27 hi hz0 zD_cells32 hz1 hz2 rfl (HOwr.out.below ((Below.refl wr.heap.size wr).alloc (Nat.le_refl _) (.cells (E.map (Value.int .u8)).toArray 23 (0, 0)))) rfl (Blk.new rfl (E.map (Value.int .u8)).toArray 23) HE.out (by omega) (by rw [World.size_alloc]; omega) ?_
            intro v8 w8 ho8 hg8 hb8
            rw [← HSX.out] at ho8
            have HO8 := hid ho8
            have HB8 := hid (Below.trans (HBwr.out.alloc hswr (.cells (E.map (Value.int .u8)).toArray 23 (0, 0))) (hb8.mono (by omega)))
            have Kn8 := hid ((Knwr.out.old (.cells (E.map (Value.int .u8)).toArray 23 (0, 0))).belowB (by omega) hb8)
            have hs8 := HB8.out.size
            have hn8 := Kn8.out.lt
            clear ho8 hg8 hb8)
         | (refine wpList_load_blk rfl 23 _ rfl (w1.heap.size) rfl _ 23 Knwr.out _ Tryd.underlying23 rfl 32 size_digest HE.out.size ?_)
         | (refine wpList_load_blk rfl 23 _ rfl (w1.heap.size) rfl _ 23 Kn8.out _ Tryd.underlying23 rfl 32 size_digest HE.out.size ?_))
      refine (CN.out _).mono ?_
      rintro e w9 ⟨rfl, b9⟩
      have HB9 := hid (Below.on HB8.out b9)
      have HO9 := hid (HO8.out.below b9)
      have Kn9 := hid (Kn8.out.below b9)
      have hs9 := HB9.out.size
      clear b9
      go_wp2_with (
            refine wpList_store_blk rfl 23 _ _ rfl (w1.heap.size) (X.map (Value.int .u8)).toArray rfl rfl _ 23 Kn9.out 32 size_digest HE.out.size HX.out.size (ints_one _ _) ?_
            intro w10 hb10 hk10
            have Hk10 := hid hk10
            have Hb10 := hid (hb10.below HB9.out hs9 (by omega))
            have HO10 := hid (hb10.ownD HO9.out (by omega))
            clear hb10 hk10)
      exact ⟨⟨k + 1, by omega, by first | rfl | simp, by rw [hX1]; exact Hk10.out, HO10.out, Hb10.out⟩, by simp [intOf]; omega⟩
    · skip
      have hk7 : k = 257 := by omega
      subst hk7
      have hc0 : ¬ ((257 : Int) ≤ 256) := by omega
      go_wp2_with fail
      go_ret
      exact ⟨_, rfl, HBwr.out, HOwr.out.re (by omega)⟩
end Go.Proofs.YthaicocfbmpnmaaDoor
