/-
  Layer 17: an index's bits, by the program and by the reference.
-/
import Derived.Test.YthaicocfbmpnmaaDoorPtB
namespace Go.Proofs.YthaicocfbmpnmaaDoor
open Go.ChangeShapes Go.WideShapes Go.ChangeAt Go.RowKit

/-- On which side the node of a level is. -/
def bitL (d : List Int) (k : Nat) : Int := d.getD (31 - k / 8) 0 / 2 ^ (k % 8) % 2
/-- A byte of an index, turned down by a bit. -/
def halfB (d : List Int) (i : Nat) : Int := d.getD i 0 / 2 + (if i = 0 then 0 else d.getD (i - 1) 0 % 2 * 128)
def halfL (d : List Int) : List Int := (List.range 32).map (halfB d)
def halfP (d : List Int) (k : Nat) : List Int := (List.range k).map (halfB d) ++ List.replicate (32 - k) 0
theorem dg_at {d : List Int} (h : Dg d) (i : Nat) : 0 ≤ d.getD i 0 ∧ d.getD i 0 < 256 := by
  rw [List.getD_eq_getElem?_getD]
  by_cases hi : i < d.length
  · rw [List.getElem?_eq_getElem hi]
    exact h.small _ (List.getElem_mem hi)
  · rw [List.getElem?_eq_none (by omega)]
    simp
theorem halfB_small {d : List Int} (h : Dg d) (i : Nat) : 0 ≤ halfB d i ∧ halfB d i < 256 := by
  have h1 := dg_at h i
  have h2 := dg_at h (i - 1)
  unfold halfB
  split <;> omega
theorem Dg.half {d : List Int} (h : Dg d) : Dg (halfL d) := ⟨by simp [halfL], fun x hx => by
  obtain ⟨i, _, rfl⟩ := List.mem_map.1 hx
  exact halfB_small h i⟩
theorem halfL_get {d : List Int} {i : Nat} (h : i < 32) : (halfL d).getD i 0 = halfB d i := by simp [halfL, h]
/-- A bit of what was turned down is the next bit. -/
theorem bit_half {d : List Int} (h : Dg d) (k : Nat) (hk : k + 1 < 256) : bitL (halfL d) k = bitL d (k + 1) := by
  unfold bitL
  rw [halfL_get (by omega)]
  have h1 := dg_at h (31 - k / 8)
  have h2 := dg_at h (31 - k / 8 - 1)
  unfold halfB
  rcases (show k % 8 = 0 ∨ k % 8 = 1 ∨ k % 8 = 2 ∨ k % 8 = 3 ∨ k % 8 = 4 ∨ k % 8 = 5 ∨ k % 8 = 6 ∨ k % 8 = 7 by omega) with e | e | e | e | e | e | e | e
  all_goals rw [e]
  · rw [show (k + 1) / 8 = k / 8 by omega, show (k + 1) % 8 = 1 by omega]; split <;> omega
  · rw [show (k + 1) / 8 = k / 8 by omega, show (k + 1) % 8 = 2 by omega]; split <;> omega
  · rw [show (k + 1) / 8 = k / 8 by omega, show (k + 1) % 8 = 3 by omega]; split <;> omega
  · rw [show (k + 1) / 8 = k / 8 by omega, show (k + 1) % 8 = 4 by omega]; split <;> omega
  · rw [show (k + 1) / 8 = k / 8 by omega, show (k + 1) % 8 = 5 by omega]; split <;> omega
  · rw [show (k + 1) / 8 = k / 8 by omega, show (k + 1) % 8 = 6 by omega]; split <;> omega
  · rw [show (k + 1) / 8 = k / 8 by omega, show (k + 1) % 8 = 7 by omega]; split <;> omega
  · rw [show (k + 1) / 8 = k / 8 + 1 by omega, show (k + 1) % 8 = 0 by omega, show 31 - (k / 8 + 1) = 31 - k / 8 - 1 by omega, if_neg (by omega)]; omega
def halfK : Nat → List Int → List Int
  | 0, d => d
  | k + 1, d => halfL (halfK k d)
theorem Dg.halfK {d : List Int} (h : Dg d) (k : Nat) : Dg (halfK k d) := by
  induction k with
  | zero => exact h
  | succ k ih => exact ih.half
theorem bit_halfK {d : List Int} (h : Dg d) (k : Nat) : ∀ j, k + j < 256 → bitL (halfK k d) j = bitL d (k + j) := by
  induction k with
  | zero => intro j _; rw [Nat.zero_add]; rfl
  | succ k ih =>
    intro j hj
    rw [show halfK (k + 1) d = halfL (halfK k d) from rfl, bit_half (h.halfK k) j (by omega), ih (j + 1) (by omega), show k + (j + 1) = k + 1 + j by omega]
theorem and_one : ∀ x : Fin 256, bits .and .u8 ((x.val : Nat) : Int) 1 = ((x.val % 2 : Nat) : Int) := by decide +kernel
theorem and_one' {x : Int} (h : 0 ≤ x ∧ x < 256) : bits .and .u8 x 1 = x % 2 := by
  have := and_one ⟨x.toNat, by omega⟩
  simp only at this
  rw [show ((x.toNat : Nat) : Int) = x by omega] at this
  rw [this]
  omega

set_option maxHeartbeats 4000000 in
set_option maxRecDepth 100000 in
theorem bit_out (d : List Int) (k : Int) (w : World) (_hd : Dg d) (hk : k < 0 ∨ 255 < k) :
    Calls Tryd.prog 19 #[.agg (d.map (Value.int .u8)).toArray, .int .i64 k] w fun e w' => e = .returned (.int .i64 0) ∧ Below w.heap.size w w' := by
  rcases hk with hk | hk
  · skip
    have b1 := (Below.refl w.heap.size w).alloc (Nat.le_refl _) (.cells (d.map (Value.int .u8)).toArray 23 (0, 0))
    have Kd := hid (Blk.new (w := w) (n := w.heap.size) rfl (d.map (Value.int .u8)).toArray 23)
    have Hb := hid b1
    have hbz := b1.size
    have Hbs := hid (show w.heap.size + 1 = (w.alloc (.cells (d.map (Value.int .u8)).toArray 23 (0, 0))).heap.size by simp only [World.size_alloc])
    clear b1 
    go_enter Tryd.func19, Tryd.ntmps19
    go_wp2_with fail
    go_returns
    exact ⟨rfl, Hb.out⟩
  · have hI0 : ¬ k < 0 := by omega
    have hI1 : (256 : Int) ≤ k := by omega
    have b1 := (Below.refl w.heap.size w).alloc (Nat.le_refl _) (.cells (d.map (Value.int .u8)).toArray 23 (0, 0))
    have Kd := hid (Blk.new (w := w) (n := w.heap.size) rfl (d.map (Value.int .u8)).toArray 23)
    have Hb := hid b1
    have hbz := b1.size
    have Hbs := hid (show w.heap.size + 1 = (w.alloc (.cells (d.map (Value.int .u8)).toArray 23 (0, 0))).heap.size by simp only [World.size_alloc])
    clear b1 
    go_enter Tryd.func19, Tryd.ntmps19
    go_wp2_with fail
    go_returns
    exact ⟨rfl, Hb.out⟩

set_option maxHeartbeats 4000000 in
set_option maxRecDepth 100000 in
theorem bit_in (d : List Int) (k : Nat) (w : World) (hd : Dg d) (hk : k < 256) :
    Calls Tryd.prog 19 #[.agg (d.map (Value.int .u8)).toArray, .int .i64 k] w fun e w' => e = .returned (.int .i64 (bitL d k)) ∧ Below w.heap.size w w' := by
  have hI0 : ¬ (k : Int) < 0 := by omega
  have hI1 : ¬ (256 : Int) ≤ (k : Int) := by omega
  have hxx := dg_at hd (31 - k / 8)
  have hlen := hd.len
  have hxe : d[31 - k / 8]? = some (d.getD (31 - k / 8) 0) := by rw [List.getD_eq_getElem?_getD, List.getElem?_eq_getElem (by omega)]; rfl
  unfold bitL
  generalize d.getD (31 - k / 8) 0 = x at *
  have b1 := (Below.refl w.heap.size w).alloc (Nat.le_refl _) (.cells (d.map (Value.int .u8)).toArray 23 (0, 0))
  have Kd := hid (Blk.new (w := w) (n := w.heap.size) rfl (d.map (Value.int .u8)).toArray 23)
  have Hb := hid b1
  have hbz := b1.size
  have Hbs := hid (show w.heap.size + 1 = (w.alloc (.cells (d.map (Value.int .u8)).toArray 23 (0, 0))).heap.size by simp only [World.size_alloc])
  clear b1 
  go_enter Tryd.func19, Tryd.ntmps19
  go_wp2_with fail
  go_returns
  refine ⟨?_, Hb.out⟩
  have h2 : 0 ≤ x / 2 ^ (k % 8) ∧ x / 2 ^ (k % 8) < 256 := ⟨Int.ediv_nonneg hxx.1 (Int.le_of_lt (Int.pow_pos (by omega))), Int.lt_of_le_of_lt (Int.ediv_le_self _ hxx.1) hxx.2⟩
  show Ending.returned (.int .i64 (wrap64 (bits .and .u8 (x / 2 ^ (k % 8)) 1))) = _
  rw [and_one' h2]
  generalize x / 2 ^ (k % 8) = y at *
  rw [show wrap64 (y % 2) = y % 2 by unfold wrap64; omega]

theorem size_byte1 : (Tryd.prog.info? 5).map (·.size) = some 1 := by kernel_rfl
theorem halfP_zero (d : List Int) : ((halfP d 0).map (Value.int .u8)).toArray = (byteCells 32 []) := by simp [halfP, byteCells]
theorem halfP_done (d : List Int) : halfP d 32 = halfL d := by simp [halfP, halfL]
theorem halfP_length (d : List Int) {k : Nat} (h : k ≤ 32) : (halfP d k).length = 32 := by
  simp only [halfP, List.length_append, List.length_map, List.length_range, List.length_replicate]
  omega
theorem halfP_set (d : List Int) {k : Nat} (h : k < 32) : (halfP d k).set k (halfB d k) = halfP d (k + 1) := by
  unfold halfP
  rw [List.set_append_right _ _ (by simp), show 32 - k = (32 - (k + 1)) + 1 by omega, List.replicate_succ, List.range_succ, List.map_append]
  simp
set_option maxHeartbeats 4000000 in
set_option maxRecDepth 100000 in
theorem half_any (d : List Int) (w : World) (hd : Dg d) :
    Calls Tryd.prog 48 #[.agg (d.map (Value.int .u8)).toArray] w fun e w' => e = .returned (.agg ((halfL d).map (Value.int .u8)).toArray) ∧ Below w.heap.size w w' := by
  have b1 := (Below.refl w.heap.size w).alloc (Nat.le_refl _) (.cells (d.map (Value.int .u8)).toArray 23 (0, 0))
  have b2 := b1.alloc b1.size (.cells (byteCells 32 []) 23 (0, 0))
  have b3 := b2.alloc b2.size (.cells (byteCells 32 []) 23 (0, 0))
  have Kd := hid (((Blk.new (w := w) (n := w.heap.size) rfl (d.map (Value.int .u8)).toArray 23).old (.cells (byteCells 32 []) 23 (0, 0))).old (.cells (byteCells 32 []) 23 (0, 0)))
  have Kr := hid ((Blk.new (w := (w.alloc (.cells (d.map (Value.int .u8)).toArray 23 (0, 0)))) (n := w.heap.size + 1) (by simp only [World.size_alloc]) (byteCells 32 []) 23).old (.cells (byteCells 32 []) 23 (0, 0)))
  have Ko := hid (Blk.new (w := ((w.alloc (.cells (d.map (Value.int .u8)).toArray 23 (0, 0))).alloc (.cells (byteCells 32 []) 23 (0, 0)))) (n := w.heap.size + 1 + 1) (by simp only [World.size_alloc]) (byteCells 32 []) 23)
  have Hb := hid b3
  have hbz := b3.size
  have Hbs := hid (show w.heap.size + 1 + 1 + 1 = (((w.alloc (.cells (d.map (Value.int .u8)).toArray 23 (0, 0))).alloc (.cells (byteCells 32 []) 23 (0, 0))).alloc (.cells (byteCells 32 []) 23 (0, 0))).heap.size by simp only [World.size_alloc])
  clear b1 b2 b3 
  go_enter Tryd.func48, Tryd.ntmps48
  go_wp2_with fail
  go_loopw [4, 5] (fun cv iv wr => ∃ k : Nat, k ≤ 32 ∧ iv = .int .i64 k ∧ cv = (.int .u8 (if k = 0 then 0 else d.getD (k - 1) 0 % 2 * 128)) ∧ Blk wr w.heap.size (d.map (Value.int .u8)).toArray 23 ∧ Blk wr (w.heap.size + 1) (byteCells 32 []) 23 ∧ Blk wr (w.heap.size + 1 + 1) ((halfP d k).map (Value.int .u8)).toArray 23 ∧ Below w.heap.size w wr) (fun _ iv _ => 32 - (intOf iv).toNat)
  case atStart => exact ⟨0, Nat.zero_le _, rfl, rfl, Kd.out, Kr.out, by rw [halfP_zero]; exact Ko.out, Hb.out⟩
  case round =>
    obtain ⟨k, hk, rfl, rfl, kd, kr, ko, bel⟩ := hrel
    have Kdwr := hid kd
    have Krwr := hid kr
    have Kowr := hid ko
    have HBwr := hid bel
    have hswr := bel.size
    have hokr := ko.lt
    clear kd kr ko bel
    by_cases hlt : k < 32
    · skip
      have hc0 : (k : Int) < 32 := by omega
      have hxx := dg_at hd k
      have hyy := dg_at hd (k - 1)
      have hlen := hd.len
      have hxe : d[k]? = some (d.getD k 0) := by rw [List.getD_eq_getElem?_getD, List.getElem?_eq_getElem (by omega)]; rfl
      have cdk : wr.cell? ⟨w.heap.size, k, none⟩ = some (.int .u8 (d.getD k 0)) := by
        rw [Kdwr.out.cell, List.getElem?_toArray, List.getElem?_map, hxe]; rfl
      have HS := hid (halfP_set d hlt)
      have HHB := hid (show halfB d k = d.getD k 0 / 2 + (if k = 0 then 0 else d.getD (k - 1) 0 % 2 * 128) from rfl)
      have HC := hid (show (if k + 1 = 0 then (0 : Int) else d.getD (k + 1 - 1) 0 % 2 * 128) = d.getD k 0 % 2 * 128 by rw [if_neg (by omega), Nat.add_sub_cancel])
      have hcc : 0 ≤ (if k = 0 then (0 : Int) else d.getD (k - 1) 0 % 2 * 128) ∧ (if k = 0 then (0 : Int) else d.getD (k - 1) 0 % 2 * 128) ≤ 128 := by split <;> omega
      generalize (if k = 0 then (0 : Int) else d.getD (k - 1) 0 % 2 * 128) = c at *
      generalize d.getD k 0 = x at *
      generalize d.getD (k - 1) 0 = y at *
      clear hxe hyy
      go_wp2_with (
            refine wpList_store_cell rfl 5 _ _ rfl (w.heap.size + 1 + 1) k (.int .u8 (x / 2 + c)) rfl rfl rfl rfl _ 23 Kowr.out (by rw [List.size_toArray, List.length_map, halfP_length d (by omega)]; omega) size_byte1 ?_
            intro w9 hb9 hk9
            rw [List.setIfInBounds_toArray, ← HHB.out, ← List.map_set, HS.out] at hk9
            have Ko9 := hid hk9
            have Kd9 := hid (hb9.blk Kdwr.out (by omega))
            have Kr9 := hid (hb9.blk Krwr.out (by omega))
            have HB9 := hid (hb9.below HBwr.out hswr (by omega))
            have cd9 : w9.cell? ⟨w.heap.size, k, none⟩ = some (.int .u8 x) := by rw [Kd9.out.cell, ← Kdwr.out.cell]; exact cdk
            clear hb9 hk9)
      exact ⟨⟨k + 1, by omega, by first | rfl | simp, by first | rfl | (rw [HC.out]), Kd9.out, Kr9.out, Ko9.out, HB9.out⟩, by simp [intOf]; omega⟩
    · skip
      have hk7 : k = 32 := by omega
      subst hk7
      have hc0 : ¬ ((32 : Int) < 32) := by omega
      rw [halfP_done] at Kowr
      have HX := hid hd.half
      generalize hX1 : halfL d = X at *
      go_wp2_with (first
         | (refine wpList_load_blk rfl 23 _ rfl (w.heap.size + 1 + 1) rfl _ 23 Kowr.out _ Tryd.underlying23 rfl 32 size_digest HX.out.size ?_)
         | (
          refine wpList_store_blk rfl 23 _ _ rfl (w.heap.size + 1) (X.map (Value.int .u8)).toArray rfl rfl _ 23 Krwr.out 32 size_digest zsize HX.out.size (ints_one _ _) ?_
          intro w9 hb9 hk9
          have HB9 := hid (hb9.below HBwr.out hswr (by omega))
          have HK9 := hid hk9
          clear hb9 hk9))
      exact bodyPost_ret (v := .agg (X.map (Value.int .u8)).toArray) (results_blk Tryd.results48 _ (w.heap.size + 1) rfl _ 23 HK9.out _ Tryd.underlying23 rfl 32 size_digest HX.out.size) rfl ⟨by first | rfl | rw [hX1], HB9.out⟩

set_option maxHeartbeats 4000000 in
set_option maxRecDepth 100000 in
theorem refbit_out (d : List Int) (k : Int) (w : World) (_hd : Dg d) (hk : k < 0 ∨ 255 < k) :
    Calls Tryd.prog 20 #[.agg (d.map (Value.int .u8)).toArray, .int .i64 k] w fun e w' => e = .returned (.int .i64 0) ∧ Below w.heap.size w w' := by
  rcases hk with hk | hk
  · skip
    have b1 := (Below.refl w.heap.size w).alloc (Nat.le_refl _) (.cells (d.map (Value.int .u8)).toArray 23 (0, 0))
    have Kd := hid (Blk.new (w := w) (n := w.heap.size) rfl (d.map (Value.int .u8)).toArray 23)
    have Hb := hid b1
    have hbz := b1.size
    have Hbs := hid (show w.heap.size + 1 = (w.alloc (.cells (d.map (Value.int .u8)).toArray 23 (0, 0))).heap.size by simp only [World.size_alloc])
    clear b1 
    go_enter Tryd.func20, Tryd.ntmps20
    go_wp2_with fail
    go_returns
    exact ⟨rfl, Hb.out⟩
  · have hI0 : ¬ k < 0 := by omega
    have hI1 : (255 : Int) < k := by omega
    have b1 := (Below.refl w.heap.size w).alloc (Nat.le_refl _) (.cells (d.map (Value.int .u8)).toArray 23 (0, 0))
    have Kd := hid (Blk.new (w := w) (n := w.heap.size) rfl (d.map (Value.int .u8)).toArray 23)
    have Hb := hid b1
    have hbz := b1.size
    have Hbs := hid (show w.heap.size + 1 = (w.alloc (.cells (d.map (Value.int .u8)).toArray 23 (0, 0))).heap.size by simp only [World.size_alloc])
    clear b1 
    go_enter Tryd.func20, Tryd.ntmps20
    go_wp2_with fail
    go_returns
    exact ⟨rfl, Hb.out⟩

set_option maxHeartbeats 4000000 in
set_option maxRecDepth 100000 in
theorem refbit_in (d : List Int) (k : Nat) (w : World) (hd : Dg d) (hk : k < 256) :
    Calls Tryd.prog 20 #[.agg (d.map (Value.int .u8)).toArray, .int .i64 k] w fun e w' => e = .returned (.int .i64 (bitL d k)) ∧ Below w.heap.size w w' := by
  have hI0 : ¬ (k : Int) < 0 := by omega
  have hI1 : ¬ (255 : Int) < (k : Int) := by omega
  have b1 := (Below.refl w.heap.size w).alloc (Nat.le_refl _) (.cells (d.map (Value.int .u8)).toArray 23 (0, 0))
  have Kd := hid (Blk.new (w := w) (n := w.heap.size) rfl (d.map (Value.int .u8)).toArray 23)
  have Hb := hid b1
  have hbz := b1.size
  have Hbs := hid (show w.heap.size + 1 = (w.alloc (.cells (d.map (Value.int .u8)).toArray 23 (0, 0))).heap.size by simp only [World.size_alloc])
  clear b1 
  go_enter Tryd.func20, Tryd.ntmps20
  go_wp2_with fail
  go_loopw [5] (fun iv wr => ∃ j : Nat, j ≤ k ∧ iv = .int .i64 j ∧ Blk wr w.heap.size ((halfK j d).map (Value.int .u8)).toArray 23 ∧ Below w.heap.size w wr) (fun iv _ => k - (intOf iv).toNat)
  case atStart => exact ⟨0, Nat.zero_le _, rfl, Kd.out, Hb.out⟩
  case round =>
    obtain ⟨j, hj, rfl, kd, bel⟩ := hrel
    have Kdwr := hid kd
    have HBwr := hid bel
    have hswr := bel.size
    have hdlt := kd.lt
    clear kd bel
    by_cases hlt : j < k
    · skip
      have hc0 : (j : Int) < k := by omega
      have HD0 := hid (hd.halfK j)
      have HDX := hid (show halfK (j + 1) d = halfL (halfK j d) from rfl)
      have CH := hid (fun (W : World) => half_any (halfK j d) W HD0.out)
      rw [← HDX.out] at CH
      have HX := hid (hd.halfK (j + 1))
      generalize hX1 : halfK (j + 1) d = X at *
      generalize hE1 : halfK j d = E at *
      go_wp2_with (refine wpList_load_blk rfl 23 _ rfl (w.heap.size) rfl _ 23 Kdwr.out _ Tryd.underlying23 rfl 32 size_digest HD0.out.size ?_)
      refine (CH.out _).mono ?_
      rintro e w21 ⟨rfl, bw21⟩
      have HBw21 := hid (Below.on HBwr.out bw21)
      have hsw21 := HBw21.out.size
      have Kdw21 := hid (Kdwr.out.below bw21)
      clear bw21
      go_wp2_with (
            refine wpList_store_blk rfl 23 _ _ rfl (w.heap.size) (X.map (Value.int .u8)).toArray rfl rfl _ 23 Kdw21.out 32 size_digest HD0.out.size HX.out.size (ints_one _ _) ?_
            intro w9 hb9 hk9
            have Hk9 := hid hk9
            have Hb9 := hid (hb9.below HBw21.out HBw21.out.size (by omega))
            clear hb9 hk9)
      exact ⟨⟨j + 1, by omega, by first | rfl | simp, by rw [hX1]; exact Hk9.out, Hb9.out⟩, by simp [intOf]; omega⟩
    · skip
      have hk7 : j = k := by omega
      subst hk7
      have hc0 : ¬ ((j : Int) < j) := by omega
      have hb0 := bit_halfK hd j 0 (by omega)
      rw [Nat.add_zero] at hb0
      have HB0 := hid (show bitL d j = (halfK j d).getD 31 0 % 2 by rw [← hb0]; simp [bitL])
      have HD0 := hid (hd.halfK j)
      have hxx := dg_at HD0.out 31
      have hlen := HD0.out.len
      have hxe : (halfK j d)[31]? = some ((halfK j d).getD 31 0) := by rw [List.getD_eq_getElem?_getD, List.getElem?_eq_getElem (by omega)]; rfl
      have cdk : wr.cell? ⟨w.heap.size, 31, none⟩ = some (.int .u8 ((halfK j d).getD 31 0)) := by
        rw [Kdwr.out.cell, List.getElem?_toArray, List.getElem?_map, hxe]; rfl
      clear hb0 hxe
      generalize (halfK j d).getD 31 0 = x at *
      go_wp2_with fail
      go_returns
      refine ⟨?_, HBwr.out⟩
      rw [HB0.out]
      first | rfl | (show Ending.returned (.int .i64 (wrap64 (x % 2))) = _; rw [show wrap64 (x % 2) = x % 2 by unfold wrap64; omega])
end Go.Proofs.YthaicocfbmpnmaaDoor
