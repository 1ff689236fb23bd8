/-
  Put together, as far as wanted: PtG PtH PrA PrC PrD PrE PrF PrG PrH PrY PrI PrJ PrKM QtA QtB QtC QtD QtE QtF.
-/
import Derived.Test.YthaicocfbmpnmaaDoorPS2
namespace Go.Proofs.YthaicocfbmpnmaaDoor
set_option maxRecDepth 100000
open Go.ChangeShapes Go.WideShapes Go.ChangeAt Go.RowKit
set_option maxHeartbeats 4000000 in
theorem node_none (g : Nat) (w : World) (hg : Blk w g (dcs (empN 257)) 23) :
    Calls Tryd.prog 50 #[.agg #[.slice none 0 0, .slice (some ⟨g, 0, none⟩) 257 257], .slice none 0 0, .int .i64 256] w fun e w' => e = .returned (.agg ((emptyL 256).map (Value.int .u8)).toArray) ∧ Below w.heap.size w w' := by
  have hds := empN_each 257
  have hlen := empN_length 257
  have hget := empN_get (n := 257) (k := 256) (by omega)
  have hX := Dg.emptyL 256
  generalize empN 257 = ds at *
  have b1 := (Below.refl w.heap.size w).alloc (Nat.le_refl _) (.cells #[.slice none 0 0, .slice (some ⟨g, 0, none⟩) 257 257] 76 (0, 0))
  have b2 := b1.alloc b1.size (.cells (byteCells 32 []) 23 (0, 0))
  have Kx := hid ((Blk.new (w := w) (n := w.heap.size) rfl #[.slice none 0 0, .slice (some ⟨g, 0, none⟩) 257 257] 76).old (.cells (byteCells 32 []) 23 (0, 0)))
  have Kr := hid (Blk.new (w := (w.alloc (.cells #[.slice none 0 0, .slice (some ⟨g, 0, none⟩) 257 257] 76 (0, 0)))) (n := w.heap.size + 1) (by simp only [World.size_alloc]) (byteCells 32 []) 23)
  have Hb := hid b2
  have hbz := b2.size
  have Hbs := hid (show w.heap.size + 1 + 1 = ((w.alloc (.cells #[.slice none 0 0, .slice (some ⟨g, 0, none⟩) 257 257] 76 (0, 0))).alloc (.cells (byteCells 32 []) 23 (0, 0))).heap.size by simp only [World.size_alloc])
  clear b1 b2 
  go_enter Tryd.func50, Tryd.ntmps50
  have Hrg := hid (dig_rng (hg.below Hb.out) hds (j := 256) (by rw [hlen]; omega))
  rw [hget] at Hrg
  have HX := hid hX
  generalize hX1 : emptyL 256 = X at *
  have cx1 : ((w.alloc (.cells #[.slice none 0 0, .slice (some ⟨g, 0, none⟩) 257 257] 76 (0, 0))).alloc (.cells (byteCells 32 []) 23 (0, 0))).cell? ⟨w.heap.size, 1, none⟩ = some (.slice (some ⟨g, 0, none⟩) 257 257) := by rw [Kx.out.cell]; rfl
  go_wp2_with (first
     | (refine wpList_index_digs rfl 27 _ _ rfl Tryd.underlying27 size_digest g 0 257 257 rfl _ _ rfl 256 rfl (by omega) ?_)
     | (refine wpList_load_mid rfl 23 _ rfl g (0 + 256 * 32) rfl _ _ Hrg.out Tryd.underlying23 rfl (by rw [List.length_map, HX.out.len]; exact size_digest) ?_)
     | (
      refine wpList_store_blk rfl 23 _ _ rfl (w.heap.size + 1) (X.map (Value.int .u8)).toArray rfl rfl _ 23 Kr.out 32 size_digest zsize HX.out.size (ints_one _ _) ?_
      intro w9 hb9 hk9
      have HB9 := hid (hb9.below Hb.out Hb.out.size (by omega))
      have HK9 := hid hk9
      clear hb9 hk9))
  exact bodyPost_ret (v := .agg (X.map (Value.int .u8)).toArray) (results_blk Tryd.results50 _ (w.heap.size + 1) rfl _ 23 HK9.out _ Tryd.underlying23 rfl 32 size_digest HX.out.size) rfl ⟨by first | rfl | rw [hX1], HB9.out⟩
set_option maxHeartbeats 4000000 in
theorem root_none (w : World) (tab : ShaTab w) :
    Calls Tryd.prog 22 #[.slice none 0 0] w fun e w' => e = .returned (.tuple #[.agg ((emptyL 256).map (Value.int .u8)).toArray, .int .i64 0]) ∧ Below w.heap.size w w' := by
  have b1 := (Below.refl w.heap.size w).alloc (Nat.le_refl _) (.cells (byteCells 32 []) 23 (0, 0))
  have Kr := hid (Blk.new (w := w) (n := w.heap.size) rfl (byteCells 32 []) 23)
  have Hb := hid b1
  have hbz := b1.size
  have Hbs := hid (show w.heap.size + 1 = (w.alloc (.cells (byteCells 32 []) 23 (0, 0))).heap.size by simp only [World.size_alloc])
  have Htab := hid tab
  clear b1 tab 
  go_enter Tryd.func22, Tryd.ntmps22
  go_wp2_with fail
  refine (grow_none _ (Htab.out.below Hb.out)).mono ?_
  rintro e w1 ⟨g, rfl, hg, b1, kg⟩
  have Hb1 := hid (Below.on Hb.out b1)
  have Kr1 := hid (Kr.out.below b1)
  have hs1 := Hb1.out.size
  have hr1 := Kr1.out.lt
  clear b1
  have Krw21 := hid (Kr1.out.old (.cells #[.slice none 0 0, .slice (some ⟨g, 0, none⟩) 257 257] 76 (0, 0)))
  have hlrw21 := Kr1.out.lt
  have Kxw21 := hid (Blk.new (w := w1) rfl #[.slice none 0 0, .slice (some ⟨g, 0, none⟩) 257 257] 76)
  have HBw21 := hid (Hb1.out.alloc Hb1.out.size (.cells #[.slice none 0 0, .slice (some ⟨g, 0, none⟩) 257 257] 76 (0, 0)))
  have hsw21 := HBw21.out.size
  have hfw21 : w.heap.size ≤ w1.heap.size := Hb1.out.size
  have cx0 : (w1.alloc (.cells #[.slice none 0 0, .slice (some ⟨g, 0, none⟩) 257 257] 76 (0, 0))).cell? ⟨w1.heap.size, 0, none⟩ = some (.slice none 0 0) := by rw [Kxw21.out.cell]; rfl
  go_wp2_with (refine wpList_load_blk rfl 76 _ rfl (w1.heap.size) rfl _ 76 Kxw21.out _ Tryd.underlying76 rfl 2 size_forest rfl ?_)
  refine (node_none g _ (kg.below ((Below.refl _ _).alloc (Nat.le_refl _) _))).mono ?_
  rintro e w22 ⟨rfl, bw22⟩
  have HBw22 := hid (Below.on HBw21.out bw22)
  have hsw22 := HBw22.out.size
  have Krw22 := hid (Krw21.out.below bw22)
  have Kxw22 := hid (Kxw21.out.below bw22)
  clear bw22
  have HX := hid (Dg.emptyL 256)
  generalize hX1 : emptyL 256 = X at *
  go_wp2_with (
      refine wpList_store_blk rfl 23 _ _ rfl (w.heap.size) (X.map (Value.int .u8)).toArray rfl rfl _ 23 Krw22.out 32 size_digest zsize HX.out.size (ints_one _ _) ?_
      intro w9 hb9 hk9
      have HB9 := hid (hb9.below HBw22.out HBw22.out.size (by omega))
      have HK9 := hid hk9
      clear hb9 hk9)
  exact bodyPost_ret (v := .tuple #[.agg (X.map (Value.int .u8)).toArray, .int .i64 0]) (results_blk_tmp Tryd.results22 _ (w.heap.size) rfl _ rfl _ 23 HK9.out _ Tryd.underlying23 rfl 32 size_digest HX.out.size) rfl ⟨by first | rfl | rw [hX1], HB9.out⟩
set_option maxHeartbeats 4000000 in
theorem root_many (a : Option Addr) (n c : Nat) (hn : 256 < n) (w : World) :
    Calls Tryd.prog 22 #[.slice a n c] w fun e w' => e = .returned (.tuple #[.agg (zD.map (Value.int .u8)).toArray, .int .i64 3]) ∧ Below w.heap.size w w' := by
  have b1 := (Below.refl w.heap.size w).alloc (Nat.le_refl _) (.cells (byteCells 32 []) 23 (0, 0))
  have Kr := hid (Blk.new (w := w) (n := w.heap.size) rfl (byteCells 32 []) 23)
  have Hb := hid b1
  have hbz := b1.size
  have Hbs := hid (show w.heap.size + 1 = (w.alloc (.cells (byteCells 32 []) 23 (0, 0))).heap.size by simp only [World.size_alloc])
  clear b1 
  go_enter Tryd.func22, Tryd.ntmps22
  go_wp2_with fail
  refine (grow_many a n c hn _).mono ?_
  rintro e w1 ⟨rfl, b1⟩
  have Hb1 := hid (Below.on Hb.out b1)
  have Kr1 := hid (Kr.out.below b1)
  have hs1 := Hb1.out.size
  have hr1 := Kr1.out.lt
  clear b1
  have Krw21 := hid (Kr1.out.old (.cells #[.slice none 0 0, .slice none 0 0] 76 (0, 0)))
  have hlrw21 := Kr1.out.lt
  have Kxw21 := hid (Blk.new (w := w1) rfl #[.slice none 0 0, .slice none 0 0] 76)
  have HBw21 := hid (Hb1.out.alloc Hb1.out.size (.cells #[.slice none 0 0, .slice none 0 0] 76 (0, 0)))
  have hsw21 := HBw21.out.size
  have hfw21 : w.heap.size ≤ w1.heap.size := Hb1.out.size
  have cx0 : (w1.alloc (.cells #[.slice none 0 0, .slice none 0 0] 76 (0, 0))).cell? ⟨w1.heap.size, 0, none⟩ = some (.slice none 0 0) := by rw [Kxw21.out.cell]; rfl
  go_wp2_with (
      refine wpList_store_blk rfl 23 _ _ rfl (w.heap.size) (zD.map (Value.int .u8)).toArray rfl rfl _ 23 Krw21.out 32 size_digest zsize Dg.zero.size (ints_one _ _) ?_
      intro w9 hb9 hk9
      have HB9 := hid (hb9.below HBw21.out HBw21.out.size (by omega))
      have HK9 := hid hk9
      clear hb9 hk9)
  exact bodyPost_ret (v := .tuple #[.agg (zD.map (Value.int .u8)).toArray, .int .i64 3]) (results_blk_tmp Tryd.results22 _ (w.heap.size) rfl _ rfl _ 23 HK9.out _ Tryd.underlying23 rfl 32 size_digest Dg.zero.size) rfl ⟨rfl, HB9.out⟩
set_option maxHeartbeats 4000000 in
theorem root_twice (a : Option Addr) (cap : Nat) (es : List (List Int × List Int)) (d : List Int) (kl : Lit) (w : World) (hkey : keyOf Tryd.prog 23 (.agg (d.map (Value.int .u8)).toArray) = some kl) (hE : EntsAt w a 2 cap es) (hd : Dg d) (hs : ∀ j, j < 2 → (es.getD j ([], [])).1 = d) :
    Calls Tryd.prog 22 #[.slice a 2 cap] w fun e w' => e = .returned (.tuple #[.agg (zD.map (Value.int .u8)).toArray, .int .i64 5]) ∧ Below w.heap.size w w' := by
  have b1 := (Below.refl w.heap.size w).alloc (Nat.le_refl _) (.cells (byteCells 32 []) 23 (0, 0))
  have Kr := hid (Blk.new (w := w) (n := w.heap.size) rfl (byteCells 32 []) 23)
  have Hb := hid b1
  have hbz := b1.size
  have Hbs := hid (show w.heap.size + 1 = (w.alloc (.cells (byteCells 32 []) 23 (0, 0))).heap.size by simp only [World.size_alloc])
  clear b1 
  go_enter Tryd.func22, Tryd.ntmps22
  go_wp2_with fail
  refine (grow_twice a cap es d kl _ hkey (hE.below Hb.out) hd hs).mono ?_
  rintro e w1 ⟨rfl, b1⟩
  have Hb1 := hid (Below.on Hb.out b1)
  have Kr1 := hid (Kr.out.below b1)
  have hs1 := Hb1.out.size
  have hr1 := Kr1.out.lt
  clear b1
  have Krw21 := hid (Kr1.out.old (.cells #[.slice none 0 0, .slice none 0 0] 76 (0, 0)))
  have hlrw21 := Kr1.out.lt
  have Kxw21 := hid (Blk.new (w := w1) rfl #[.slice none 0 0, .slice none 0 0] 76)
  have HBw21 := hid (Hb1.out.alloc Hb1.out.size (.cells #[.slice none 0 0, .slice none 0 0] 76 (0, 0)))
  have hsw21 := HBw21.out.size
  have hfw21 : w.heap.size ≤ w1.heap.size := Hb1.out.size
  have cx0 : (w1.alloc (.cells #[.slice none 0 0, .slice none 0 0] 76 (0, 0))).cell? ⟨w1.heap.size, 0, none⟩ = some (.slice none 0 0) := by rw [Kxw21.out.cell]; rfl
  go_wp2_with (
      refine wpList_store_blk rfl 23 _ _ rfl (w.heap.size) (zD.map (Value.int .u8)).toArray rfl rfl _ 23 Krw21.out 32 size_digest zsize Dg.zero.size (ints_one _ _) ?_
      intro w9 hb9 hk9
      have HB9 := hid (hb9.below HBw21.out HBw21.out.size (by omega))
      have HK9 := hid hk9
      clear hb9 hk9)
  exact bodyPost_ret (v := .tuple #[.agg (zD.map (Value.int .u8)).toArray, .int .i64 5]) (results_blk_tmp Tryd.results22 _ (w.heap.size) rfl _ rfl _ 23 HK9.out _ Tryd.underlying23 rfl 32 size_digest Dg.zero.size) rfl ⟨rfl, HB9.out⟩
theorem info_ent : (Tryd.prog.info? 25).map (fun i => (i.zero, i.size, i.bytes)) = some (some (.agg ((entL zD zD).map (Value.int .u8)).toArray), 64, 64) := by kernel_rfl
theorem make_ents (n : Nat) (i : Int) (hi : i = n) (hn : n ≤ 5000) (w0 : World) : (Instr.makeSlice 36 (.int .i64 i) (.int .i64 i)).run Tryd.prog w0 = .ok (.slice (some ⟨w0.heap.size, 0, none⟩) n n) (w0.alloc (.cells (madeCells ((entL zD zD).map (Value.int .u8)).toArray (n * 64)) 25)) := by
  subst hi
  obtain ⟨i0, hi, hz0, hz1, hz2⟩ := info_parts info_ent
  have hr := run_makeSlice (P := Tryd.prog) w0 36 25 i0 _ Tryd.underlying36 hi hz0 .i64 .i64 n n (by omega) (by omega) (by rw [hz1]; simp; omega) (by rw [hz2]; omega) (by omega)
  rw [hz1, Int.toNat_natCast] at hr
  exact hr
theorem zEnt (k : Nat) (hk : k < 64) : (entL zD zD)[k]? = some 0 := by
  unfold entL zD
  rw [List.replicate_append_replicate, List.getElem?_replicate, if_pos hk]
theorem made_ent (n j k : Nat) (hj : j < n) (hk : k < 64) : (madeCells ((entL zD zD).map (Value.int .u8)).toArray (n * 64))[j * 64 + k]? = some (.int .u8 0) := by
  have hsz : (((entL zD zD).map (Value.int .u8)).toArray).size = 64 := two_size Dg.zero Dg.zero
  have hlt : j * 64 + k < n * 64 := by omega
  have hm : (j * 64 + k) % 64 = k := by omega
  have hc : (((entL zD zD).map (Value.int .u8)).toArray)[k]! = Value.int .u8 0 := by
    rw [getElem!_pos _ _ (by rw [hsz]; exact hk)]
    have h := zEnt k hk
    have h2 : (((entL zD zD).map (Value.int .u8)).toArray)[k]? = some (.int .u8 0) := by rw [List.getElem?_toArray, List.getElem?_map, h]; rfl
    rw [Array.getElem?_eq_getElem (by rw [hsz]; exact hk)] at h2
    exact Option.some.inj h2
  unfold madeCells
  rw [Array.getElem?_map, Array.getElem?_range, if_pos hlt]
  show some ((((entL zD zD).map (Value.int .u8)).toArray)[(j * 64 + k) % (((entL zD zD).map (Value.int .u8)).toArray).size]!) = _
  rw [hsz, hm, hc]
theorem ents_two {w : World} {g : Nat} {T : TypeId} (h : Blk w g (madeCells ((entL zD zD).map (Value.int .u8)).toArray (2 * 64)) T) : EntsAt w (some ⟨g, 0, none⟩) 2 2 [(zD, zD), (zD, zD)] :=
  ⟨rfl, Nat.le_refl _, by simp [Dg.zero], .inr ⟨g, 0, rfl, h.lt, fun j hj k v hv => by
    have hk : k < 64 := by
      have := (List.getElem?_eq_some_iff.1 hv).1
      rw [List.length_map] at this
      have hl : (entL ([(zD, zD), (zD, zD)].getD j ([], [])).1 ([(zD, zD), (zD, zD)].getD j ([], [])).2).length = 64 := by
        rcases (show j = 0 ∨ j = 1 by omega) with rfl | rfl <;> simp [entL, zD]
      omega
    rw [Nat.zero_add, h.cell, made_ent 2 j k hj hk, ← hv]
    rcases (show j = 0 ∨ j = 1 by omega) with rfl | rfl
    · show _ = ((entL zD zD).map (Value.int .u8))[k]?
      rw [List.getElem?_map, zEnt k hk]; rfl
    · show _ = ((entL zD zD).map (Value.int .u8))[k]?
      rw [List.getElem?_map, zEnt k hk]; rfl⟩⟩
theorem key_zero : (keyOf Tryd.prog 23 (.agg (zD.map (Value.int .u8)).toArray)).isSome = true := by kernel_rfl
theorem bit_first : bitL (128 :: List.replicate 31 0) 255 = 1 := by decide +kernel
theorem bit_last : bitL (List.replicate 31 0 ++ [1]) 0 = 1 := by decide +kernel
theorem dg_first : Dg (128 :: List.replicate 31 0) := ⟨by simp, fun x hx => by
  rcases List.mem_cons.1 hx with rfl | hx
  · omega
  · have := List.eq_of_mem_replicate hx; omega⟩
theorem dg_last : Dg (List.replicate 31 0 ++ [1]) := ⟨by simp, fun x hx => by
  rcases List.mem_append.1 hx with hx | hx
  · have := List.eq_of_mem_replicate hx; omega
  · simp at hx; omega⟩
theorem quiet_build_c {op : Oper} {a : Act} {C : World → Prop} {K : Act → Prop} (T : TypeId) (i : Nat) (c v : Value) (ho : op.op = .build T #[(i, .const c)]) (hr : ∀ w', (Instr.build T #[(i, c)]).run Tryd.prog w' = .ok v w') (h : K (a.put op.dst v)) : op.quiet Tryd.prog a C K :=
  ⟨v, fun w' _ => by
    unfold Oper.quietAt execOp
    simp only [ho, List.map_toArray, List.map_cons, List.map_nil, Act.eval, Sem.run_bind, hr w', Result.andThen_ok, Sem.run_pure]
    simp [Oper.quietUpon], h⟩
theorem build_first (w : World) : (Instr.build 23 #[(0, .int .u8 128)]).run Tryd.prog w = .ok (.agg ((128 :: List.replicate 31 0 : List Int).map (Value.int .u8)).toArray) w := by
  kernel_rfl
theorem build_last (w : World) : (Instr.build 23 #[(31, .int .u8 1)]).run Tryd.prog w = .ok (.agg ((List.replicate 31 0 ++ [1] : List Int).map (Value.int .u8)).toArray) w := by
  kernel_rfl
set_option maxHeartbeats 4000000 in
theorem knows17 (w : World) (tab : ShaTab w) :
    Calls Tryd.prog 21 #[] w fun e w' => e = .returned (.bool true) ∧ Below w.heap.size w w' := by
  have hm2 := fun W : World => make_ents 2 2 rfl (by omega) W
  have hm3 := fun W : World => make_ents 257 257 rfl (by omega) W
  obtain ⟨kl, hkl⟩ := Option.isSome_iff_exists.1 key_zero
  have CR := hid (fun (W : World) (t : ShaTab W) => root_none W t)
  have CE := hid (fun (W : World) (t : ShaTab W) => empty_any W t)
  have CE2 := hid (fun (W : World) (g : Nat) (T : TypeId) (h : Blk W g (madeCells ((entL zD zD).map (Value.int .u8)).toArray (2 * 64)) T) => ents_two h)
  have Hds := hid (empN_each 257)
  have Hlen := hid (empN_length 257)
  have hget := empN_get (n := 257) (k := 256) (by omega)
  have HX := hid (Dg.emptyL 256)
  generalize emptyL 256 = X at *
  generalize empN 257 = ds at *
  generalize madeCells ((entL zD zD).map (Value.int .u8)).toArray (2 * 64) = M2 at *
  generalize madeCells ((entL zD zD).map (Value.int .u8)).toArray (257 * 64) = M3 at *
  have CB1 := hid (show ∀ W : World, Calls Tryd.prog 19 #[.agg ((128 :: List.replicate 31 0 : List Int).map (Value.int .u8)).toArray, .int .i64 255] W (fun e w' => e = .returned (.int .i64 1) ∧ Below W.heap.size W w') from fun W => bit_first ▸ bit_in (128 :: List.replicate 31 0) 255 W dg_first (by omega))
  have CB2 := hid (show ∀ W : World, Calls Tryd.prog 19 #[.agg ((List.replicate 31 0 ++ [1] : List Int).map (Value.int .u8)).toArray, .int .i64 0] W (fun e w' => e = .returned (.int .i64 1) ∧ Below W.heap.size W w') from fun W => bit_last ▸ bit_in (List.replicate 31 0 ++ [1]) 0 W dg_last (by omega))
  have BF := build_first
  have BL := build_last
  generalize (128 :: List.replicate 31 0 : List Int) = d1 at *
  generalize (List.replicate 31 0 ++ [1] : List Int) = d2 at *
  have Hb := hid (Below.refl w.heap.size w)
  have Htab := hid tab
  clear tab
  go_enter Tryd.func21, Tryd.ntmps21
  go_wp2_with fail
  refine (CR.out _ Htab.out).mono ?_
  rintro e w1 ⟨rfl, bw1⟩
  have HBw1 := hid (Below.on Hb.out bw1)
  have hsw1 := HBw1.out.size
  clear bw1
  go_wp2_with (
        refine wpList_store_blk rfl 23 _ _ rfl (w1.heap.size) (X.map (Value.int .u8)).toArray rfl rfl _ 23 (Blk.new rfl (byteCells 32 []) _) 32 size_digest zsize HX.out.size (ints_one _ _) ?_
        intro w2 hbw2 hkw2
        have hw2 := hbw2.below ((Below.refl w1.heap.size w1).alloc (Nat.le_refl _) _) (by simp only [World.size_alloc]; omega) (Nat.le_refl _)
        have HBw2 := hid (Below.on HBw1.out hw2)
        have hsw2 := HBw2.out.size
        have Kxw2 := hid hkw2
        have hfw2 : w.heap.size ≤ w1.heap.size := HBw1.out.size
        clear hbw2 hkw2 hw2)
  refine (CE.out _ (Htab.out.below HBw2.out)).mono ?_
  rintro e w3 ⟨rfl, b3, k3⟩
  have Kgw3 := hid k3
  clear k3
  have HBw3 := hid (Below.on HBw2.out b3)
  have hsw3 := HBw3.out.size
  have Kxw3 := hid (Kxw2.out.below b3)
  clear b3
  go_wp2_with fail
  have ba := (Below.refl w3.heap.size w3).alloc (Nat.le_refl _) (.cells M2 25 (0, 0))
  have HK2 := hid (CE2.out _ _ _ (Blk.new (w := w3) rfl M2 25))
  refine (root_twice _ 2 [(zD, zD), (zD, zD)] zD kl _ hkl HK2.out Dg.zero (fun j hj => by rcases (show j = 0 ∨ j = 1 by omega) with rfl | rfl <;> rfl)).mono ?_
  rintro e w5 ⟨rfl, b5⟩
  have b5 := Below.on ba b5
  clear ba
  have HBw5 := hid (Below.on HBw3.out b5)
  have hsw5 := HBw5.out.size
  have Kxw5 := hid (Kxw3.out.below b5)
  have Kgw5 := hid (Kgw3.out.below b5)
  have HBB5 := hid b5
  clear b5
  go_wp2_with (
        refine wpList_store_blk rfl 23 _ _ rfl (w5.heap.size) (zD.map (Value.int .u8)).toArray rfl rfl _ 23 (Blk.new rfl (byteCells 32 []) _) 32 size_digest zsize Dg.zero.size (ints_one _ _) ?_
        intro w6 hbw6 hkw6
        have hw6 := hbw6.below ((Below.refl w5.heap.size w5).alloc (Nat.le_refl _) _) (by simp only [World.size_alloc]; omega) (Nat.le_refl _)
        have HBw6 := hid (Below.on HBw5.out hw6)
        have hsw6 := HBw6.out.size
        have Kxw6 := hid (Kxw5.out.below hw6)
        have hlxw6 := Kxw5.out.lt
        have Kgw6 := hid (Kgw5.out.below hw6)
        have hlgw6 := Kgw5.out.lt
        have Kyw6 := hid hkw6
        have hfw6 : w.heap.size ≤ w5.heap.size := HBw5.out.size
        clear hbw6 hkw6 hw6)
  have ba := (Below.refl w6.heap.size w6).alloc (Nat.le_refl _) (.cells M3 25 (0, 0))
  refine (root_many _ 257 257 (by omega) _).mono ?_
  rintro e w8 ⟨rfl, b8⟩
  have b8 := Below.on ba b8
  clear ba
  have HBw8 := hid (Below.on HBw6.out b8)
  have hsw8 := HBw8.out.size
  have Kxw8 := hid (Kxw6.out.below b8)
  have Kgw8 := hid (Kgw6.out.below b8)
  have Kyw8 := hid (Kyw6.out.below b8)
  clear b8
  go_wp2_with (
        refine wpList_store_blk rfl 23 _ _ rfl (w8.heap.size) (zD.map (Value.int .u8)).toArray rfl rfl _ 23 (Blk.new rfl (byteCells 32 []) _) 32 size_digest zsize Dg.zero.size (ints_one _ _) ?_
        intro w9 hbw9 hkw9
        have hw9 := hbw9.below ((Below.refl w8.heap.size w8).alloc (Nat.le_refl _) _) (by simp only [World.size_alloc]; omega) (Nat.le_refl _)
        have HBw9 := hid (Below.on HBw8.out hw9)
        have hsw9 := HBw9.out.size
        have Kxw9 := hid (Kxw8.out.below hw9)
        have hlxw9 := Kxw8.out.lt
        have Kgw9 := hid (Kgw8.out.below hw9)
        have hlgw9 := Kgw8.out.lt
        have Kyw9 := hid (Kyw8.out.below hw9)
        have hlyw9 := Kyw8.out.lt
        have Kz_w9 := hid hkw9
        have hfw9 : w.heap.size ≤ w8.heap.size := HBw8.out.size
        clear hbw9 hkw9 hw9)
  have HRz := hid (dig_rng Kgw9.out Hds.out (j := 256) (by rw [Hlen.out]; omega))
  rw [hget] at HRz
  have hgz := Kgw9.out.lt
  have q1 := fun W => eqD_self X HX.out.len W
  refine wp_region_flow 32 (List.range 32) [] [] (by kernel_rfl) (by kernel_rfl) ?_
  apply Exists.intro
  refine ⟨fun w0 hb0 hF0 => ?_, ?_⟩
  · skip
    have x0 : ∀ w', (∃ x : Ext w0, w' = x.at_) → ∃ T, Blk w' (w1.heap.size) (X.map (Value.int .u8)).toArray T := fun w' ⟨x, hx⟩ => ⟨_, hx ▸ (Kxw9.out.below hb0).below x.same⟩
    have c0 := fun e : Ext w0 => CB1.out e.at_
    have c1 := fun e : Ext w0 => CB2.out e.at_
    have yr : ∀ w', (∃ x : Ext w0, w' = x.at_) → w'.rangeAt w2.heap.size (0 + 256 * 32) (X.map (Value.int .u8)) := fun w' ⟨x, hx⟩ j v hv => by rw [hx]; exact ((Below.on hb0 x.same).cell (p := ⟨w2.heap.size, 0 + 256 * 32 + j, none⟩) hgz).trans (HRz.out j v hv)
    simp only [pick, List.range, List.range.loop, List.getElem?_toArray, List.getElem?_cons_succ, List.getElem?_cons_zero, Option.toList_some, List.cons_append, List.nil_append]
    repeat (first | (go_big_quiet_want; refine quiet_load_blk 23 _ rfl (w1.heap.size) rfl _ x0 _ Tryd.underlying23 rfl 32 size_digest HX.out.size ?_; go_big_quiet_on; simp only [Act.put, List.setIfInBounds_toArray, List.set_cons_zero, List.set_cons_succ]) | (go_big_quiet_want; refine quiet_index_digs 27 _ _ rfl Tryd.underlying27 size_digest w2.heap.size 0 257 257 rfl _ _ rfl 256 rfl (by omega) ?_; go_big_quiet_on; simp only [Act.put, List.setIfInBounds_toArray, List.set_cons_zero, List.set_cons_succ]) | (go_big_quiet_want; refine quiet_load_mid 23 _ rfl w2.heap.size (0 + 256 * 32) rfl _ yr _ Tryd.underlying23 rfl (by rw [List.length_map, HX.out.len]; exact size_digest) ?_; go_big_quiet_on; simp only [Act.put, List.setIfInBounds_toArray, List.set_cons_zero, List.set_cons_succ]) | (go_big_quiet_want; refine quiet_build_c 23 0 (.int .u8 128) _ rfl BF ?_; go_big_quiet_on; simp only [Act.put, List.setIfInBounds_toArray, List.set_cons_zero, List.set_cons_succ]) | (go_big_quiet_want; refine quiet_build_c 23 31 (.int .u8 1) _ rfl BL ?_; go_big_quiet_on; simp only [Act.put, List.setIfInBounds_toArray, List.set_cons_zero, List.set_cons_succ]) | (go_big_quiet_want; refine quiet_cmp _ _ rfl _ _ _ rfl rfl q1 ?_; go_big_quiet_on; simp only [Act.put, List.setIfInBounds_toArray, List.set_cons_zero, List.set_cons_succ]) | go_big_quiet_step (first | (go_at_call 19; with_reducible exact Calls.ext (c0 _)) | (go_at_call 19; with_reducible exact Calls.ext (c1 _))))
    exact wpQuiet_nil rfl
  refine AlChk.nil ?_
  refine Walk.fin fun w10 hw10 _ _ => ?_
  simp only [List.drop_succ_cons, List.drop_zero]
  have HBw10 := hid (Below.on HBw9.out hw10)
  have hsw10 := HBw10.out.size
  have Kxw10 := hid (Kxw9.out.below hw10)
  have Kgw10 := hid (Kgw9.out.below hw10)
  have Kyw10 := hid (Kyw9.out.below hw10)
  have Kz_w10 := hid (Kz_w9.out.below hw10)
  clear hw10
  go_wp2_with fail
  go_returns
  exact ⟨by first | rfl | simp, HBw10.out⟩
end Go.Proofs.YthaicocfbmpnmaaDoor
namespace Go.Proofs.YthaicocfbmpnmaaDoor
set_option maxRecDepth 100000
open Go.ChangeShapes Go.WideShapes Go.ChangeAt Go.RowKit
theorem fill_part (place : Nat → Option (Nat × Nat)) (cells : Array Value) (i off : Nat) (v : Value) (rest : List (Nat × Value)) (hp : place i = some (off, v.cells.size)) (hs : off + v.cells.size ≤ cells.size) :
    Instr.fill place cells ((i, v) :: rest) = Instr.fill place (splice cells.toList off v.cells.toList).toArray rest := by
  rw [Instr.fill]
  simp only [hp]
  rw [if_neg (by simp only [ne_eq, not_true_eq_false, decide_false, Bool.false_or, decide_eq_true_eq]; omega)]
  congr 1
  have hf := fold_set v.cells.toList 0 off cells (by simpa using hs)
  apply Array.ext'
  rw [Nat.add_zero] at hf
  rw [← hf]
  have : v.cells.zipIdx = ((v.cells.toList.zipIdx 0)).toArray := by
    apply Array.ext'
    simp
  rw [this, List.foldl_toArray']
  all_goals first | rfl | simp
end Go.Proofs.YthaicocfbmpnmaaDoor
namespace Go.Proofs.YthaicocfbmpnmaaDoor
set_option maxRecDepth 100000
open Go.ChangeShapes Go.WideShapes Go.ChangeAt Go.RowKit
/-- Is a place's sibling known? -/
def knB (d : List Int) (k : Nat) : Bool := decide (d.getD (k / 8) 0 / 2 ^ (k % 8) % 2 = 1)
/-- How many of the first places' siblings are known. -/
def knN (d : List Int) : Nat → Nat
  | 0 => 0
  | k + 1 => knN d k + (if knB d k then 1 else 0)
theorem knN_le (d : List Int) (k : Nat) : knN d k ≤ k := by
  induction k with
  | zero => exact Nat.le_refl _
  | succ k ih => unfold knN; split <;> omega
theorem knN_mono (d : List Int) {j k : Nat} (h : j ≤ k) : knN d j ≤ knN d k := by
  induction h with
  | refl => exact Nat.le_refl _
  | step _ ih => exact Nat.le_trans ih (by rw [knN]; omega)
def onesB (x : Int) : Nat := (if x / 2 ^ 0 % 2 = 1 then 1 else 0) + (if x / 2 ^ 1 % 2 = 1 then 1 else 0) + (if x / 2 ^ 2 % 2 = 1 then 1 else 0) + (if x / 2 ^ 3 % 2 = 1 then 1 else 0) + (if x / 2 ^ 4 % 2 = 1 then 1 else 0) + (if x / 2 ^ 5 % 2 = 1 then 1 else 0) + (if x / 2 ^ 6 % 2 = 1 then 1 else 0) + (if x / 2 ^ 7 % 2 = 1 then 1 else 0)
theorem pop8_ones (x : Int) (h0 : 0 ≤ x) (h1 : x ≤ 255) : Lib.pop8 x = (onesB x : Int) := by
  obtain ⟨n, rfl⟩ := Int.eq_ofNat_of_zero_le h0
  exact (by decide +kernel : ∀ i : Fin 256, Lib.pop8 ((i.val : Nat) : Int) = (onesB ((i.val : Nat) : Int) : Int)) ⟨n, by omega⟩
theorem onesB_le (x : Int) : onesB x ≤ 8 := by
  unfold onesB
  repeat' split
  all_goals omega
theorem knN_step (d : List Int) (i : Nat) : knN d (8 * (i + 1)) = knN d (8 * i) + onesB (d.getD i 0) := by
  have h (j : Nat) (hj : j < 8) : knB d (8 * i + j) = decide (d.getD i 0 / 2 ^ j % 2 = 1) := by
    unfold knB
    rw [show (8 * i + j) / 8 = i by omega, show (8 * i + j) % 8 = j by omega]
  have h0 := h 0 (by omega)
  rw [Nat.add_zero] at h0
  rw [show 8 * (i + 1) = 8 * i + 1 + 1 + 1 + 1 + 1 + 1 + 1 + 1 by omega]
  simp only [knN]
  rw [h0, h 1 (by omega), h 2 (by omega), h 3 (by omega), h 4 (by omega), h 5 (by omega), h 6 (by omega), h 7 (by omega)]
  simp only [decide_eq_true_eq]
  unfold onesB
  omega
section
variable {P : Program} {ops : Array Oper} {rest : List Oper} {op : Oper} {a : Act} {w : World} {Q : Exit → Act → World → Prop}
theorem wpList_index_pop8 (hgd : op.guard = none) (t : TypeId) (s : ByteArray) (x : Operand) (ho : op.op = .index t (.const (.string s)) x) (hs : s = Lib.pop8tab) (ht : P.underlying t = some .string) (k : IntKind) (i : Int) (hx : a.eval x = .int k i) (h0 : 0 ≤ i) (h1 : i ≤ 255)
    (h : wpList P ops Q rest (a.put op.dst (.int .u8 (Lib.pop8 i))) w) : wpList P ops Q (op :: rest) a w :=
  wpList_plain hgd fun K hK => by
    subst hs
    unfold Oper.wp execOp
    have hc : a.eval (.const (.string Lib.pop8tab)) = .string Lib.pop8tab := rfl
    simp only [ho, hx, hc, Sem.run_bind, Sem.run_pure, Result.andThen_ok, Lib.run_index_pop8tab w t k i ht h0 h1, Oper.upon_value]
    exact hK _ _ h
end
set_option maxHeartbeats 4000000 in
theorem ones_any (x : Int) (w : World) (h0 : 0 ≤ x) (h1 : x < 256) : Calls Tryd.prog 85 #[.int .u8 x] w fun e w' => e = .returned (.int .i64 (onesB x)) ∧ w' = w := by
  have h6 : wrap64 (Lib.pop8 x) = (onesB x : Int) := by
    rw [pop8_ones x h0 (by omega)]
    have := onesB_le x
    unfold wrap64
    omega
  go_enter Tryd.func85, Tryd.ntmps85
  go_wp2_with (refine wpList_index_pop8 rfl _ _ _ rfl (by kernel_rfl) Tryd.underlying9 .u8 x rfl (by omega) (by omega) ?_)
  go_ret
  exact ⟨by first | rfl | (rw [h6]; rfl) | (rw [← h6]; rfl), rfl⟩
end Go.Proofs.YthaicocfbmpnmaaDoor
namespace Go.Proofs.YthaicocfbmpnmaaDoor
set_option maxRecDepth 100000
open Go.ChangeShapes Go.WideShapes Go.ChangeAt Go.RowKit
theorem size_proof : (Tryd.prog.info? 46).map (·.size) = some 33 := by kernel_rfl
/-- A proof's cells. -/
def prC (d : List Int) (v : Value) : List Value := d.map (Value.int .u8) ++ [v]
theorem prC_size {d : List Int} (h : Dg d) (v : Value) : (prC d v).toArray.size = 33 := by simp [prC, h.len]
theorem prC_nodes {d : List Int} {v : Value} {w : World} {b : Nat} {T : TypeId} (h : Dg d) (k : Blk w b (prC d v).toArray T) : w.cell? ⟨b, 32, none⟩ = some v := by
  rw [k.cell, List.getElem?_toArray]
  simp [prC, h.len]
theorem prC_known {d : List Int} {v : Value} {w : World} {b : Nat} {T : TypeId} (k : Blk w b (prC d v).toArray T) : w.rangeAt b 0 (d.map (Value.int .u8)) := fun j u hu => by
  have hj : j < d.length := by have := (List.getElem?_eq_some_iff.1 hu).1; simpa using this
  rw [Nat.zero_add, k.cell, List.getElem?_toArray, ← hu]
  unfold prC
  rw [List.getElem?_append_left (by simpa using hj)]
set_option maxHeartbeats 4000000 in
theorem complete_any (d : List Int) (ad : Option Addr) (len cap : Nat) (w : World) (hd : Dg d) :
    Calls Tryd.prog 57 #[.agg (prC d (.slice ad len cap)).toArray] w fun e w' => e = .returned (.bool (decide (knN d 256 = len))) ∧ Below w.heap.size w w' := by
  have b1 := (Below.refl w.heap.size w).alloc (Nat.le_refl _) (.cells (prC d (.slice ad len cap)).toArray 46 (0, 0))
  have Kp := hid (Blk.new (w := w) (n := w.heap.size) rfl (prC d (.slice ad len cap)).toArray 46)
  have Hb := hid b1
  have hbz := b1.size
  have Hbs := hid (show w.heap.size + 1 = (w.alloc (.cells (prC d (.slice ad len cap)).toArray 46 (0, 0))).heap.size by simp only [World.size_alloc])
  clear b1 
  go_enter Tryd.func57, Tryd.ntmps57
  go_wp2_with (refine wpList_load_mid rfl 23 _ rfl (w.heap.size) 0 rfl _ _ (prC_known Kp.out) Tryd.underlying23 rfl (by rw [List.length_map, hd.len]; exact size_digest) ?_)
  go_loopw [3, 8] (fun nv iv wr => ∃ k : Nat, k ≤ 32 ∧ iv = .int .i64 k ∧ nv = .int .i64 (knN d (8 * k) : Nat) ∧ Blk wr w.heap.size (prC d (.slice ad len cap)).toArray 46 ∧ Below w.heap.size w wr) (fun _ iv _ => 32 - (intOf iv).toNat)
  case atStart => exact ⟨0, Nat.zero_le _, rfl, rfl, Kp.out, Hb.out⟩
  case round =>
    obtain ⟨k, hk, rfl, rfl, kd, bel⟩ := hrel
    have Kpwr := hid kd
    have HBwr := hid bel
    have hswr := bel.size
    clear kd bel
    have hnk := knN_le d (8 * k)
    by_cases hlt : k < 32
    · skip
      have hc0 : (k : Int) < 32 := by omega
      have hxx := dg_at hd k
      have hlen := hd.len
      have hix := fun W : World => run_index_ints (P := Tryd.prog) (t := 23) (e := 5) (n := 32) (k' := .i64) Tryd.underlying23 Tryd.underlying5 rfl rfl d hlen k hlt W
      have hob := onesB_le (d.getD k 0)
      have CK := hid (fun W : World => ones_any (d.getD k 0) W hxx.1 hxx.2)
      have HD0 := hid hd
      have HN := hid (knN_step d k)
      generalize d.getD k 0 = x at *
      generalize onesB x = z at *
      generalize hN : knN d (8 * k) = n at *
      clear hN
      go_wp2_with (go_at_call 85; refine (CK.out _).mono ?_; rintro e w' ⟨rfl, rfl⟩)
      exact ⟨⟨k + 1, by omega, by first | rfl | simp, by rw [HN.out]; first | rfl | simp, Kpwr.out, HBwr.out⟩, by simp [intOf]; omega⟩
    · skip
      have hk7 : k = 32 := by omega
      subst hk7
      have hc0 : ¬ ((32 : Int) < 32) := by omega
      have g32 := prC_nodes hd Kpwr.out
      generalize hN : knN d (8 * 32) = n at *
      have HN := hid hN
      clear hN
      go_wp2_with fail
      go_returns
      refine ⟨?_, HBwr.out⟩
      rw [show (256 : Nat) = 8 * 32 from rfl, HN.out]
      by_cases hz : n = len
      · subst hz; rw [decide_eq_true rfl]; first | rfl | (show Ending.returned (.bool ((n : Int) == (n : Int))) = _; simp)
      · rw [decide_eq_false hz]; show Ending.returned (.bool ((len : Int) == (n : Int))) = _; rw [show ((len : Int) == (n : Int)) = false by simp; omega]
end Go.Proofs.YthaicocfbmpnmaaDoor
namespace Go.Proofs.YthaicocfbmpnmaaDoor
set_option maxRecDepth 100000
open Go.ChangeShapes Go.WideShapes Go.ChangeAt Go.RowKit
theorem prC_one (d : List Int) (ad : Option Addr) (len cap : Nat) : (prC d (.slice ad len cap)).toArray.all (·.oneCell') = true := all_oneCell_toArray fun u hu => by
  simp only [prC, List.mem_append, List.mem_map, List.mem_singleton] at hu
  rcases hu with ⟨_, _, rfl⟩ | rfl <;> rfl
set_option maxHeartbeats 4000000 in
theorem climb_bad (x i d : List Int) (ad : Option Addr) (len cap : Nat) (w : World) (hd : Dg d) (hn : ¬ knN d 256 = len) :
    Calls Tryd.prog 29 #[.agg (x.map (Value.int .u8)).toArray, .agg (i.map (Value.int .u8)).toArray, .agg (prC d (.slice ad len cap)).toArray] w fun e w' => e = .returned (.tuple #[.agg (byteCells 32 []), .int .i64 2]) ∧ Below w.heap.size w w' := by
  have b1 := (Below.refl w.heap.size w).alloc (Nat.le_refl _) (.cells (x.map (Value.int .u8)).toArray 23 (0, 0))
  have b2 := b1.alloc b1.size (.cells (i.map (Value.int .u8)).toArray 23 (0, 0))
  have b3 := b2.alloc b2.size (.cells (prC d (.slice ad len cap)).toArray 46 (0, 0))
  have b4 := b3.alloc b3.size (.cells (byteCells 32 []) 23 (0, 0))
  have Kx := hid ((((Blk.new (w := w) (n := w.heap.size) rfl (x.map (Value.int .u8)).toArray 23).old (.cells (i.map (Value.int .u8)).toArray 23 (0, 0))).old (.cells (prC d (.slice ad len cap)).toArray 46 (0, 0))).old (.cells (byteCells 32 []) 23 (0, 0)))
  have Ki := hid (((Blk.new (w := (w.alloc (.cells (x.map (Value.int .u8)).toArray 23 (0, 0)))) (n := w.heap.size + 1) (by simp only [World.size_alloc]) (i.map (Value.int .u8)).toArray 23).old (.cells (prC d (.slice ad len cap)).toArray 46 (0, 0))).old (.cells (byteCells 32 []) 23 (0, 0)))
  have Kp := hid ((Blk.new (w := ((w.alloc (.cells (x.map (Value.int .u8)).toArray 23 (0, 0))).alloc (.cells (i.map (Value.int .u8)).toArray 23 (0, 0)))) (n := w.heap.size + 1 + 1) (by simp only [World.size_alloc]) (prC d (.slice ad len cap)).toArray 46).old (.cells (byteCells 32 []) 23 (0, 0)))
  have Kr := hid (Blk.new (w := (((w.alloc (.cells (x.map (Value.int .u8)).toArray 23 (0, 0))).alloc (.cells (i.map (Value.int .u8)).toArray 23 (0, 0))).alloc (.cells (prC d (.slice ad len cap)).toArray 46 (0, 0)))) (n := w.heap.size + 1 + 1 + 1) (by simp only [World.size_alloc]) (byteCells 32 []) 23)
  have Hb := hid b4
  have hbz := b4.size
  have Hbs := hid (show w.heap.size + 1 + 1 + 1 + 1 = ((((w.alloc (.cells (x.map (Value.int .u8)).toArray 23 (0, 0))).alloc (.cells (i.map (Value.int .u8)).toArray 23 (0, 0))).alloc (.cells (prC d (.slice ad len cap)).toArray 46 (0, 0))).alloc (.cells (byteCells 32 []) 23 (0, 0))).heap.size by simp only [World.size_alloc])
  clear b1 b2 b3 b4 
  go_enter Tryd.func29, Tryd.ntmps29
  go_wp2_with (refine wpList_load_blk rfl 46 _ rfl (w.heap.size + 1 + 1) rfl _ 46 Kp.out _ Tryd.underlying46 rfl 33 size_proof (prC_size hd _) ?_)
  have CK := hid (fun W : World => complete_any d ad len cap W hd)
  rw [decide_eq_false hn] at CK
  refine (CK.out _).mono ?_
  rintro e w1 ⟨rfl, bw1⟩
  have HBw1 := hid (Below.on Hb.out bw1)
  have hsw1 := HBw1.out.size
  have Kxw1 := hid (Kx.out.below bw1)
  have Kiw1 := hid (Ki.out.below bw1)
  have Kpw1 := hid (Kp.out.below bw1)
  have Krw1 := hid (Kr.out.below bw1)
  clear bw1
  go_wp2_with (
      refine wpList_store_blk rfl 23 _ _ rfl (w.heap.size + 1 + 1 + 1) (byteCells 32 []) rfl rfl _ 23 Krw1.out 32 size_digest zsize zsize (by decide +kernel) ?_
      intro w9 hb9 hk9
      have HB9 := hid (hb9.below HBw1.out HBw1.out.size (by omega))
      have HK9 := hid hk9
      clear hb9 hk9)
  exact bodyPost_ret (v := .tuple #[.agg (byteCells 32 []), .int .i64 2]) (results_blk_tmp Tryd.results29 _ (w.heap.size + 1 + 1 + 1) rfl _ rfl _ 23 HK9.out _ Tryd.underlying23 rfl 32 size_digest zsize) rfl ⟨rfl, HB9.out⟩
end Go.Proofs.YthaicocfbmpnmaaDoor
namespace Go.Proofs.YthaicocfbmpnmaaDoor
set_option maxRecDepth 100000
open Go.ChangeShapes Go.WideShapes Go.ChangeAt Go.RowKit
/-- The sibling of a level. -/
def sibL (d : List Int) (ns : List (List Int)) (k : Nat) : List Int := if knB d k then ns.getD (knN d k) [] else emptyL k
/-- A step up. -/
def stepL (i : List Int) (k : Nat) (x s : List Int) : List Int := if bitL i k = 0 then nodeL x s else nodeL s x
/-- Where one comes to. -/
def climbK (d i : List Int) (ns : List (List Int)) (x : List Int) : Nat → List Int
  | 0 => x
  | k + 1 => stepL i k (climbK d i ns x k) (sibL d ns k)
theorem Dg.stepL (i : List Int) (k : Nat) (x s : List Int) : Dg (stepL i k x s) := by
  unfold Go.Proofs.YthaicocfbmpnmaaDoor.stepL
  split
  · exact Dg.nodeL _ _
  · exact Dg.nodeL _ _
theorem Dg.climbK {x : List Int} (hx : Dg x) (d i : List Int) (ns : List (List Int)) (k : Nat) : Dg (climbK d i ns x k) := by
  cases k with
  | zero => exact hx
  | succ k => exact Dg.stepL _ _ _ _
end Go.Proofs.YthaicocfbmpnmaaDoor
namespace Go.Proofs.YthaicocfbmpnmaaDoor
set_option maxRecDepth 100000
open Go.ChangeShapes Go.WideShapes Go.ChangeAt Go.RowKit
set_option maxHeartbeats 4000000 in
theorem leads_ok (x o i d T : List Int) (ad : Option Addr) (len cap : Nat) (ns : List (List Int)) (w : World) (hx : Dg x) (ho : Dg o) (hi : Dg i) (hd : Dg d) (hT : Dg T) (hns : DigsAt w ad len cap ns) (tab : ShaTab w)
    (cu : ∀ W : World, DigsAt W ad len cap ns → ShaTab W → Calls Tryd.prog 29 #[.agg (x.map (Value.int .u8)).toArray, .agg (i.map (Value.int .u8)).toArray, .agg (prC d (.slice ad len cap)).toArray] W fun e w' => e = .returned (.tuple #[.agg (T.map (Value.int .u8)).toArray, .int .i64 0]) ∧ Below W.heap.size W w') :
    Calls Tryd.prog 60 #[.agg (x.map (Value.int .u8)).toArray, .agg (o.map (Value.int .u8)).toArray, .agg (i.map (Value.int .u8)).toArray, .agg (prC d (.slice ad len cap)).toArray] w fun e w' => e = .returned (.bool (decide (T = o))) ∧ Below w.heap.size w w' := by
  have b1 := (Below.refl w.heap.size w).alloc (Nat.le_refl _) (.cells (x.map (Value.int .u8)).toArray 23 (0, 0))
  have b2 := b1.alloc b1.size (.cells (o.map (Value.int .u8)).toArray 23 (0, 0))
  have b3 := b2.alloc b2.size (.cells (i.map (Value.int .u8)).toArray 23 (0, 0))
  have b4 := b3.alloc b3.size (.cells (prC d (.slice ad len cap)).toArray 46 (0, 0))
  have Kx := hid ((((Blk.new (w := w) (n := w.heap.size) rfl (x.map (Value.int .u8)).toArray 23).old (.cells (o.map (Value.int .u8)).toArray 23 (0, 0))).old (.cells (i.map (Value.int .u8)).toArray 23 (0, 0))).old (.cells (prC d (.slice ad len cap)).toArray 46 (0, 0)))
  have Ko := hid (((Blk.new (w := (w.alloc (.cells (x.map (Value.int .u8)).toArray 23 (0, 0)))) (n := w.heap.size + 1) (by simp only [World.size_alloc]) (o.map (Value.int .u8)).toArray 23).old (.cells (i.map (Value.int .u8)).toArray 23 (0, 0))).old (.cells (prC d (.slice ad len cap)).toArray 46 (0, 0)))
  have Ki := hid ((Blk.new (w := ((w.alloc (.cells (x.map (Value.int .u8)).toArray 23 (0, 0))).alloc (.cells (o.map (Value.int .u8)).toArray 23 (0, 0)))) (n := w.heap.size + 1 + 1) (by simp only [World.size_alloc]) (i.map (Value.int .u8)).toArray 23).old (.cells (prC d (.slice ad len cap)).toArray 46 (0, 0)))
  have Kp := hid (Blk.new (w := (((w.alloc (.cells (x.map (Value.int .u8)).toArray 23 (0, 0))).alloc (.cells (o.map (Value.int .u8)).toArray 23 (0, 0))).alloc (.cells (i.map (Value.int .u8)).toArray 23 (0, 0)))) (n := w.heap.size + 1 + 1 + 1) (by simp only [World.size_alloc]) (prC d (.slice ad len cap)).toArray 46)
  have Hb := hid b4
  have hbz := b4.size
  have Hbs := hid (show w.heap.size + 1 + 1 + 1 + 1 = ((((w.alloc (.cells (x.map (Value.int .u8)).toArray 23 (0, 0))).alloc (.cells (o.map (Value.int .u8)).toArray 23 (0, 0))).alloc (.cells (i.map (Value.int .u8)).toArray 23 (0, 0))).alloc (.cells (prC d (.slice ad len cap)).toArray 46 (0, 0))).heap.size by simp only [World.size_alloc])
  clear b1 b2 b3 b4 
  go_enter Tryd.func60, Tryd.ntmps60
  go_wp2_with (first
     | (refine wpList_load_blk rfl 23 _ rfl (w.heap.size) rfl _ 23 Kx.out _ Tryd.underlying23 rfl 32 size_digest hx.size ?_)
     | (refine wpList_load_blk rfl 23 _ rfl (w.heap.size + 1 + 1) rfl _ 23 Ki.out _ Tryd.underlying23 rfl 32 size_digest hi.size ?_)
     | (refine wpList_load_blk rfl 46 _ rfl (w.heap.size + 1 + 1 + 1) rfl _ 46 Kp.out _ Tryd.underlying46 rfl 33 size_proof (prC_size hd _) ?_))
  refine (cu _ (hns.below Hb.out) (tab.below Hb.out)).mono ?_
  rintro e w1 ⟨rfl, bw1⟩
  have HBw1 := hid (Below.on Hb.out bw1)
  have hsw1 := HBw1.out.size
  have Kxw1 := hid (Kx.out.below bw1)
  have Kow1 := hid (Ko.out.below bw1)
  have Kiw1 := hid (Ki.out.below bw1)
  have Kpw1 := hid (Kp.out.below bw1)
  clear bw1
  have q1 := fun W => eqD T o hT.len ho.len W
  go_wp2_with (first
     | (
        refine wpList_store_blk rfl 23 _ _ rfl (w1.heap.size) (T.map (Value.int .u8)).toArray rfl rfl _ 23 (Blk.new rfl (byteCells 32 []) _) 32 size_digest zsize hT.size (ints_one _ _) ?_
        intro w2 hbw2 hkw2
        have hw2 := hbw2.below ((Below.refl w1.heap.size w1).alloc (Nat.le_refl _) _) (by simp only [World.size_alloc]; omega) (Nat.le_refl _)
        have HBw2 := hid (Below.on HBw1.out hw2)
        have hsw2 := HBw2.out.size
        have Kxw2 := hid (Kxw1.out.below hw2)
        have hlxw2 := Kxw1.out.lt
        have Kow2 := hid (Kow1.out.below hw2)
        have hlow2 := Kow1.out.lt
        have Kiw2 := hid (Kiw1.out.below hw2)
        have hliw2 := Kiw1.out.lt
        have Kpw2 := hid (Kpw1.out.below hw2)
        have hlpw2 := Kpw1.out.lt
        have Ktw2 := hid hkw2
        have hfw2 : w.heap.size ≤ w1.heap.size := HBw1.out.size
        clear hbw2 hkw2 hw2)
     | (refine wpList_load_blk_if (by first | rfl | go_simp) 23 _ rfl (w1.heap.size) rfl _ 23 Ktw2.out _ Tryd.underlying23 rfl 32 size_digest hT.size ?_)
     | (refine wpList_load_blk_if (by first | rfl | go_simp) 23 _ rfl (w.heap.size + 1) rfl _ 23 Kow2.out _ Tryd.underlying23 rfl 32 size_digest ho.size ?_))
  go_returns
  exact ⟨by first | rfl | simp, HBw2.out⟩
end Go.Proofs.YthaicocfbmpnmaaDoor
namespace Go.Proofs.YthaicocfbmpnmaaDoor
set_option maxRecDepth 100000
open Go.ChangeShapes Go.WideShapes Go.ChangeAt Go.RowKit
theorem run_build_ent {a b : List Int} (ha : Dg a) (hb : Dg b) (w : World) : (Instr.build 25 #[(0, .agg (a.map (Value.int .u8)).toArray), (1, .agg (b.map (Value.int .u8)).toArray)]).run Tryd.prog w = .ok (.agg ((entL a b).map (Value.int .u8)).toArray) w := by
  refine run_build w _ _ _ ?_
  obtain ⟨i0, hi, hz0⟩ := Option.map_eq_some_iff.1 (show (Tryd.prog.info? 25).map (·.zero) = some (some (.agg ((entL zD zD).map (Value.int .u8)).toArray)) by kernel_rfl)
  obtain ⟨fields, hu, hq⟩ : ∃ fields, Tryd.prog.underlying 25 = some (.struct fields) ∧ fields.toList.mapM (fun f => (Tryd.prog.info? f.type).map fun i => (f.offset, i.size)) = some [(0, 32), (32, 32)] := ⟨_, Tryd.underlying25, by kernel_rfl⟩
  have hz : (Value.agg ((entL zD zD).map (Value.int .u8)).toArray).cells = ((entL zD zD).map (Value.int .u8)).toArray := rfl
  unfold Program.built
  simp only [hi, hu, hz0, hq, hz]
  have hs0 : (Value.agg (a.map (Value.int .u8)).toArray).cells.size = 32 := ha.size
  have hs1 : (Value.agg (b.map (Value.int .u8)).toArray).cells.size = 32 := hb.size
  have t0 : splice (((entL zD zD).map (Value.int .u8)).toArray).toList 0 (Value.agg (a.map (Value.int .u8)).toArray).cells.toList = (entL a zD).map (Value.int .u8) := by
    show splice ((entL zD zD).map (Value.int .u8)) 0 (a.map (Value.int .u8)) = _
    unfold splice entL
    rw [List.take_zero, List.nil_append, List.length_map, ha.len, List.map_append, List.drop_append_of_le_length (by rw [List.length_map, Dg.zero.len]; omega), List.drop_eq_nil_of_le (by rw [List.length_map, Dg.zero.len]; omega), List.nil_append, List.map_append]
  have t1 : splice ((entL a zD).map (Value.int .u8)) 32 (Value.agg (b.map (Value.int .u8)).toArray).cells.toList = (entL a b).map (Value.int .u8) := by
    show splice ((entL a zD).map (Value.int .u8)) 32 (b.map (Value.int .u8)) = _
    unfold splice entL
    rw [List.map_append, List.take_append_of_le_length (by rw [List.length_map, ha.len]; omega), List.take_of_length_le (by rw [List.length_map, ha.len]; omega), List.length_map, hb.len, List.drop_eq_nil_of_le (by simp [ha.len, Dg.zero.len]), List.append_nil, List.map_append]
  rw [fill_part _ _ 0 0 _ _ (by rw [hs0]; rfl) (by rw [hs0, two_size Dg.zero Dg.zero]; omega), t0]
  rw [fill_part _ _ 1 32 _ _ (by rw [hs1]; rfl) (by rw [hs1, two_size ha Dg.zero]; omega), List.toList_toArray, t1, Instr.fill]
theorem quiet_build_ent {op : Oper} {a : Act} {C : World → Prop} {K : Act → Prop} (x y : Operand) (u v r : Value) (ho : op.op = .build 25 #[(0, x), (1, y)]) (hx : a.eval x = u) (hy : a.eval y = v) (hr : ∀ w', (Instr.build 25 #[(0, u), (1, v)]).run Tryd.prog w' = .ok r w') (h : K (a.put op.dst r)) : op.quiet Tryd.prog a C K :=
  ⟨r, fun w' _ => by
    unfold Oper.quietAt execOp
    simp only [ho, List.map_toArray, List.map_cons, List.map_nil, hx, hy, Sem.run_bind, hr w', Result.andThen_ok, Sem.run_pure]
    simp [Oper.quietUpon], h⟩
set_option maxHeartbeats 4000000 in
theorem present_any (o i c d : List Int) (ad : Option Addr) (len cap : Nat) (ns : List (List Int)) (b : Bool) (w : World) (ho : Dg o) (hi : Dg i) (hc : Dg c) (hd : Dg d) (hns : DigsAt w ad len cap ns) (tab : ShaTab w)
    (cl : ∀ W : World, DigsAt W ad len cap ns → ShaTab W → Calls Tryd.prog 60 #[.agg ((leafE i c).map (Value.int .u8)).toArray, .agg (o.map (Value.int .u8)).toArray, .agg (i.map (Value.int .u8)).toArray, .agg (prC d (.slice ad len cap)).toArray] W fun e w' => e = .returned (.bool b) ∧ Below W.heap.size W w') :
    Calls Tryd.prog 31 #[.agg (o.map (Value.int .u8)).toArray, .agg (i.map (Value.int .u8)).toArray, .agg (c.map (Value.int .u8)).toArray, .agg (prC d (.slice ad len cap)).toArray] w fun e w' => e = .returned (.bool b) ∧ Below w.heap.size w w' := by
  have CL := hid (fun (W : World) (t : ShaTab W) => leaf_any i c W hi hc t)
  have CD := hid cl
  have HBE := hid (fun W : World => run_build_ent hi hc W)
  clear cl
  generalize leafE i c = L at *
  have b1 := (Below.refl w.heap.size w).alloc (Nat.le_refl _) (.cells (o.map (Value.int .u8)).toArray 23 (0, 0))
  have b2 := b1.alloc b1.size (.cells (i.map (Value.int .u8)).toArray 23 (0, 0))
  have b3 := b2.alloc b2.size (.cells (c.map (Value.int .u8)).toArray 23 (0, 0))
  have b4 := b3.alloc b3.size (.cells (prC d (.slice ad len cap)).toArray 46 (0, 0))
  have Ko := hid ((((Blk.new (w := w) (n := w.heap.size) rfl (o.map (Value.int .u8)).toArray 23).old (.cells (i.map (Value.int .u8)).toArray 23 (0, 0))).old (.cells (c.map (Value.int .u8)).toArray 23 (0, 0))).old (.cells (prC d (.slice ad len cap)).toArray 46 (0, 0)))
  have Ki := hid (((Blk.new (w := (w.alloc (.cells (o.map (Value.int .u8)).toArray 23 (0, 0)))) (n := w.heap.size + 1) (by simp only [World.size_alloc]) (i.map (Value.int .u8)).toArray 23).old (.cells (c.map (Value.int .u8)).toArray 23 (0, 0))).old (.cells (prC d (.slice ad len cap)).toArray 46 (0, 0)))
  have Kc := hid ((Blk.new (w := ((w.alloc (.cells (o.map (Value.int .u8)).toArray 23 (0, 0))).alloc (.cells (i.map (Value.int .u8)).toArray 23 (0, 0)))) (n := w.heap.size + 1 + 1) (by simp only [World.size_alloc]) (c.map (Value.int .u8)).toArray 23).old (.cells (prC d (.slice ad len cap)).toArray 46 (0, 0)))
  have Kp := hid (Blk.new (w := (((w.alloc (.cells (o.map (Value.int .u8)).toArray 23 (0, 0))).alloc (.cells (i.map (Value.int .u8)).toArray 23 (0, 0))).alloc (.cells (c.map (Value.int .u8)).toArray 23 (0, 0)))) (n := w.heap.size + 1 + 1 + 1) (by simp only [World.size_alloc]) (prC d (.slice ad len cap)).toArray 46)
  have Hb := hid b4
  have hbz := b4.size
  have Hbs := hid (show w.heap.size + 1 + 1 + 1 + 1 = ((((w.alloc (.cells (o.map (Value.int .u8)).toArray 23 (0, 0))).alloc (.cells (i.map (Value.int .u8)).toArray 23 (0, 0))).alloc (.cells (c.map (Value.int .u8)).toArray 23 (0, 0))).alloc (.cells (prC d (.slice ad len cap)).toArray 46 (0, 0))).heap.size by simp only [World.size_alloc])
  have Htab := hid tab
  clear b1 b2 b3 b4 tab 
  go_enter Tryd.func31, Tryd.ntmps31
  go_wp2_with fail
  refine wp_region_flow 8 (List.range 8) [] [] (by kernel_rfl) (by kernel_rfl) ?_
  apply Exists.intro
  refine ⟨fun w0 hb0 hF0 => ?_, ?_⟩
  · skip
    have x0 : ∀ w', (∃ x : Ext w0, w' = x.at_) → ∃ T, Blk w' (w.heap.size) (o.map (Value.int .u8)).toArray T := fun w' ⟨x, hx⟩ => ⟨_, hx ▸ (Ko.out.below hb0).below x.same⟩
    have x1 : ∀ w', (∃ x : Ext w0, w' = x.at_) → ∃ T, Blk w' (w.heap.size + 1) (i.map (Value.int .u8)).toArray T := fun w' ⟨x, hx⟩ => ⟨_, hx ▸ (Ki.out.below hb0).below x.same⟩
    have x2 : ∀ w', (∃ x : Ext w0, w' = x.at_) → ∃ T, Blk w' (w.heap.size + 1 + 1) (c.map (Value.int .u8)).toArray T := fun w' ⟨x, hx⟩ => ⟨_, hx ▸ (Kc.out.below hb0).below x.same⟩
    have x3 : ∀ w', (∃ x : Ext w0, w' = x.at_) → ∃ T, Blk w' (w.heap.size + 1 + 1 + 1) (prC d (.slice ad len cap)).toArray T := fun w' ⟨x, hx⟩ => ⟨_, hx ▸ (Kp.out.below hb0).below x.same⟩
    have c0 := fun e : Ext w0 => CL.out e.at_ (Htab.out.below (Below.on (Below.on Hb.out hb0) e.same))
    have c1 := fun e : Ext w0 => CD.out e.at_ (hns.below (Below.on (Below.on Hb.out hb0) e.same)) (Htab.out.below (Below.on (Below.on Hb.out hb0) e.same))
    simp only [pick, List.range, List.range.loop, List.getElem?_toArray, List.getElem?_cons_succ, List.getElem?_cons_zero, Option.toList_some, List.cons_append, List.nil_append]
    repeat (first | (go_big_quiet_want; refine quiet_load_blk 23 _ rfl (w.heap.size) rfl _ x0 _ Tryd.underlying23 rfl 32 size_digest ho.size ?_; go_big_quiet_on; simp only [Act.put, List.setIfInBounds_toArray, List.set_cons_zero, List.set_cons_succ]) | (go_big_quiet_want; refine quiet_load_blk 23 _ rfl (w.heap.size + 1) rfl _ x1 _ Tryd.underlying23 rfl 32 size_digest hi.size ?_; go_big_quiet_on; simp only [Act.put, List.setIfInBounds_toArray, List.set_cons_zero, List.set_cons_succ]) | (go_big_quiet_want; refine quiet_load_blk 23 _ rfl (w.heap.size + 1 + 1) rfl _ x2 _ Tryd.underlying23 rfl 32 size_digest hc.size ?_; go_big_quiet_on; simp only [Act.put, List.setIfInBounds_toArray, List.set_cons_zero, List.set_cons_succ]) | (go_big_quiet_want; refine quiet_load_blk 46 _ rfl (w.heap.size + 1 + 1 + 1) rfl _ x3 _ Tryd.underlying46 rfl 33 size_proof (prC_size hd _) ?_; go_big_quiet_on; simp only [Act.put, List.setIfInBounds_toArray, List.set_cons_zero, List.set_cons_succ]) | (go_big_quiet_want; refine quiet_build_ent (.tmp 9) (.tmp 10) _ _ _ rfl rfl rfl HBE.out ?_; go_big_quiet_on; simp only [Act.put, List.setIfInBounds_toArray, List.set_cons_zero, List.set_cons_succ]) | go_big_quiet_step (first | (go_at_call 15; with_reducible exact Calls.ext (c0 _)) | (go_at_call 60; with_reducible exact Calls.ext (c1 _))))
    exact wpQuiet_nil rfl
  refine AlChk.nil ?_
  refine Walk.fin fun w1 hw1 _ _ => ?_
  simp only [List.drop_succ_cons, List.drop_zero]
  have HBw1 := hid (Below.on Hb.out hw1)
  have hsw1 := HBw1.out.size
  have Kow1 := hid (Ko.out.below hw1)
  have Kiw1 := hid (Ki.out.below hw1)
  have Kcw1 := hid (Kc.out.below hw1)
  have Kpw1 := hid (Kp.out.below hw1)
  clear hw1
  go_wp2_with fail
  go_returns
  exact ⟨rfl, HBw1.out⟩
end Go.Proofs.YthaicocfbmpnmaaDoor
namespace Go.Proofs.YthaicocfbmpnmaaDoor
set_option maxRecDepth 100000
open Go.ChangeShapes Go.WideShapes Go.ChangeAt Go.RowKit
set_option maxHeartbeats 4000000 in
theorem absent_any (o i d : List Int) (ad : Option Addr) (len cap : Nat) (ns : List (List Int)) (b : Bool) (w : World) (ho : Dg o) (hi : Dg i) (hd : Dg d) (hns : DigsAt w ad len cap ns) (tab : ShaTab w)
    (cl : ∀ W : World, DigsAt W ad len cap ns → ShaTab W → Calls Tryd.prog 60 #[.agg ((emptyL 0).map (Value.int .u8)).toArray, .agg (o.map (Value.int .u8)).toArray, .agg (i.map (Value.int .u8)).toArray, .agg (prC d (.slice ad len cap)).toArray] W fun e w' => e = .returned (.bool b) ∧ Below W.heap.size W w') :
    Calls Tryd.prog 32 #[.agg (o.map (Value.int .u8)).toArray, .agg (i.map (Value.int .u8)).toArray, .agg (prC d (.slice ad len cap)).toArray] w fun e w' => e = .returned (.bool b) ∧ Below w.heap.size w w' := by
  have CE := hid (fun (W : World) (t : ShaTab W) => empty_any W t)
  have CD := hid cl
  have Hds := hid (empN_each 257)
  have Hlen := hid (empN_length 257)
  have Hget := hid (empN_get (n := 257) (k := 0) (by omega))
  have HE := hid (Dg.emptyL 0)
  clear cl
  generalize empN 257 = ds at *
  generalize emptyL 0 = E at *
  have b1 := (Below.refl w.heap.size w).alloc (Nat.le_refl _) (.cells (o.map (Value.int .u8)).toArray 23 (0, 0))
  have b2 := b1.alloc b1.size (.cells (i.map (Value.int .u8)).toArray 23 (0, 0))
  have b3 := b2.alloc b2.size (.cells (prC d (.slice ad len cap)).toArray 46 (0, 0))
  have Ko := hid (((Blk.new (w := w) (n := w.heap.size) rfl (o.map (Value.int .u8)).toArray 23).old (.cells (i.map (Value.int .u8)).toArray 23 (0, 0))).old (.cells (prC d (.slice ad len cap)).toArray 46 (0, 0)))
  have Ki := hid ((Blk.new (w := (w.alloc (.cells (o.map (Value.int .u8)).toArray 23 (0, 0)))) (n := w.heap.size + 1) (by simp only [World.size_alloc]) (i.map (Value.int .u8)).toArray 23).old (.cells (prC d (.slice ad len cap)).toArray 46 (0, 0)))
  have Kp := hid (Blk.new (w := ((w.alloc (.cells (o.map (Value.int .u8)).toArray 23 (0, 0))).alloc (.cells (i.map (Value.int .u8)).toArray 23 (0, 0)))) (n := w.heap.size + 1 + 1) (by simp only [World.size_alloc]) (prC d (.slice ad len cap)).toArray 46)
  have Hb := hid b3
  have hbz := b3.size
  have Hbs := hid (show w.heap.size + 1 + 1 + 1 = (((w.alloc (.cells (o.map (Value.int .u8)).toArray 23 (0, 0))).alloc (.cells (i.map (Value.int .u8)).toArray 23 (0, 0))).alloc (.cells (prC d (.slice ad len cap)).toArray 46 (0, 0))).heap.size by simp only [World.size_alloc])
  have Htab := hid tab
  clear b1 b2 b3 tab 
  go_enter Tryd.func32, Tryd.ntmps32
  go_wp2_with fail
  refine wp_region_flow 7 [3, 4, 5] [] [(.c 0, [1, 2, 6], [])] (by kernel_rfl) (by kernel_rfl) ?_
  apply Exists.intro
  refine ⟨fun w0 hb0 hF0 => ?_, ?_⟩
  · skip
    have x0 : ∀ w', (∃ x : Ext w0, w' = x.at_) → ∃ T, Blk w' (w.heap.size) (o.map (Value.int .u8)).toArray T := fun w' ⟨x, hx⟩ => ⟨_, hx ▸ (Ko.out.below hb0).below x.same⟩
    have x1 : ∀ w', (∃ x : Ext w0, w' = x.at_) → ∃ T, Blk w' (w.heap.size + 1) (i.map (Value.int .u8)).toArray T := fun w' ⟨x, hx⟩ => ⟨_, hx ▸ (Ki.out.below hb0).below x.same⟩
    have x2 : ∀ w', (∃ x : Ext w0, w' = x.at_) → ∃ T, Blk w' (w.heap.size + 1 + 1) (prC d (.slice ad len cap)).toArray T := fun w' ⟨x, hx⟩ => ⟨_, hx ▸ (Kp.out.below hb0).below x.same⟩
    simp only [pick, List.getElem?_toArray, List.getElem?_cons_succ, List.getElem?_cons_zero, Option.toList_some, List.cons_append, List.nil_append]
    repeat (first | (go_big_quiet_want; refine quiet_load_blk 23 _ rfl (w.heap.size) rfl _ x0 _ Tryd.underlying23 rfl 32 size_digest ho.size ?_; go_big_quiet_on; simp only [Act.put, List.setIfInBounds_toArray, List.set_cons_zero, List.set_cons_succ]) | (go_big_quiet_want; refine quiet_load_blk 23 _ rfl (w.heap.size + 1) rfl _ x1 _ Tryd.underlying23 rfl 32 size_digest hi.size ?_; go_big_quiet_on; simp only [Act.put, List.setIfInBounds_toArray, List.set_cons_zero, List.set_cons_succ]) | (go_big_quiet_want; refine quiet_load_blk 46 _ rfl (w.heap.size + 1 + 1) rfl _ x2 _ Tryd.underlying46 rfl 33 size_proof (prC_size hd _) ?_; go_big_quiet_on; simp only [Act.put, List.setIfInBounds_toArray, List.set_cons_zero, List.set_cons_succ]) | go_big_quiet_step (fail))
    exact wpQuiet_nil rfl
  refine AlChk.nil ?_
  refine Walk.call rfl 13 #[] (fun v w' => ∃ g, v = .slice (some ⟨g, 0, none⟩) 257 257 ∧ Blk w' g (dcs ds) 23) (fun v w' w'' h k => by obtain ⟨g, h1, h2⟩ := h; exact ⟨g, h1, h2.below k⟩) rfl (fun w1 hb1 hF1 => ⟨by go_simp, ?_⟩) ?_
  · refine (CE.out w1 (Htab.out.below (Below.on Hb.out hb1))).mono ?_
    rintro e w2 ⟨rfl, b2, k2⟩
    exact ⟨_, rfl, b2, _, rfl, k2⟩
  rintro v0 w1 hb1 hF1 ⟨g, rfl, _⟩
  apply Exists.intro
  refine ⟨fun w0 hb0 hF0 => ?_, ?_⟩
  · skip
    obtain ⟨_, g', hg', kg⟩ := hF0
    cases hg'
    have yr : ∀ w', (∃ x : Ext w0, w' = x.at_) → w'.rangeAt g (0 + 0 * 32) (E.map (Value.int .u8)) := fun w' ⟨x, hx⟩ => by
      have h := dig_rng (kg.below x.same) Hds.out (j := 0) (by rw [Hlen.out]; omega)
      rw [Hget.out] at h
      rw [hx]
      exact h
    have c0 := fun e : Ext w0 => CD.out e.at_ (hns.below (Below.on (Below.on Hb.out hb0) e.same)) (Htab.out.below (Below.on (Below.on Hb.out hb0) e.same))
    simp only [pick, List.getElem?_toArray, List.getElem?_cons_succ, List.getElem?_cons_zero, Option.toList_some, List.cons_append, List.nil_append, Act.put, List.setIfInBounds_toArray, List.set_cons_zero, List.set_cons_succ]
    repeat (first | (go_big_quiet_want; refine quiet_index_digs 27 _ _ rfl Tryd.underlying27 size_digest g 0 257 257 rfl _ _ rfl 0 rfl (by omega) ?_; go_big_quiet_on; simp only [Act.put, List.setIfInBounds_toArray, List.set_cons_zero, List.set_cons_succ]) | (go_big_quiet_want; refine quiet_load_mid 23 _ rfl g (0 + 0 * 32) rfl _ yr _ Tryd.underlying23 rfl (by rw [List.length_map, HE.out.len]; exact size_digest) ?_; go_big_quiet_on; simp only [Act.put, List.setIfInBounds_toArray, List.set_cons_zero, List.set_cons_succ]) | go_big_quiet_step (first | (go_at_call 60; with_reducible exact Calls.ext (c0 _))))
    exact wpQuiet_nil rfl
  refine AlChk.nil ?_
  refine Walk.fin fun w5 h5 hF5 _ => ?_
  simp only [List.drop_succ_cons, List.drop_zero]
  have HB5 := hid (Below.on Hb.out h5)
  clear h5 hF5
  go_wp2_with fail
  go_returns
  exact ⟨rfl, HB5.out⟩
end Go.Proofs.YthaicocfbmpnmaaDoor
namespace Go.Proofs.YthaicocfbmpnmaaDoor
set_option maxRecDepth 100000
open Go.ChangeShapes Go.WideShapes Go.ChangeAt Go.RowKit
set_option maxHeartbeats 4000000 in
theorem siblings_any (d : List Int) (ad : Option Addr) (len cap : Nat) (w : World) :
    Calls Tryd.prog 58 #[.agg (prC d (.slice ad len cap)).toArray] w fun e w' => e = .returned (.func (.func 86) #[] #[.pointer (some ⟨w.heap.size, 0, none⟩)]) ∧ Below w.heap.size w w' ∧ Blk w' w.heap.size (prC d (.slice ad len cap)).toArray 46 := by
  have b1 := (Below.refl w.heap.size w).alloc (Nat.le_refl _) (.cells (prC d (.slice ad len cap)).toArray 46 (0, 0))
  have Kp := hid (Blk.new (w := w) (n := w.heap.size) rfl (prC d (.slice ad len cap)).toArray 46)
  have Hb := hid b1
  have hbz := b1.size
  have Hbs := hid (show w.heap.size + 1 = (w.alloc (.cells (prC d (.slice ad len cap)).toArray 46 (0, 0))).heap.size by simp only [World.size_alloc])
  clear b1 
  go_enter Tryd.func58, Tryd.ntmps58
  go_wp2_with fail
  go_returns
  exact ⟨rfl, Hb.out, Kp.out⟩
theorem zD_get (j : Nat) : zD.getD j 0 = 0 := by
  rw [List.getD_eq_getElem?_getD]
  unfold zD
  rw [List.getElem?_replicate]
  split <;> rfl
theorem knB_zero (k : Nat) : knB zD k = false := by
  unfold knB
  rw [zD_get, Int.zero_ediv]
  rfl
theorem knN_zero (k : Nat) : knN zD k = 0 := by
  induction k with
  | zero => rfl
  | succ k ih => rw [knN, ih, knB_zero]; rfl
/-- Where one comes to from nothing by a proof of which nothing is known. -/
theorem climb_zero (i : List Int) (ns : List (List Int)) (k : Nat) : climbK zD i ns (emptyL 0) k = emptyL k := by
  induction k with
  | zero => rfl
  | succ k ih =>
    rw [climbK, ih, sibL, knB_zero, if_neg (by simp), stepL, show emptyL (k + 1) = nodeL (emptyL k) (emptyL k) from rfl]
    split <;> rfl
end Go.Proofs.YthaicocfbmpnmaaDoor
namespace Go.Proofs.YthaicocfbmpnmaaDoor
set_option maxRecDepth 100000
open Go.ChangeShapes Go.WideShapes Go.ChangeAt Go.RowKit Go.Shelf
/-- Below block b all is as it was; from there on all cells are, but those of block b. -/
structure KeepC (b : Nat) (W W' : World) : Prop where
  low : Below b W W'
  same : ∀ (k : Nat) (o : Obj), k ≠ b → W.heap[k]? = some o → o.isCells = true → W'.heap[k]? = some o
theorem KeepC.trans {b : Nat} {X Y Z : World} (h : KeepC b X Y) (k : KeepC b Y Z) : KeepC b X Z := ⟨h.low.trans k.low, fun i o hi hx ho => k.same i o hi (h.same i o hi hx ho) ho⟩
theorem KeepC.of_below {b : Nat} {W W' : World} (hb : b ≤ W.heap.size) (h : Below W.heap.size W W') : KeepC b W W' :=
  ⟨h.mono hb, fun _ _ _ hk _ => (h.block _ (Array.getElem?_eq_some_iff.1 hk).1).trans hk⟩
theorem KeepC.of_but {b : Nat} {W W' : World} (hb : b ≤ W.heap.size) (h : But b W W') : KeepC b W W' :=
  ⟨⟨h.os, h.tape, h.output, h.size, fun k hk => h.block k (by omega) (by omega)⟩, fun _ _ hne hk _ => (h.block _ (Array.getElem?_eq_some_iff.1 hk).1 hne).trans hk⟩
theorem KeepC.putObj {b n : Nat} (hb : b ≤ n) (W : World) (l : Nat) (o o' : Obj) (hn : n ≤ l) (h : W.heap[l]? = some o) (ho : o.isCells = false) : KeepC b W (W.putObj l o') :=
  ⟨(Below.refl b W).grown (grownBy_putObj' W l o') (by have := (Array.getElem?_eq_some_iff.1 h).1; omega) (fun k e => by cases e; omega), fun k q _ hk hq => by
    by_cases e : k = l
    · subst e; rw [h] at hk; cases hk; rw [ho] at hq; cases hq
    · exact (World.putObj_heap_other e).trans hk⟩
theorem KeepC.blk {b n : Nat} {W W' : World} {cs : Array Value} {T : TypeId} (h : KeepC b W W') (k : Blk W n cs T) (hne : n ≠ b) : Blk W' n cs T := h.same n _ hne k rfl
theorem keepsFrom_below {B : Nat} {W W' : World} (h : Below W.heap.size W W') : KeepsFrom B W W' :=
  ⟨h.size, fun _ _ _ hk _ => (h.block _ (Array.getElem?_eq_some_iff.1 hk).1).trans hk⟩
theorem keepsFrom_but {b B : Nat} {W W' : World} (hb : b < B) (h : But b W W') : KeepsFrom B W W' :=
  ⟨h.size, fun _ _ hB hk _ => (h.block _ (Array.getElem?_eq_some_iff.1 hk).1 (by omega)).trans hk⟩
def noDefer (o : Oper) : Bool := match o.op with | .defer _ => false | _ => true
theorem noDefer_ne {o : Oper} (h : noDefer o = true) : ∀ c, o.op ≠ .defer c := fun c hc => by
  unfold noDefer at h
  rw [hc] at h
  cases h
theorem callsIn_any {F : Fence} (hF : F.plain = Fence.wide) {n : Nat} {P : Program} {f : FuncId} {args : Array Value} {w : World} {R : Ending → World → Prop} (h : Calls P f args w R) : CallsIn F n P f args w R := by
  have h1 : CallsIn F.plain n P f args w R := by rw [hF]; exact callsIn_wide.2 h
  exact h1
theorem rowsIn_any {F : Fence} (hF : F.plain = Fence.wide) {n : Nat} {P : Program} {row : String} {args : Array Value} {w : World} {R : Value → World → Prop} (h : Rows P row args w R) : RowsIn F n P row args w R := by
  have h1 : RowsIn F.plain n P row args w R := by
    rw [hF]
    intro c cs _
    obtain ⟨v, w1, h1, s1⟩ := h c cs
    exact ⟨v, w1, h1, stepsIn_wide.2 s1⟩
  exact h1
theorem wpListIn_pre {F : Fence} (hF : F.plain = Fence.wide) {n : Nat} {P : Program} {ops : Array Oper} {Q : Exit → Act → World → Prop} (rest : List Oper) : ∀ (L : List Oper) (a : Act) (w : World), L.all noDefer = true → wpList P ops (fun e a w => e = .normal ∧ wpListIn F n P ops Q rest a w) L a w → wpListIn F n P ops Q (L ++ rest) a w
  | [], _, _, _, h => h.2
  | o :: L, a, w, hnd, h => by
    have hfn : ∀ f, F.fn f := fun f => by
      have h1 : F.plain.fn f := by rw [hF]; trivial
      exact h1
    have hdp : F.depth = none := by
      have h1 : F.plain.depth = none := by rw [hF]; rfl
      exact h1
    rw [List.all_cons, Bool.and_eq_true] at hnd
    have ih := fun a w => wpListIn_pre hF (P := P) (ops := ops) (Q := Q) (n := n) rest L a w hnd.2
    have hout : ¬ LetsOut (fun e a w => e = Exit.normal ∧ wpListIn F n P ops Q rest a w) := fun ⟨_, _, h, _⟩ => by cases h
    unfold wpList at h
    rw [List.cons_append]
    unfold wpListIn
    split at h
    · rename_i hw
      rw [if_pos hw]
      rcases h with h | ⟨_, h⟩
      · refine ⟨fun f _ => hfn f, ?_⟩
        rw [Oper.semAt_plain F _ _ (noDefer_ne hnd.1)]
        unfold Oper.wp at h
        revert h
        generalize (execOp a.eval o).run P w = r
        intro h
        unfold Oper.upon at h
        split at h
        · exact ih _ _ h
        · exact ih _ _ h
        · exact ih _ _ h
        · refine ⟨fun h => (by rw [hdp] at h; cases h), callsIn_any hF (h.mono ?_)⟩
          intro e w1 h1
          cases e with
          | returned v => exact ih _ _ h1
          | panicked c => exact absurd h1.1 (by simp)
          | outgrown => exact (hout h1).elim
        · refine ⟨fun h => (by rw [hdp] at h; cases h), ?_⟩
          exact rowsIn_any hF (h.mono fun v w1 h1 => ih _ _ h1)
        · exact absurd h.1 (by simp)
        · exact h.elim
      · exact (hout h).elim
    · rename_i hw
      rw [if_neg hw]
      exact ⟨fun f _ => hfn f, ih _ _ h⟩
theorem wpListIn_any {F : Fence} (hF : F.plain = Fence.wide) {n : Nat} {P : Program} {ops : Array Oper} {Q : Exit → Act → World → Prop} (L : List Oper) (a : Act) (w : World) (hnd : L.all noDefer = true) (h : wpList P ops (fun e a w => e = .normal ∧ Q .normal a w) L a w) : wpListIn F n P ops Q L a w := by
  have := wpListIn_pre hF (P := P) (ops := ops) (Q := Q) (n := n) [] L a w hnd h
  rwa [List.append_nil] at this
theorem wpListIn_one {F : Fence} (hF : F.plain = Fence.wide) {n : Nat} {P : Program} {ops : Array Oper} {Q : Exit → Act → World → Prop} {rest : List Oper} {o : Oper} {a : Act} {w : World} (hnd : noDefer o = true) (h : wpList P ops (fun e a w => e = .normal ∧ wpListIn F n P ops Q rest a w) [o] a w) : wpListIn F n P ops Q (o :: rest) a w :=
  wpListIn_pre hF rest [o] a w (by simp [hnd]) h
/-- A region within a range over a function, walked as anywhere. -/
theorem wpIn_region_as {F : Fence} (hF : F.plain = Fence.wide) {n id : Nat} {P : Program} {L : List Oper} {Q : Exit → Act → World → Prop} {a : Act} {w : World} (hnd : L.all noDefer = true) (h : wpList P L.toArray (fun e a w => e = .normal ∧ Q .normal a w) L a w) : (Code.region id L.toArray false).wpIn F n P Q a w :=
  wpIn_region_lit (wpListIn_any hF L a w hnd h)
theorem grown_below {w w' : World} (h : Below w.heap.size w w') : w.grownBy w' none := ⟨h.os, h.tape, h.output, h.size, fun k hk _ => h.block k hk⟩
/-- The places up to k. -/
def upF (k : Nat) : List (Fin 256) := (List.finRange 256).take k
theorem upF_succ {k : Nat} (hk : k < 256) : upF (k + 1) = upF k ++ [⟨k, hk⟩] := by
  unfold upF
  rw [List.take_add_one, List.getElem?_eq_getElem (by rw [List.length_finRange]; exact hk)]
  simp
theorem upF_length {k : Nat} (hk : k ≤ 256) : (upF k).length = k := by
  unfold upF
  rw [List.length_take, List.length_finRange]
  omega
/-- Where one has come to when these places are climbed. -/
def foldC (d i : List Int) (ns : List (List Int)) (x : List Int) (pre : List (Fin 256)) : List Int := pre.foldl (fun X (k : Fin 256) => stepL i k.1 X (sibL d ns k.1)) x
theorem foldC_snoc (d i : List Int) (ns : List (List Int)) (x : List Int) (pre : List (Fin 256)) (k : Fin 256) : foldC d i ns x (pre ++ [k]) = stepL i k.1 (foldC d i ns x pre) (sibL d ns k.1) := by
  simp [foldC]
theorem foldC_up (d i : List Int) (ns : List (List Int)) (x : List Int) : ∀ {k : Nat}, k ≤ 256 → foldC d i ns x (upF k) = climbK d i ns x k
  | 0, _ => rfl
  | k + 1, h => by rw [upF_succ (by omega), foldC_snoc, foldC_up d i ns x (by omega)]; rfl
theorem Dg.foldC {x : List Int} (hx : Dg x) (d i : List Int) (ns : List (List Int)) (pre : List (Fin 256)) : Dg (foldC d i ns x pre) := by
  rcases List.eq_nil_or_concat pre with rfl | ⟨l, a, rfl⟩
  · exact hx
  · rw [List.concat_eq_append, foldC_snoc]; exact Dg.stepL _ _ _ _
theorem Dg.sibL {w : World} {d : List Int} {ad : Option Addr} {len cap : Nat} {ns : List (List Int)} (hn : knN d 256 = len) (hns : DigsAt w ad len cap ns) {k : Nat} (hk : k < 256) : Dg (sibL d ns k) := by
  unfold Go.Proofs.YthaicocfbmpnmaaDoor.sibL
  split
  · rename_i h
    have h1 : knN d (k + 1) = knN d k + (if knB d k then 1 else 0) := rfl
    rw [if_pos h] at h1
    have h2 := knN_mono d (show k + 1 ≤ 256 by omega)
    exact Dg.getD hns.each (by rw [hns.length]; omega)
  · exact Dg.emptyL k
end Go.Proofs.YthaicocfbmpnmaaDoor
namespace Go.Proofs.YthaicocfbmpnmaaDoor
set_option maxRecDepth 100000
open Go.ChangeShapes Go.WideShapes Go.ChangeAt Go.RowKit Go.Shelf
attribute [local go_sem] Oper.semAt_some
theorem quiet_cut_l {op : Oper} {a : Act} {C : World → Prop} {K : Act → Prop} (x y : Operand) (ho : op.op = .slice 27 x (some y) none none) (a0 : Option Addr) (len cap n : Nat) (v : Int) (hx : a.eval x = .slice a0 len cap) (hy : a.eval y = .int .i64 v) (hv : v = n) (hn : n ≤ len)
    (h : K (a.put op.dst (.slice (cutD a0 n cap) (len - n) (cap - n)))) : op.quiet Tryd.prog a C K :=
  ⟨.slice (cutD a0 n cap) (len - n) (cap - n), fun w' _ => by
    subst hv
    have hr := run_cutd_l (P := Tryd.prog) Tryd.underlying27 size_digest a0 len cap (n : Int) w' (by omega) (by omega)
    rw [Int.toNat_natCast] at hr
    have he : Tryd.prog.elem 27 = 23 := by simp [Program.elem, Tryd.underlying27]
    have hs := run_sliceAt_slice (P := Tryd.prog) (w := w') 27 (.slice a0 len cap) (some (.int .i64 n)) none none (by rw [he]; exact Tryd.underlying27)
    rw [hr] at hs
    unfold Oper.quietAt execOp
    simp only [ho, hx, hy, Option.map_none, Option.map_some, Sem.run_bind, Sem.run_pure, Result.andThen_ok, hs]
    simp [Oper.quietUpon], h⟩
theorem cut_one {w : World} {a : Option Addr} {len cap q : Nat} {ns : List (List Int)} (h : DigsAt w a (len - q) (cap - q) (ns.drop q)) (hq : q + 1 ≤ len) : DigsAt w (cutD a 1 (cap - q)) (len - (q + 1)) (cap - (q + 1)) (ns.drop (q + 1)) := by
  have h1 := h.cut 1 (len - q) (by omega) (Nat.le_refl _)
  rw [List.drop_drop, List.take_of_length_le (by have := h.length; rw [List.length_drop] at this; rw [List.length_drop]; omega), Nat.sub_sub, Nat.sub_sub, show q + 1 = q + 1 from rfl] at h1
  exact h1
set_option maxHeartbeats 4000000 in
theorem siblings_stops (n : Nat) (d : List Int) (ad : Option Addr) (len cap : Nat) (ns : List (List Int)) (pb : Nat) (w W0 : World) (hd : Dg d) (hn : knN d 256 = len) (hns : DigsAt w ad len cap ns) (hB : Below w.heap.size w W0) (hpb : w.heap.size < pb) (hk : Blk W0 pb (prC d (.slice ad len cap)).toArray 46) (tab : ShaTab W0) :
    SeqStopsK Fence.wide n Tryd.prog 86 #[.pointer (some ⟨pb, 0, none⟩)] (fun k : Fin 256 => #[.int .i64 (k.1 : Int), .agg ((sibL d ns k.1).map (Value.int .u8)).toArray]) (KeepC w.heap.size) (fun ys => ys = upF 256) (fun pre => ∃ k, k ≤ 256 ∧ pre = upF k) 256 W0 := fun l J Jx W hW hJ hJx hY h0 => by
  have HK := hid (hk.below hW)
  have HB := hid (Below.on hB hW)
  have HT := hid (tab.below hW)
  have HNS := hid hns
  have HY := hid hY
  have HJ := hid hJ
  have H0 := hid h0
  have hpl := HK.out.lt
  have hws := HB.out.size
  have CE := hid (fun (W : World) (t : ShaTab W) => empty_any W t)
  have hEe := hid (empN_each 257)
  have hEl := hid (empN_length 257)
  have hEg := hid (fun (k : Nat) (h : k < 257) => empN_get (n := 257) (k := k) h)
  generalize empN 257 = es at *
  have c1 : W.cell? ⟨pb, 32, none⟩ = some (.slice ad len cap) := prC_nodes hd HK.out
  clear hW hB tab hns hY hJ hJx h0 hk
  refine callsIn_of_wp Tryd.func86 rfl trivial ?_ rfl
  simp only [Tryd.ntmps86, List.size_toArray, List.length_cons, List.length_nil, Nat.reduceAdd, Nat.reduceSub, Array.replicate_succ, Array.replicate_zero, List.push_toArray, List.append_toArray, List.nil_append, List.cons_append]
  apply wpIn_seq_k
  intro _ _
  refine wpIn_region_as rfl rfl ?_
  go_wp2_with fail
  apply wpIn_seq_k
  intro _ _
  refine wpIn_region_as rfl rfl ?_
  go_wp2_with fail
  refine (CE.out _ HT.out).mono ?_
  rintro e w1 ⟨rfl, b1, k1⟩
  have HK1 := hid (HK.out.below b1)
  have HB1 := hid (Below.on HB.out b1)
  have hb1s := b1.size
  have HG1 := hid k1
  have HJ1 := hid (HJ.out [] W w1 none H0.out (grown_below b1) (by intro r e; cases e))
  have hcut : ∀ W' : World, (Instr.slice 27 (.slice (some ⟨W.heap.size, 0, none⟩) 257 257) none (some (.int .i64 256)) none).run Tryd.prog W' = .ok (.slice (some ⟨W.heap.size, 0, none⟩) 256 257) W' := fun W' => by
    have h := run_cutd_h (P := Tryd.prog) Tryd.underlying27 size_digest (some ⟨W.heap.size, 0, none⟩) 257 257 256 W' (by omega) (by omega)
    exact h
  clear b1 k1 c1
  go_wp2_with fail
  apply wpIn_block
  gi_loopw [3, 11] (fun rv kv wr => ∃ k : Nat, k ≤ 256 ∧ kv = .int .i64 k ∧ (∃ ra, rv = .slice ra (len - knN d k) (cap - knN d k) ∧ DigsAt w ra (len - knN d k) (cap - knN d k) (ns.drop (knN d k))) ∧ J (upF k) wr ∧ Below w.heap.size w wr ∧ Blk wr pb (prC d (.slice ad len cap)).toArray 46 ∧ Blk wr W.heap.size (dcs es) 23) (fun _ kv _ => 256 - (intOf kv).toNat)
  case atStart => exact ⟨0, Nat.zero_le _, rfl, ⟨ad, rfl, by rw [show knN d 0 = 0 from rfl]; exact HNS.out⟩, HJ1.out, HB1.out, HK1.out, HG1.out⟩
  case round =>
    obtain ⟨k, hk, rfl, ⟨ra, rfl, hra⟩, hj, bel, kp, kg⟩ := hrel
    have HRA := hid hra
    have HKr := hid kp
    have HGr := hid kg
    have HBr := hid bel
    have HJr := hid hj
    have hsr := bel.size
    have hplr := kp.lt
    have hglr := kg.lt
    clear kp kg bel hj hra
    by_cases hlt : k < 256
    · skip
      have hc0 : (k : Int) < 256 := by omega
      apply wpIn_seq_k
      intro _ _
      refine wpIn_region_as rfl rfl ?_
      go_wp2_with fail
      apply wpIn_seq_k
      intro _ _
      refine wpIn_cond_true rfl ?_
      apply wpIn_skip
      gi_step
      gi_step
      apply wpIn_seq_k
      intro _ _
      apply wpIn_block
      apply wpIn_seq_k
      intro _ _
      have hE : es.getD k [] = emptyL k := hEg.out k (by omega)
      have HE := hid (Dg.emptyL k)
      have Hr0 := hid (by have h := dig_rng HGr.out hEe.out (j := k) (by rw [hEl.out]; omega); rw [hE] at h; exact h)
      clear hE
      refine wpIn_region_as rfl rfl ?_
      go_wp2_with (first
               | (refine wpList_index_digs rfl 27 _ _ rfl Tryd.underlying27 size_digest W.heap.size 0 256 257 rfl _ _ rfl k rfl (by omega) ?_)
               | (refine wpList_load_mid rfl 23 _ rfl W.heap.size (0 + k * 32) rfl _ _ Hr0.out Tryd.underlying23 rfl (by rw [List.length_map, HE.out.len]; exact size_digest) ?_)
               | (
               refine wpList_store_blk rfl 23 _ _ rfl (wr.heap.size) ((emptyL k).map (Value.int .u8)).toArray rfl rfl _ 23 (Blk.new rfl (byteCells 32 []) _) 32 size_digest zsize HE.out.size (ints_one _ _) ?_
               intro w2 hb2 hk2
               have b2 := hb2.below ((Below.refl wr.heap.size wr).alloc (Nat.le_refl _) _) (by simp only [World.size_alloc]; omega) (Nat.le_refl _)
               have HB2 := hid b2
               have hs2 := b2.size
               have HK2 := hid (HKr.out.below b2)
               have HG2 := hid (HGr.out.below b2)
               have HS2 := hid hk2
               have hsl2 := hk2.lt
               clear hb2 hk2 b2))
      apply wpIn_seq_k
      intro _ _
      apply wpIn_seq_k
      intro _ _
      have hxx := dg_at hd (k / 8)
      have hlen := hd.len
      have hxe : w2.cell? ⟨pb, k / 8, none⟩ = some (.int .u8 (d.getD (k / 8) 0)) := by
        have h := prC_known HK2.out (k / 8) (.int .u8 (d.getD (k / 8) 0)) (by rw [List.getElem?_map, List.getD_eq_getElem?_getD, List.getElem?_eq_getElem (by omega)]; rfl)
        rw [Nat.zero_add] at h
        exact h
      have hI0 : ¬ (k : Int) / 8 < 0 := by omega
      have hI1 : ¬ (32 : Int) ≤ (k : Int) / 8 := by omega
      have hI2 : ¬ (k : Int) % 8 < 0 := by omega
      have hkb : knB d k = decide (d.getD (k / 8) 0 / 2 ^ (k % 8) % 2 = 1) := rfl
      have hsn : knN d (k + 1) = knN d k + (if knB d k then 1 else 0) := rfl
      have hsb : sibL d ns k = if knB d k then ns.getD (knN d k) [] else emptyL k := rfl
      have hmn := knN_mono d (show k + 1 ≤ 256 by omega)
      have HSd := hid (Dg.sibL hn HNS.out (k := k) (by omega))
      have HYk := hid (HY.out (upF k) ⟨k, hlt⟩)
      dsimp only at HYk
      generalize d.getD (k / 8) 0 = x at *
      have h2 : 0 ≤ x / 2 ^ (k % 8) ∧ x / 2 ^ (k % 8) < 256 := ⟨Int.ediv_nonneg hxx.1 (Int.le_of_lt (Int.pow_pos (by omega))), Int.lt_of_le_of_lt (Int.ediv_le_self _ hxx.1) hxx.2⟩
      have hbt := and_one' h2
      generalize sibL d ns k = Sb at *
      cases hB : knB d k
      · skip
        rw [hB] at hkb hsn hsb
        clear hB
        have hc1 : (bits .and .u8 (x / 2 ^ (k % 8)) 1 == 1) = false := by
          rw [hbt]
          have := of_decide_eq_false hkb.symm
          simpa using this
        rw [if_neg (by simp)] at hsn hsb
        rw [Nat.add_zero] at hsn
        rw [← hsb] at HS2
        generalize hq : knN d k = q at *
        have HN := hid hsn
        have HQ := hid hq
        have HSB := hid hsb
        clear hbt hkb hsn hq hsb h2 hxx
        refine wpIn_region_as rfl rfl ?_
        go_wp2_with fail
        refine wpIn_cond_false rfl ?_
        apply wpIn_skip
        gi_step
        gi_step
        have HJY := hid (HJ.out (upF k) wr w2 none HJr.out (grown_below HB2.out) (by intro r e; cases e))
        have HBY := hid (Below.on HBr.out HB2.out)
        have HKY := hid HK2.out
        have HGY := hid HG2.out
        have HSY := hid HS2.out
        have hsY := HBY.out.size
        obtain ⟨fn, tmps, assign, body, hy, hR⟩ := HYk.out w2 HJY.out (by rw [upF_length (by omega)]; exact hlt)
        have HR := hid hR
        clear hR
        apply wpIn_seq_k
        intro _ _
        apply wpIn_region_lit
        gi_wp2_with (refine wpListIn_one (F := Fence.wide) rfl rfl ?_; refine wpList_load_blk rfl 23 _ rfl (wr.heap.size) rfl _ 23 HSY.out _ Tryd.underlying23 rfl 32 size_digest HSd.out.size ?_; refine wpList_nil ⟨rfl, ?_⟩)
        refine ⟨fun h => (by simp [Fence.wide] at h), HR.out.mono ?_⟩
        rintro e W3 (⟨rfl, hJ3, hk3⟩ | ⟨rfl, hJx3⟩)
        · skip
          have HJ3 := hid hJ3
          have HK3 := hid hk3
          clear hJ3 hk3
          gi_wp2_with fail
          go_roundw
          case rel => exact ⟨k + 1, by omega, by simp, ⟨ra, by simp only [HN.out, Nat.add_zero], by simp only [HN.out, Nat.add_zero]; exact HRA.out⟩, by rw [upF_succ hlt]; exact HJ3.out, HBY.out.trans HK3.out.low, HK3.out.blk HKY.out (by omega), HK3.out.blk HGY.out (by omega)⟩
          case measure => simp [intOf]; omega
        · skip
          have HJ3 := hid hJx3
          clear hJx3
          gi_wp2_with fail
          refine bodyPost_ret (results_none rfl _ _ _) rfl ?_
          exact ⟨⟨_, rfl⟩, .inr ⟨_, ⟨k + 1, by omega, rfl⟩, by rw [upF_succ hlt]; exact HJ3.out⟩⟩
      · skip
        rw [hB] at hkb hsn hsb
        clear hB
        have hc1 : (bits .and .u8 (x / 2 ^ (k % 8)) 1 == 1) = true := by
          rw [hbt]
          have := of_decide_eq_true hkb.symm
          simpa using this
        rw [if_pos rfl] at hsn hsb
        generalize hq : knN d k = q at *
        have hql : q + 1 ≤ len := by omega
        have HN := hid hsn
        have HQ := hid hq
        have HSB := hid hsb
        clear hbt hkb hsn hq hsb h2 hxx
        obtain ⟨g, ro, rfl, hg, hr⟩ := HRA.out.at_ (by omega)
        have Hr1 := hid (by have h := hr 0 (by omega); rw [show (ns.drop q).getD 0 [] = ns.getD q [] by simp [List.getD_eq_getElem?_getD], ← HSB.out] at h; exact h)
        clear hr
        refine wpIn_region_as rfl rfl ?_
        go_wp2_with fail
        refine wpIn_cond_true rfl ?_
        refine wpIn_wide.2 ?_
        refine FlowB.wp_region_butIn [wr.heap.size] (fun wz => Blk wz wr.heap.size ((emptyL k).map (Value.int .u8)).toArray 23) 6 [0, 1, 2, 3, 4] [] [(.c 5, [], [])] (by kernel_rfl) (by kernel_rfl) HS2.out (fun _ _ h hb => h.below hb) ?_
        apply Exists.intro
        refine ⟨fun w0 hb0 hF0 => ?_, ?_⟩
        · skip
          have yr : ∀ w', (∃ x : Ext w0, w' = x.at_) → w'.rangeAt g (ro + 0 * 32) (Sb.map (Value.int .u8)) := fun w' ⟨x, hx⟩ => by
            rw [hx]
            exact rangeAt_below (w := w0) (fun j v hv => by
              have h1 := HB2.out
              rw [show w0.cell? ⟨g, ro + 0 * 32 + j, none⟩ = w.cell? ⟨g, ro + 0 * 32 + j, none⟩ from (hb0.below (Below.on HBr.out h1) (by have := h1.size; omega) (by intro b hb; simp only [List.mem_singleton] at hb; omega)).cell (p := ⟨g, ro + 0 * 32 + j, none⟩) hg]
              exact Hr1.out j v hv) (by have := hb0.size; have := HB2.out.size; omega) x.same
          simp only [pick, List.getElem?_toArray, List.getElem?_cons_succ, List.getElem?_cons_zero, Option.toList_some, List.cons_append, List.nil_append]
          repeat (first | (go_big_quiet_want; refine quiet_index_digs 27 _ _ rfl Tryd.underlying27 size_digest g ro (len - q) (cap - q) rfl _ _ rfl 0 rfl (by omega) ?_; go_big_quiet_on; simp only [Act.put, List.setIfInBounds_toArray, List.set_cons_zero, List.set_cons_succ]) | (go_big_quiet_want; refine quiet_load_mid 23 _ rfl g (ro + 0 * 32) rfl _ yr _ Tryd.underlying23 rfl (by rw [List.length_map, HSd.out.len]; exact size_digest) ?_; go_big_quiet_on; simp only [Act.put, List.setIfInBounds_toArray, List.set_cons_zero, List.set_cons_succ]) | (go_big_quiet_want; refine quiet_cut_l _ _ rfl (some ⟨g, ro, none⟩) (len - q) (cap - q) 1 _ rfl rfl rfl (by omega) ?_; go_big_quiet_on; simp only [Act.put, List.setIfInBounds_toArray, List.set_cons_zero, List.set_cons_succ]) | go_big_quiet_step (fail))
          exact wpQuiet_nil rfl
        refine FlowB.AlChk.nil ?_
        refine FlowB.Walk.skips rfl (fun wz => Blk wz wr.heap.size (Sb.map (Value.int .u8)).toArray 23) (fun _ _ h hb => h.below hb) rfl (fun w1 hb1 hF1 hG1 => ?_) ?_
        · exact FlowB.store_skips 23 _ _ rfl (wr.heap.size) (Sb.map (Value.int .u8)).toArray rfl rfl _ 23 hG1 32 size_digest HE.out.size HSd.out.size (ints_one _ _) (by simp) (fun w2 h2 h3 => h3)
        intro w1 hb1 hF1
        apply Exists.intro
        refine ⟨fun w2 hb2 hF2 => wpQuiet_nil rfl, ?_⟩
        refine FlowB.AlChk.nil ?_
        refine FlowB.Walk.fin fun w4 h4 _ hG4 => ?_
        simp only [List.drop_succ_cons, List.drop_zero]
        have HB4 := hid (h4.below HB2.out (by have := HB2.out.size; omega) (by intro b hb; simp only [List.mem_singleton] at hb; omega))
        have HK4 := hid (h4.blk HK2.out (by simp only [List.mem_singleton]; omega))
        have HG4 := hid (h4.blk HG2.out (by simp only [List.mem_singleton]; omega))
        have HS4 := hid hG4
        clear h4 hG4 hb1 hF1
        go_wp2_with fail
        have HJY := hid (HJ.out (upF k) wr w4 none HJr.out (grown_below HB4.out) (by intro r e; cases e))
        have HBY := hid (Below.on HBr.out HB4.out)
        have HKY := hid HK4.out
        have HGY := hid HG4.out
        have HSY := hid HS4.out
        have hsY := HBY.out.size
        obtain ⟨fn, tmps, assign, body, hy, hR⟩ := HYk.out w4 HJY.out (by rw [upF_length (by omega)]; exact hlt)
        have HR := hid hR
        clear hR
        apply wpIn_seq_k
        intro _ _
        apply wpIn_region_lit
        gi_wp2_with (refine wpListIn_one (F := Fence.wide) rfl rfl ?_; refine wpList_load_blk rfl 23 _ rfl (wr.heap.size) rfl _ 23 HSY.out _ Tryd.underlying23 rfl 32 size_digest HSd.out.size ?_; refine wpList_nil ⟨rfl, ?_⟩)
        refine ⟨fun h => (by simp [Fence.wide] at h), HR.out.mono ?_⟩
        rintro e W3 (⟨rfl, hJ3, hk3⟩ | ⟨rfl, hJx3⟩)
        · skip
          have HJ3 := hid hJ3
          have HK3 := hid hk3
          clear hJ3 hk3
          gi_wp2_with fail
          go_roundw
          case rel => exact ⟨k + 1, by omega, by simp, ⟨_, by rw [HN.out]; first | rfl | simp [Nat.sub_sub], by rw [HN.out]; exact cut_one HRA.out (by omega)⟩, by rw [upF_succ hlt]; exact HJ3.out, HBY.out.trans HK3.out.low, HK3.out.blk HKY.out (by omega), HK3.out.blk HGY.out (by omega)⟩
          case measure => simp [intOf]; omega
        · skip
          have HJ3 := hid hJx3
          clear hJx3
          gi_wp2_with fail
          refine bodyPost_ret (results_none rfl _ _ _) rfl ?_
          exact ⟨⟨_, rfl⟩, .inr ⟨_, ⟨k + 1, by omega, rfl⟩, by rw [upF_succ hlt]; exact HJ3.out⟩⟩
    · skip
      have hk7 : k = 256 := by omega
      subst hk7
      have hc0 : ¬ ((256 : Int) < 256) := by omega
      gi_wp2_with fail
      go_end0
      exact ⟨⟨_, rfl⟩, .inl HJr.out⟩
end Go.Proofs.YthaicocfbmpnmaaDoor
namespace Go.Proofs.YthaicocfbmpnmaaDoor
set_option maxRecDepth 100000
open Go.ChangeShapes Go.WideShapes Go.ChangeAt Go.RowKit Go.Shelf
attribute [local go_sem] Oper.semAt_some
theorem Blk.grownC {W W' : World} {b : Nat} {cs : Array Value} {T : TypeId} {row : Option Nat} (h : Blk W b cs T) (hg : W.grownBy W' row) (hr : ∀ r, row = some r → ∃ o : Obj, W.heap[r]? = some o ∧ o.isCells = false) : Blk W' b cs T :=
  (hg.block b h.lt (fun e => by obtain ⟨o, ho, hc⟩ := hr b e.symm; rw [show W.heap[b]? = _ from h] at ho; cases ho; cases hc)).trans h
theorem bitL_two (d : List Int) (k : Nat) : bitL d k = 0 ∨ bitL d k = 1 := by
  unfold bitL
  omega
set_option maxHeartbeats 4000000 in
theorem climb_good (x i d : List Int) (ad : Option Addr) (len cap : Nat) (ns : List (List Int)) (w : World) (hx : Dg x) (hi : Dg i) (hd : Dg d) (hn : knN d 256 = len) (hns : DigsAt w ad len cap ns) (tab : ShaTab w) :
    Calls Tryd.prog 29 #[.agg (x.map (Value.int .u8)).toArray, .agg (i.map (Value.int .u8)).toArray, .agg (prC d (.slice ad len cap)).toArray] w fun e w' => e = .returned (.tuple #[.agg ((climbK d i ns x 256).map (Value.int .u8)).toArray, .int .i64 0]) ∧ Below w.heap.size w w' := by
  have b1 := (Below.refl w.heap.size w).alloc (Nat.le_refl _) (.cells (x.map (Value.int .u8)).toArray 23 (0, 0))
  have b2 := b1.alloc b1.size (.cells (i.map (Value.int .u8)).toArray 23 (0, 0))
  have b3 := b2.alloc b2.size (.cells (prC d (.slice ad len cap)).toArray 46 (0, 0))
  have b4 := b3.alloc b3.size (.cells (byteCells 32 []) 23 (0, 0))
  have Kx := hid ((((Blk.new (w := w) (n := w.heap.size) rfl (x.map (Value.int .u8)).toArray 23).old (.cells (i.map (Value.int .u8)).toArray 23 (0, 0))).old (.cells (prC d (.slice ad len cap)).toArray 46 (0, 0))).old (.cells (byteCells 32 []) 23 (0, 0)))
  have Ki := hid (((Blk.new (w := (w.alloc (.cells (x.map (Value.int .u8)).toArray 23 (0, 0)))) (n := w.heap.size + 1) (by simp only [World.size_alloc]) (i.map (Value.int .u8)).toArray 23).old (.cells (prC d (.slice ad len cap)).toArray 46 (0, 0))).old (.cells (byteCells 32 []) 23 (0, 0)))
  have Kp := hid ((Blk.new (w := ((w.alloc (.cells (x.map (Value.int .u8)).toArray 23 (0, 0))).alloc (.cells (i.map (Value.int .u8)).toArray 23 (0, 0)))) (n := w.heap.size + 1 + 1) (by simp only [World.size_alloc]) (prC d (.slice ad len cap)).toArray 46).old (.cells (byteCells 32 []) 23 (0, 0)))
  have Kr := hid (Blk.new (w := (((w.alloc (.cells (x.map (Value.int .u8)).toArray 23 (0, 0))).alloc (.cells (i.map (Value.int .u8)).toArray 23 (0, 0))).alloc (.cells (prC d (.slice ad len cap)).toArray 46 (0, 0)))) (n := w.heap.size + 1 + 1 + 1) (by simp only [World.size_alloc]) (byteCells 32 []) 23)
  have Hb := hid b4
  have hbz := b4.size
  have Hbs := hid (show w.heap.size + 1 + 1 + 1 + 1 = ((((w.alloc (.cells (x.map (Value.int .u8)).toArray 23 (0, 0))).alloc (.cells (i.map (Value.int .u8)).toArray 23 (0, 0))).alloc (.cells (prC d (.slice ad len cap)).toArray 46 (0, 0))).alloc (.cells (byteCells 32 []) 23 (0, 0))).heap.size by simp only [World.size_alloc])
  have Htab := hid tab
  clear b1 b2 b3 b4 tab 
  have CK := hid (fun W : World => complete_any d ad len cap W hd)
  rw [decide_eq_true hn] at CK
  have CS := hid (fun W : World => siblings_any d ad len cap W)
  have CN := hid (fun (a b : List Int) (ha : Dg a) (hb : Dg b) (W : World) (t : ShaTab W) => lonode_any a b W ha hb t)
  have CB := hid (fun (k : Nat) (hk : k < 256) (W : World) => bit_in i k W hi hk)
  refine (callsIn_wide (n := 7)).1 ?_
  refine callsIn_of_wp_marks Tryd.func29 rfl trivial ?_ rfl
  simp only [Tryd.ntmps29, List.size_toArray, List.length_cons, List.length_nil, Nat.reduceAdd, Nat.reduceSub, Array.replicate_succ, Array.replicate_zero, List.push_toArray, List.append_toArray, List.nil_append, List.cons_append]
  apply wpIn_seq_k
  intro _ _
  refine wpIn_region_as rfl rfl ?_
  go_wp2_with fail
  apply wpIn_seq_k
  intro _ _
  apply wpIn_seq_k
  intro _ _
  refine wpIn_region_as rfl rfl ?_
  go_wp2_with (refine wpList_load_blk rfl 46 _ rfl (w.heap.size + 1 + 1) rfl _ 46 Kp.out _ Tryd.underlying46 rfl 33 size_proof (prC_size hd _) ?_)
  refine (CK.out _).mono ?_
  rintro e w1 ⟨rfl, bw1⟩
  have HBw1 := hid (Below.on Hb.out bw1)
  have hsw1 := HBw1.out.size
  have Kxw1 := hid (Kx.out.below bw1)
  have Kiw1 := hid (Ki.out.below bw1)
  have Kpw1 := hid (Kp.out.below bw1)
  have Krw1 := hid (Kr.out.below bw1)
  clear bw1
  go_wp2_with fail
  refine wpIn_cond_false rfl ?_
  apply wpIn_skip
  gi_step
  gi_step
  apply wpIn_seq_k
  intro _ _
  apply wpIn_seq_k
  intro _ _
  refine wpIn_region_as rfl rfl ?_
  go_wp2_with (refine wpList_load_blk rfl 46 _ rfl (w.heap.size + 1 + 1) rfl _ 46 Kpw1.out _ Tryd.underlying46 rfl 33 size_proof (prC_size hd _) ?_)
  refine (CS.out _).mono ?_
  rintro e w2 ⟨rfl, b2, k2⟩
  have KQ := hid k2
  clear k2
  have HBw2 := hid (Below.on HBw1.out b2)
  have hsw2 := HBw2.out.size
  have Kxw2 := hid (Kxw1.out.below b2)
  have Kiw2 := hid (Kiw1.out.below b2)
  have Kpw2 := hid (Kpw1.out.below b2)
  have Krw2 := hid (Krw1.out.below b2)
  clear b2
  go_wp2_with fail
  apply wpIn_block
  have hns2 := hns
  have hsz : w.heap.size + 1 + 1 + 1 + 1 ≤ w1.heap.size := by have := Krw1.out.lt; omega
  have hsy : w1.heap.size < w2.heap.size := KQ.out.lt
  have htb := Htab.out.below HBw2.out
  refine wpIn_rangeFunc_ownH rfl (by omega) (gf := 86) (lb := #[.pointer (some ⟨w1.heap.size, 0, none⟩)]) rfl trivial (enters_of Tryd.func86 (by kernel_rfl) rfl)
    (siblings_stops _ d ad len cap ns w1.heap.size w w2 hd hn hns HBw2.out (by omega) KQ.out htb)
    (fun h k => h.trans k) (fun W l o o' hl h ho _ => KeepC.putObj (n := w2.heap.size) (by omega) W l o o' hl h ho) (Below.refl _ _) (fun _ => rfl)
    (fun pre W => (Blk W w.heap.size ((foldC d i ns x pre).map (Value.int .u8)).toArray 23 ∧ Blk W (w.heap.size + 1) (i.map (Value.int .u8)).toArray 23 ∧ Blk W (w.heap.size + 1 + 1 + 1) (byteCells 32 []) 23) ∧ Below w.heap.size w W)
    (fun _ _ _ => False)
    (OwnFrom.and (Own.from (fun s A B row hs hg hr => ⟨hs.1.grownC hg hr, hs.2.1.grownC hg hr, hs.2.2.grownC hg hr⟩) _) (ownFrom_below (Nat.le_refl _) (by omega)))
    (fun _ _ _ _ _ hs _ _ => hs)
    ⟨⟨Kxw2.out, Kiw2.out, Krw2.out⟩, HBw2.out⟩
    (fun k a' W => ∃ Bx, Blk W Bx ((sibL d ns k.1).map (Value.int .u8)).toArray 23 ∧ a' = { tmps := #[.agg (x.map (Value.int .u8)).toArray, .agg (i.map (Value.int .u8)).toArray, .agg (prC d (.slice ad len cap)).toArray, .pointer (some ⟨w.heap.size, 0, none⟩), .pointer (some ⟨w.heap.size + 1, 0, none⟩), .pointer (some ⟨w.heap.size + 1 + 1, 0, none⟩), .pointer (some ⟨w.heap.size + 1 + 1 + 1, 0, none⟩), .int .i64 0, .int .i64 (k.1 : Int), .pointer (some ⟨Bx, 0, none⟩), .agg (prC d (.slice ad len cap)).toArray, .bool true, .bool false, undef, .agg (prC d (.slice ad len cap)).toArray, .func (.func 86) #[] #[.pointer (some ⟨w1.heap.size, 0, none⟩)], .int .i64 (k.1 : Int), .agg ((sibL d ns k.1).map (Value.int .u8)).toArray, undef, undef, undef, undef, undef, undef, undef, undef, undef, undef, undef], defers := [] })
    (fun k a' => fun _ A B row hs hg hr => by
      obtain ⟨Bx, h2, h3⟩ := hs
      exact ⟨Bx, h2.grownC hg (fun r e => (hr r e).2), h3⟩) ?assign ?body ?done ?stop
  case stop =>
    rintro D c pre W _ _ h _
    exact h.elim
  case assign =>
    rintro l pre k W K hi hK
    apply wpIn_seq_k
    intro _ _
    refine wpIn_region_as rfl rfl ?_
    go_wp2_with fail
    have HSd := hid (Dg.sibL hn hns k.2)
    have HW := hid hi
    clear hi
    refine wpIn_region_as rfl rfl ?_
    go_wp2_with (
          refine wpList_store_blk rfl 23 _ _ rfl (W.heap.size) ((sibL d ns k.1).map (Value.int .u8)).toArray rfl rfl _ 23 (Blk.new rfl (byteCells 32 []) _) 32 size_digest zsize HSd.out.size (ints_one _ _) ?_
          intro w3 hb3 hk3
          have b3 := hb3.below ((Below.refl W.heap.size W).alloc (Nat.le_refl _) _) (by simp only [World.size_alloc]; omega) (Nat.le_refl _)
          have HB3 := hid b3
          have HK3 := hid hk3
          clear hb3 hk3 b3)
    have hWs := HW.out.2.size
    exact hK _ _ (keepsFrom_below HB3.out) (KeepC.of_below (by omega) HB3.out) ⟨⟨HW.out.1.1.below HB3.out, HW.out.1.2.1.below HB3.out, HW.out.1.2.2.below HB3.out⟩, Below.on HW.out.2 HB3.out⟩ ⟨W.heap.size, HK3.out, rfl⟩
  case body =>
    rintro l pre k a' W hl _ ⟨⟨kx, ki, kr⟩, bel⟩ ⟨Bx, kb, rfl⟩ _
    have HX := hid kx
    have HI := hid ki
    have HR := hid kr
    have HS := hid kb
    have HBW := hid bel
    have hbl := bel.size
    have hxl := kx.lt
    have hil := ki.lt
    have hrl := kr.lt
    have hsl := kb.lt
    have htW := hid (Htab.out.below bel)
    clear kx ki kr kb bel
    have HSd := hid (Dg.sibL hn hns k.2)
    have HFd := hid (Dg.foldC hx d i ns pre)
    have HF := hid (foldC_snoc d i ns x pre k)
    have HI0 := hid hi
    obtain ⟨k, hk⟩ := k
    dsimp only at *
    generalize sibL d ns k = Sb at *
    generalize foldC d i ns x pre = X at *
    apply wpIn_block
    apply wpIn_seq_k
    intro _ _
    refine wpIn_region_as rfl rfl ?_
    go_wp2_with (refine wpList_load_blk rfl 23 _ rfl (w.heap.size + 1) rfl _ 23 HI.out _ Tryd.underlying23 rfl 32 size_digest HI0.out.size ?_)
    refine (CB.out k hk _).mono ?_
    rintro e w5 ⟨rfl, b5⟩
    have HX5 := hid (HX.out.below b5)
    have HI5 := hid (HI.out.below b5)
    have HR5 := hid (HR.out.below b5)
    have HS5 := hid (HS.out.below b5)
    have HB5 := hid b5
    have hs5 := b5.size
    have ht5 := hid (htW.out.below b5)
    clear b5
    by_cases hq : bitL i k = 0
    · skip
      have HST : Hid (stepL i k X Sb = nodeL X Sb) := hid (by unfold stepL; rw [if_pos hq])
      rw [hq]
      clear hq
      go_wp2_with fail
      refine wpIn_cond_true rfl ?_
      refine wpIn_region_as rfl rfl ?_
      go_wp2_with (first | (refine wpList_load_blk rfl 23 _ rfl (w.heap.size) rfl _ 23 HX5.out _ Tryd.underlying23 rfl 32 size_digest HFd.out.size ?_) | (refine wpList_load_blk rfl 23 _ rfl (Bx) rfl _ 23 HS5.out _ Tryd.underlying23 rfl 32 size_digest HSd.out.size ?_))
      refine (CN.out X Sb HFd.out HSd.out _ ht5.out).mono ?_
      rintro e w6 ⟨rfl, b6⟩
      have HX6 := hid (HX5.out.below b6)
      have HI6 := hid (HI5.out.below b6)
      have HR6 := hid (HR5.out.below b6)
      have HB6 := hid (Below.on HB5.out b6)
      have HNd := hid (Dg.nodeL X Sb)
      have hs6 := b6.size
      generalize nodeL X Sb = T at *
      clear b6
      go_wp2_with (
         refine wpList_store_blk rfl 23 _ _ rfl (w.heap.size) (T.map (Value.int .u8)).toArray rfl rfl _ 23 HX6.out 32 size_digest HFd.out.size HNd.out.size (ints_one _ _) ?_
         intro w7 hb7 hk7
         have HK7 := hid hk7
         have HN7 := hid hb7
         have HI7 := hid (hb7.blk HI6.out (by omega))
         have HR7 := hid (hb7.blk HR6.out (by omega))
         clear hb7 hk7)
      have h6 := HB6.out
      have h7 := HN7.out
      refine ⟨(keepsFrom_below h6).trans (keepsFrom_but (by omega) h7), (KeepC.of_below (by omega) h6).trans (KeepC.of_but (by omega) h7), ⟨by rw [HF.out, HST.out]; exact HK7.out, HI7.out, HR7.out⟩, h7.below (Below.on HBW.out h6) (by have := h6.size; omega) (Nat.le_refl _)⟩
    · skip
      have HST : Hid (stepL i k X Sb = nodeL Sb X) := hid (by unfold stepL; rw [if_neg hq])
      have hq1 : bitL i k = 1 := by have := bitL_two i k; omega
      rw [hq1]
      clear hq hq1
      go_wp2_with fail
      refine wpIn_cond_false rfl ?_
      refine wpIn_region_as rfl rfl ?_
      go_wp2_with (first | (refine wpList_load_blk rfl 23 _ rfl (w.heap.size) rfl _ 23 HX5.out _ Tryd.underlying23 rfl 32 size_digest HFd.out.size ?_) | (refine wpList_load_blk rfl 23 _ rfl (Bx) rfl _ 23 HS5.out _ Tryd.underlying23 rfl 32 size_digest HSd.out.size ?_))
      refine (CN.out Sb X HSd.out HFd.out _ ht5.out).mono ?_
      rintro e w6 ⟨rfl, b6⟩
      have HX6 := hid (HX5.out.below b6)
      have HI6 := hid (HI5.out.below b6)
      have HR6 := hid (HR5.out.below b6)
      have HB6 := hid (Below.on HB5.out b6)
      have HNd := hid (Dg.nodeL Sb X)
      have hs6 := b6.size
      generalize nodeL Sb X = T at *
      clear b6
      go_wp2_with (
         refine wpList_store_blk rfl 23 _ _ rfl (w.heap.size) (T.map (Value.int .u8)).toArray rfl rfl _ 23 HX6.out 32 size_digest HFd.out.size HNd.out.size (ints_one _ _) ?_
         intro w7 hb7 hk7
         have HK7 := hid hk7
         have HN7 := hid hb7
         have HI7 := hid (hb7.blk HI6.out (by omega))
         have HR7 := hid (hb7.blk HR6.out (by omega))
         clear hb7 hk7)
      have h6 := HB6.out
      have h7 := HN7.out
      refine ⟨(keepsFrom_below h6).trans (keepsFrom_but (by omega) h7), (KeepC.of_below (by omega) h6).trans (KeepC.of_but (by omega) h7), ⟨by rw [HF.out, HST.out]; exact HK7.out, HI7.out, HR7.out⟩, h7.below (Below.on HBW.out h6) (by have := h6.size; omega) (Nat.le_refl _)⟩
  case done =>
    rintro D ys W hD rfl ⟨⟨kx, ki, kr⟩, bel⟩ hK
    rw [foldC_up d i ns x (Nat.le_refl _)] at kx
    have HX := hid kx
    have HR := hid kr
    have HBW := hid bel
    have HCd := hid (Dg.climbK hx d i ns 256)
    generalize climbK d i ns x 256 = T at *
    have HKD := hid hK
    have hbl := bel.size
    have hrl := kr.lt
    have hKl : D < W.heap.size := (Array.getElem?_eq_some_iff.1 hK).1
    clear kx ki kr bel hK
    gi_step
    gi_step
    apply wpIn_seq_k
    intro _ _
    refine wpIn_region_as rfl rfl ?_
    go_wp2_with (first
             | (refine wpList_load_blk rfl 23 _ rfl (w.heap.size) rfl _ 23 HX.out _ Tryd.underlying23 rfl 32 size_digest HCd.out.size ?_)
             | (
                refine wpList_store_blk rfl 23 _ _ rfl (w.heap.size + 1 + 1 + 1) (T.map (Value.int .u8)).toArray rfl rfl _ 23 HR.out 32 size_digest zsize HCd.out.size (ints_one _ _) ?_
                intro w9 hb9 hk9
                have HB9 := hid (hb9.below HBW.out HBW.out.size (by omega))
                have HK9 := hid hk9
                have HD9 := hid ((hb9.block D hKl (by omega)).trans HKD.out)
                clear hb9 hk9))
    apply wpIn_ret
    refine ⟨by simp, .inl ⟨_, _, rfl, run_takeDeferred HD9.out, ?_⟩⟩
    have g9 := grownBy_putObj' w9 D (.deferred none)
    have n9 : ∀ r, some D = some r → ∃ o : Obj, w9.heap[r]? = some o ∧ o.isCells = false := fun r e => by cases e; exact ⟨_, HD9.out, rfl⟩
    refine ⟨_, results_blk_tmp Tryd.results29 _ (w.heap.size + 1 + 1 + 1) rfl _ rfl _ 23 (HK9.out.grownC g9 n9) _ Tryd.underlying23 rfl 32 size_digest HCd.out.size, rfl, HB9.out.trans (belowK_b (w := w) (Nat.le_refl _) w9 D _ _ (by omega) HD9.out rfl rfl)⟩
end Go.Proofs.YthaicocfbmpnmaaDoor
namespace Go.Proofs.YthaicocfbmpnmaaDoor
set_option maxRecDepth 100000
open Go.ChangeShapes Go.WideShapes Go.ChangeAt Go.RowKit
/-- A digest that begins with 1, and with 9. -/
def oneD : List Int := 1 :: List.replicate 31 0
def nineD : List Int := 9 :: List.replicate 31 0
theorem Dg.oneD : Dg oneD := ⟨by decide +kernel, by decide +kernel⟩
theorem Dg.nineD : Dg nineD := ⟨by decide +kernel, by decide +kernel⟩
theorem cells_one : (prC oneD (.slice none 0 0)).toArray = #[.int .u8 1, .int .u8 0, .int .u8 0, .int .u8 0, .int .u8 0, .int .u8 0, .int .u8 0, .int .u8 0, .int .u8 0, .int .u8 0, .int .u8 0, .int .u8 0, .int .u8 0, .int .u8 0, .int .u8 0, .int .u8 0, .int .u8 0, .int .u8 0, .int .u8 0, .int .u8 0, .int .u8 0, .int .u8 0, .int .u8 0, .int .u8 0, .int .u8 0, .int .u8 0, .int .u8 0, .int .u8 0, .int .u8 0, .int .u8 0, .int .u8 0, .int .u8 0, .slice none 0 0] := by rfl
theorem cells_zero : (prC zD (.slice none 0 0)).toArray = #[.int .u8 0, .int .u8 0, .int .u8 0, .int .u8 0, .int .u8 0, .int .u8 0, .int .u8 0, .int .u8 0, .int .u8 0, .int .u8 0, .int .u8 0, .int .u8 0, .int .u8 0, .int .u8 0, .int .u8 0, .int .u8 0, .int .u8 0, .int .u8 0, .int .u8 0, .int .u8 0, .int .u8 0, .int .u8 0, .int .u8 0, .int .u8 0, .int .u8 0, .int .u8 0, .int .u8 0, .int .u8 0, .int .u8 0, .int .u8 0, .int .u8 0, .int .u8 0, .slice none 0 0] := by rfl
theorem cells_nine : (nineD.map (Value.int .u8)).toArray = #[.int .u8 9, .int .u8 0, .int .u8 0, .int .u8 0, .int .u8 0, .int .u8 0, .int .u8 0, .int .u8 0, .int .u8 0, .int .u8 0, .int .u8 0, .int .u8 0, .int .u8 0, .int .u8 0, .int .u8 0, .int .u8 0, .int .u8 0, .int .u8 0, .int .u8 0, .int .u8 0, .int .u8 0, .int .u8 0, .int .u8 0, .int .u8 0, .int .u8 0, .int .u8 0, .int .u8 0, .int .u8 0, .int .u8 0, .int .u8 0, .int .u8 0, .int .u8 0] := by rfl
theorem one_known : ¬ knN oneD 256 = 0 := by decide +kernel
set_option maxHeartbeats 4000000 in
theorem knows18 (w : World) (tab : ShaTab w) :
    Calls Tryd.prog 28 #[] w fun e w' => e = .returned (.bool true) ∧ Below w.heap.size w w' := by
  have CR := hid (fun (W : World) (t : ShaTab W) => root_none W t)
  have CC := hid (fun (W : World) => climb_bad (emptyL 256) (emptyL 256) oneD none 0 0 W Dg.oneD one_known)
  have HX := hid (Dg.emptyL 256)
  have CA := hid (fun (W : World) (t : ShaTab W) => absent_any (emptyL 256) nineD zD none 0 0 [] true W HX.out Dg.nineD Dg.zero (DigsAt.nil W) t (fun W2 hW2 t2 => by
    have h := leads_ok (emptyL 0) (emptyL 256) nineD zD (emptyL 256) none 0 0 [] W2 (Dg.emptyL 0) HX.out Dg.nineD Dg.zero HX.out hW2 t2 (fun W3 hW3 t3 => by
      have h3 := climb_good (emptyL 0) nineD zD none 0 0 [] W3 (Dg.emptyL 0) Dg.nineD Dg.zero (knN_zero 256) hW3 t3
      rw [climb_zero] at h3
      exact h3)
    rw [decide_eq_true rfl] at h
    exact h))
  rw [cells_one] at CC
  rw [cells_zero, cells_nine] at CA
  generalize emptyL 256 = X at *
  have Hb := hid (Below.refl w.heap.size w)
  have Htab := hid tab
  clear tab
  go_enter Tryd.func28, Tryd.ntmps28
  go_wp2_with fail
  refine (CR.out _ Htab.out).mono ?_
  rintro e w1 ⟨rfl, bw1⟩
  have HBw1 := hid (Below.on Hb.out bw1)
  have hsw1 := HBw1.out.size
  clear bw1
  go_wp2_with (first
     | (
        refine wpList_store_blk rfl 23 _ _ rfl (w1.heap.size) (X.map (Value.int .u8)).toArray rfl rfl _ 23 (Blk.new rfl (byteCells 32 []) _) 32 size_digest zsize HX.out.size (ints_one _ _) ?_
        intro w2 hbw2 hkw2
        have hw2 := hbw2.below ((Below.refl w1.heap.size w1).alloc (Nat.le_refl _) _) (by simp only [World.size_alloc]; omega) (Nat.le_refl _)
        have HBw2 := hid (Below.on HBw1.out hw2)
        have hsw2 := HBw2.out.size
        have Kxw2 := hid hkw2
        have hfw2 : w.heap.size ≤ w1.heap.size := HBw1.out.size
        clear hbw2 hkw2 hw2)
     | (refine wpList_load_blk rfl 23 _ rfl (w1.heap.size) rfl _ 23 Kxw2.out _ Tryd.underlying23 rfl 32 size_digest HX.out.size ?_))
  refine (CC.out _).mono ?_
  rintro e w3 ⟨rfl, bw3⟩
  have HBw3 := hid (Below.on HBw2.out bw3)
  have hsw3 := HBw3.out.size
  have Kxw3 := hid (Kxw2.out.below bw3)
  clear bw3
  go_wp2_with (first
     | (
        refine wpList_store_blk rfl 23 _ _ rfl (w3.heap.size) (byteCells 32 []) rfl rfl _ 23 (Blk.new rfl (byteCells 32 []) _) 32 size_digest zsize zsize (by decide +kernel) ?_
        intro w4 hbw4 hkw4
        have hw4 := hbw4.below ((Below.refl w3.heap.size w3).alloc (Nat.le_refl _) _) (by simp only [World.size_alloc]; omega) (Nat.le_refl _)
        have HBw4 := hid (Below.on HBw3.out hw4)
        have hsw4 := HBw4.out.size
        have Kxw4 := hid (Kxw3.out.below hw4)
        have hlxw4 := Kxw3.out.lt
        have Kyw4 := hid hkw4
        have hfw4 : w.heap.size ≤ w3.heap.size := HBw3.out.size
        clear hbw4 hkw4 hw4)
     | (refine wpList_load_blk_if (by first | rfl | go_simp) 23 _ rfl (w1.heap.size) rfl _ 23 Kxw4.out _ Tryd.underlying23 rfl 32 size_digest HX.out.size ?_))
  refine (CA.out _ (Htab.out.below HBw4.out)).mono ?_
  rintro e w5 ⟨rfl, bw5⟩
  have HBw5 := hid (Below.on HBw4.out bw5)
  have hsw5 := HBw5.out.size
  have Kxw5 := hid (Kxw4.out.below bw5)
  have Kyw5 := hid (Kyw4.out.below bw5)
  clear bw5
  go_wp2_with fail
  go_returns
  exact ⟨by first | rfl | simp, HBw5.out⟩
end Go.Proofs.YthaicocfbmpnmaaDoor
namespace Go.Proofs.YthaicocfbmpnmaaDoor
set_option maxRecDepth 100000
open Go.ChangeShapes Go.WideShapes Go.ChangeAt Go.RowKit
end Go.Proofs.YthaicocfbmpnmaaDoor
namespace Go.Proofs.YthaicocfbmpnmaaDoor
set_option maxRecDepth 100000
open Go.ChangeShapes Go.WideShapes Go.ChangeAt Go.RowKit
/-- A text of bytes as a number, the first byte the highest one. -/
def numL (d : List Int) : Nat := d.foldl (fun a x => a * 256 + x.toNat) 0
theorem numL_snoc (d : List Int) (x : Int) : numL (d ++ [x]) = numL d * 256 + x.toNat := by simp [numL]
/-- Its bytes, from the last one on. -/
theorem numL_byte : ∀ (i : Nat) (d : List Int), (∀ x ∈ d, 0 ≤ x ∧ x < 256) → i < d.length → numL d / 256 ^ i % 256 = (d.getD (d.length - 1 - i) 0).toNat := by
  intro i
  induction i with
  | zero =>
    intro d hd hi
    rcases List.eq_nil_or_concat d with rfl | ⟨l, a, rfl⟩
    · simp at hi
    · rw [List.concat_eq_append] at hd ⊢
      have := hd a (by simp)
      rw [numL_snoc, Nat.pow_zero, Nat.div_one, List.getD_eq_getElem?_getD, List.length_append, List.length_singleton, show l.length + 1 - 1 - 0 = l.length by omega, List.getElem?_append_right (Nat.le_refl _), Nat.sub_self]
      simp
      omega
  | succ i ih =>
    intro d hd hi
    rcases List.eq_nil_or_concat d with rfl | ⟨l, a, rfl⟩
    · simp at hi
    · rw [List.concat_eq_append] at hd hi ⊢
      have ha := hd a (by simp)
      rw [List.length_append, List.length_singleton] at hi
      have h1 := ih l (fun x hx => hd x (by simp [hx])) (by omega)
      rw [numL_snoc, Nat.pow_succ, Nat.mul_comm (256 ^ i) 256, ← Nat.div_div_eq_div_mul, show (numL l * 256 + a.toNat) / 256 = numL l by omega, h1, List.getD_eq_getElem?_getD, List.getD_eq_getElem?_getD, List.length_append, List.length_singleton, show l.length + 1 - 1 - (i + 1) = l.length - 1 - i by omega, List.getElem?_append_left (by omega)]
theorem numL_lt : ∀ (d : List Int), (∀ x ∈ d, 0 ≤ x ∧ x < 256) → numL d < 256 ^ d.length := by
  intro d
  generalize hn : d.length = n
  induction n generalizing d with
  | zero => intro _; rw [List.eq_nil_of_length_eq_zero hn]; simp [numL]
  | succ n ih =>
    intro hd
    rcases List.eq_nil_or_concat d with rfl | ⟨l, a, rfl⟩
    · simp at hn
    · rw [List.concat_eq_append] at hd hn ⊢
      have ha := hd a (by simp)
      rw [List.length_append, List.length_singleton] at hn
      have h1 := ih l (by omega) (fun x hx => hd x (by simp [hx]))
      rw [numL_snoc, Nat.pow_succ]
      omega
/-- A bit of a byte of a number is a bit of the number. -/
theorem byte_bit (m r : Nat) (hr : r < 8) : m % 256 / 2 ^ r % 2 = m / 2 ^ r % 2 := by
  rcases (show r = 0 ∨ r = 1 ∨ r = 2 ∨ r = 3 ∨ r = 4 ∨ r = 5 ∨ r = 6 ∨ r = 7 by omega) with e | e | e | e | e | e | e | e <;> subst e <;> simp only [Nat.reducePow] <;> omega
theorem bit_num {d : List Int} (h : Dg d) {k : Nat} (hk : k < 256) : bitL d k = ((numL d / 2 ^ k % 2 : Nat) : Int) := by
  have h1 := numL_byte (k / 8) d h.small (by rw [h.len]; omega)
  rw [h.len] at h1
  have h0 := dg_at h (31 - k / 8)
  have h2 := byte_bit (numL d / 256 ^ (k / 8)) (k % 8) (by omega)
  rw [h1, Nat.div_div_eq_div_mul, show 256 ^ (k / 8) * 2 ^ (k % 8) = 2 ^ k by rw [show (256 : Nat) = 2 ^ 8 from rfl, ← Nat.pow_mul, ← Nat.pow_add]; congr 1; omega] at h2
  rw [← h2]
  unfold bitL
  rw [show 32 - 1 - k / 8 = 31 - k / 8 by omega]
  generalize d.getD (31 - k / 8) 0 = x at *
  obtain ⟨n, rfl⟩ := Int.eq_ofNat_of_zero_le h0.1
  simp
/-- Digests with the same number are the same. -/
theorem num_inj {a b : List Int} (ha : Dg a) (hb : Dg b) (h : numL a = numL b) : a = b := by
  apply List.ext_getElem (by rw [ha.len, hb.len])
  intro i h1 h2
  have e1 := numL_byte (31 - i) a ha.small (by rw [ha.len]; omega)
  have e2 := numL_byte (31 - i) b hb.small (by rw [hb.len]; omega)
  have hl := ha.len
  rw [h, e2, ha.len, hb.len, show 32 - 1 - (31 - i) = i by omega, List.getD_eq_getElem?_getD, List.getD_eq_getElem?_getD, List.getElem?_eq_getElem h1, List.getElem?_eq_getElem h2] at e1
  have p1 := ha.small _ (List.getElem_mem h1)
  have p2 := hb.small _ (List.getElem_mem h2)
  simp only [Option.getD_some] at e1
  omega
theorem num_small {d : List Int} (h : Dg d) : numL d < 2 ^ 256 := by
  have := numL_lt d h.small
  rw [h.len] at this
  exact this
/-- An entry: its index and its commitment. -/
abbrev EntT := List Int × List Int
/-- It lies below the right one of two nodes of a level. -/
def rightB (k : Nat) (x : EntT) : Bool := decide (bitL x.1 k = 1)
/-- The node of a level above all these entries. -/
def nodeT : Nat → List EntT → List Int
  | 0, [] => emptyL 0
  | 0, x :: _ => leafE x.1 x.2
  | k + 1, es => nodeL (nodeT k (es.filter fun x => !rightB k x)) (nodeT k (es.filter (rightB k)))
theorem nodeT_nil (k : Nat) : nodeT k [] = emptyL k := by
  induction k with
  | zero => rfl
  | succ k ih => rw [nodeT, List.filter_nil, List.filter_nil, ih]; rfl
/-- No two entries are alike in all the bits below a level. -/
def ApartT (k : Nat) (es : List EntT) : Prop := es.Pairwise fun x y => ∃ j, j < k ∧ rightB j x ≠ rightB j y
theorem ApartT.zero {es : List EntT} (h : ApartT 0 es) : es.length ≤ 1 := by
  rcases es with _ | ⟨a, _ | ⟨b, l⟩⟩
  · simp
  · simp
  · exfalso
    have := (List.pairwise_cons.1 h).1 b (by simp)
    obtain ⟨j, hj, _⟩ := this
    omega
theorem ApartT.part {k : Nat} {es : List EntT} (h : ApartT (k + 1) es) (v : Bool) : ApartT k (es.filter fun x => rightB k x == v) := by
  unfold ApartT at *
  refine (List.Pairwise.filter _ h).imp_of_mem ?_
  intro x y hx hy ⟨j, hj, hne⟩
  have hx := (List.mem_filter.1 hx).2
  have hy := (List.mem_filter.1 hy).2
  rw [beq_iff_eq] at hx hy
  refine ⟨j, ?_, hne⟩
  rcases Nat.lt_succ_iff_lt_or_eq.1 hj with h | rfl
  · exact h
  · exact absurd (hx.trans hy.symm) hne
theorem filter_yes (k : Nat) (es : List EntT) : (es.filter fun x => rightB k x == true) = es.filter (rightB k) := by
  congr 1; funext x; cases rightB k x <;> rfl
theorem filter_no (k : Nat) (es : List EntT) : (es.filter fun x => rightB k x == false) = es.filter fun x => !rightB k x := by
  congr 1; funext x; cases rightB k x <;> rfl
theorem ApartT.yes {k : Nat} {es : List EntT} (h : ApartT (k + 1) es) : ApartT k (es.filter (rightB k)) := filter_yes k es ▸ h.part true
theorem ApartT.no {k : Nat} {es : List EntT} (h : ApartT (k + 1) es) : ApartT k (es.filter fun x => !rightB k x) := filter_no k es ▸ h.part false
/-- The order of the entries makes no difference. -/
theorem nodeT_perm : ∀ (k : Nat) {es fs : List EntT}, ApartT k es → es.Perm fs → nodeT k es = nodeT k fs
  | 0, es, fs, h, p => by
    have h1 := h.zero
    have h2 := p.length_eq
    rcases es with _ | ⟨a, _ | ⟨b, l⟩⟩
    · rw [List.eq_nil_of_length_eq_zero (show fs.length = 0 by simpa using h2.symm)]
    · rcases fs with _ | ⟨c, _ | ⟨e, l⟩⟩
      · simp at h2
      · rw [List.singleton_perm_singleton.1 p]
      · simp at h2
    · simp at h1
  | k + 1, es, fs, h, p => by
    rw [nodeT, nodeT, nodeT_perm k h.no (p.filter _), nodeT_perm k h.yes (p.filter _)]
/-- At each level those on the left side come first. -/
def SplitT : Nat → List EntT → Prop
  | 0, _ => True
  | k + 1, es => es = (es.filter fun x => !rightB k x) ++ es.filter (rightB k) ∧ SplitT k (es.filter fun x => !rightB k x) ∧ SplitT k (es.filter (rightB k))
/-- Those without a mark, then those with it. -/
theorem split_of {p : EntT → Bool} : ∀ {es : List EntT}, es.Pairwise (fun x y => p x = true → p y = true) → es = (es.filter fun x => !p x) ++ es.filter p
  | [], _ => rfl
  | x :: l, h => by
    obtain ⟨h1, h2⟩ := List.pairwise_cons.1 h
    have ih := split_of h2
    cases hx : p x with
    | false =>
      rw [List.filter_cons_of_pos (by simp [hx]), List.filter_cons_of_neg (by simp [hx]), List.cons_append, ← ih]
    | true =>
      have ha : ∀ y ∈ l, p y = true := fun y hy => h1 y hy hx
      rw [List.filter_cons_of_neg (by simp [hx]), List.filter_cons_of_pos hx, List.filter_eq_nil_iff.2 (fun y hy => by simp [ha y hy]), List.filter_eq_self.2 ha]
      rfl
theorem split_sorted : ∀ (k : Nat) {es : List EntT}, k ≤ 256 → (∀ x ∈ es, Dg x.1) → es.Pairwise (fun x y => numL x.1 ≤ numL y.1) → es.Pairwise (fun x y => numL x.1 / 2 ^ k = numL y.1 / 2 ^ k) → SplitT k es
  | 0, _, _, _, _, _ => trivial
  | k + 1, es, hk, hd, hs, hq => by
    have hb : ∀ x ∈ es, rightB k x = decide (numL x.1 / 2 ^ k % 2 = 1) := fun x hx => by
      unfold rightB
      rw [bit_num (hd x hx) (by omega)]
      congr 1
      exact propext ⟨fun h => by omega, fun h => by omega⟩
    have hp : 0 < 2 ^ k := Nat.pow_pos (by omega)
    have hdiv : ∀ m : Nat, m / 2 ^ (k + 1) = m / 2 ^ k / 2 := fun m => by rw [Nat.pow_succ, Nat.div_div_eq_div_mul]
    have hsq := List.pairwise_and_iff.2 ⟨hs, hq⟩
    have part : ∀ p : EntT → Bool, (∀ x ∈ es, ∀ y ∈ es, p x = true → p y = true → rightB k x = rightB k y) → SplitT k (es.filter p) := fun p hpp => by
      refine split_sorted k (by omega) (fun x hx => hd x (List.mem_filter.1 hx).1) (List.Pairwise.filter _ hs) ?_
      refine (List.Pairwise.filter _ hq).imp_of_mem ?_
      intro x y hx hy he
      obtain ⟨mx, px⟩ := List.mem_filter.1 hx
      obtain ⟨my, py⟩ := List.mem_filter.1 hy
      have h1 := hpp x mx y my px py
      rw [hb x mx, hb y my] at h1
      have h2 : (numL x.1 / 2 ^ k % 2 = 1 ↔ numL y.1 / 2 ^ k % 2 = 1) := by simpa using h1
      rw [hdiv, hdiv] at he
      omega
    refine ⟨split_of ?_, part _ ?_, part _ ?_⟩
    · refine hsq.imp_of_mem ?_
      intro x y hx hy ⟨h1, h2⟩ hr
      rw [hb x hx] at hr
      rw [hb y hy]
      have h3 := Nat.div_le_div_right (c := 2 ^ k) h1
      rw [hdiv, hdiv] at h2
      have hr : numL x.1 / 2 ^ k % 2 = 1 := of_decide_eq_true hr
      exact decide_eq_true (by omega)
    · intro x _ y _ h1 h2
      rw [Bool.not_eq_true'] at h1 h2
      rw [h1, h2]
    · intro x _ y _ h1 h2
      rw [h1, h2]
/-- What is in order may be halved. -/
theorem split_all {es : List EntT} (hd : ∀ x ∈ es, Dg x.1) (hs : es.Pairwise (fun x y => numL x.1 ≤ numL y.1)) : SplitT 256 es :=
  split_sorted 256 (Nat.le_refl _) hd hs (List.pairwise_of_forall_mem_list fun x hx y hy => by
    rw [Nat.div_eq_of_lt (num_small (hd x hx)), Nat.div_eq_of_lt (num_small (hd y hy))])
/-- Unlike indices are apart. -/
theorem apart_of {es : List EntT} (hd : ∀ x ∈ es, Dg x.1) (hn : es.Pairwise (fun x y => x.1 ≠ y.1)) : ApartT 256 es := by
  refine hn.imp_of_mem ?_
  intro x y hx hy hne
  refine Classical.byContradiction fun hc => hne (num_inj (hd x hx) (hd y hy) ?_)
  apply Nat.eq_of_testBit_eq
  intro i
  by_cases hi : i < 256
  · have h1 : rightB i x = rightB i y := Classical.byContradiction fun h => hc ⟨i, hi, h⟩
    unfold rightB at h1
    rw [bit_num (hd x hx) hi, bit_num (hd y hy) hi] at h1
    have h2 : (numL x.1 / 2 ^ i % 2 = 1 ↔ numL y.1 / 2 ^ i % 2 = 1) := by
      have := decide_eq_decide.1 h1
      constructor <;> intro h <;> omega
    rw [Nat.testBit_eq_decide_div_mod_eq, Nat.testBit_eq_decide_div_mod_eq]
    exact decide_eq_decide.2 h2
  · have hp : 2 ^ 256 ≤ 2 ^ i := Nat.pow_le_pow_right (by omega) (by omega)
    rw [Nat.testBit_lt_two_pow (Nat.lt_of_lt_of_le (num_small (hd x hx)) hp), Nat.testBit_lt_two_pow (Nat.lt_of_lt_of_le (num_small (hd y hy)) hp)]
end Go.Proofs.YthaicocfbmpnmaaDoor
namespace Go.Proofs.YthaicocfbmpnmaaDoor
set_option maxRecDepth 100000
open Go.ChangeShapes Go.WideShapes Go.ChangeAt Go.RowKit Go.Sort
/-- Which of two numbers is the greater one. -/
def cmpN (x y : Nat) : Int := if x < y then -1 else if y < x then 1 else 0
theorem u8_lt {x y : Int} (hx : 0 ≤ x ∧ x < 256) (hy : 0 ≤ y ∧ y < 256) : (x.toNat.toUInt8 < y.toNat.toUInt8) ↔ x < y := by
  rw [UInt8.lt_iff_toNat_lt]
  simp only [Nat.toUInt8, UInt8.toNat_ofNat']
  omega
theorem numL_cons (x : Int) (l : List Int) : numL (x :: l) = x.toNat * 256 ^ l.length + numL l := by
  generalize hn : l.length = n
  induction n generalizing l with
  | zero => rw [List.eq_nil_of_length_eq_zero hn]; simp [numL]
  | succ n ih =>
    rcases List.eq_nil_or_concat l with rfl | ⟨m, a, rfl⟩
    · simp at hn
    · rw [List.concat_eq_append] at hn ⊢
      rw [List.length_append, List.length_singleton] at hn
      rw [← List.cons_append, numL_snoc, numL_snoc, ih m (by omega), Nat.pow_succ, Nat.add_mul, Nat.mul_assoc, Nat.add_assoc]
/-- Bytes are compared as their numbers are. -/
theorem compare_num : ∀ (a b : List Int), (∀ x ∈ a, 0 ≤ x ∧ x < 256) → (∀ x ∈ b, 0 ≤ x ∧ x < 256) → a.length = b.length → Lib.compareBytes (Lib.bytesOf a) (Lib.bytesOf b) = cmpN (numL a) (numL b)
  | [], [], _, _, _ => rfl
  | [], _ :: _, _, _, h => by simp at h
  | _ :: _, [], _, _, h => by simp at h
  | x :: a, y :: b, ha, hb, h => by
    have hx := ha x (by simp)
    have hy := hb y (by simp)
    have ih := compare_num a b (fun z hz => ha z (by simp [hz])) (fun z hz => hb z (by simp [hz])) (by simpa using h)
    have h1 := numL_lt a (fun z hz => ha z (by simp [hz]))
    have h2 := numL_lt b (fun z hz => hb z (by simp [hz]))
    have hl : a.length = b.length := by simpa using h
    show (if x.toNat.toUInt8 < y.toNat.toUInt8 then -1 else if y.toNat.toUInt8 < x.toNat.toUInt8 then 1 else Lib.compareBytes (Lib.bytesOf a) (Lib.bytesOf b)) = _
    rw [ih, numL_cons, numL_cons, hl]
    rw [hl] at h1
    generalize 256 ^ b.length = q at *
    unfold cmpN
    by_cases c1 : x < y
    · rw [if_pos ((u8_lt hx hy).2 c1), if_pos]
      have : x.toNat + 1 ≤ y.toNat := by omega
      have := Nat.mul_le_mul_right q this
      rw [Nat.add_mul] at this
      omega
    · rw [if_neg (fun h => c1 ((u8_lt hx hy).1 h))]
      by_cases c2 : y < x
      · have : y.toNat + 1 ≤ x.toNat := by omega
        have := Nat.mul_le_mul_right q this
        rw [Nat.add_mul] at this
        rw [if_pos ((u8_lt hy hx).2 c2), if_neg (by omega), if_pos (by omega)]
      · rw [if_neg (fun h => c2 ((u8_lt hy hx).1 h)), show x = y by omega]
        simp only [Nat.add_lt_add_iff_left]
theorem run_bytes {w : World} {a : Option Addr} {n c : Nat} {t : List Int} (h : TextAt w a n c t) : (Extern.Bytes.bytesOf (.slice a n c)).run Tryd.prog w = .ok ⟨(Lib.bytesOf t).toArray⟩ w := by
  obtain ⟨h1, h2, h3, h4, ⟨rfl, rfl, rfl⟩ | ⟨x, o, s, rfl, hc⟩⟩ := h
  · rw [List.eq_nil_of_length_eq_zero h1]; rfl
  · rcases Nat.eq_zero_or_pos n with h0 | h0
    · subst h0
      rw [List.eq_nil_of_length_eq_zero h1]; rfl
    · obtain ⟨rfl, -, -⟩ := hc 0 h0
      have hl := Lib.run_loadBytesX (P := Tryd.prog) w t ⟨x, o, none⟩ .empty (fun j y hj => by
        have hjl : j < t.length := (List.getElem?_eq_some_iff.1 hj).1
        have e : (⟨x, o, none⟩ : Addr).add j = ⟨x, o + j, none⟩ := by unfold Addr.add; split <;> simp_all
        rw [e, (hc j (by omega)).2.2, List.getD_eq_getElem?_getD, hj]
        rfl)
      rw [h1] at hl
      refine hl.trans ?_
      congr 1
      apply ByteArray.ext
      show (#[] : Array UInt8) ++ (Lib.bytesOf t).toArray = (Lib.bytesOf t).toArray
      simp
/-- The entry that compares. -/
theorem run_compare {w : World} {a b : Option Addr} {n m ca cb : Nat} {s t : List Int} (ha : TextAt w a n ca s) (hb : TextAt w b m cb t) (hl : n = m) : (Extern.BytealgCompare.compare #[.slice a n ca, .slice b m cb]).run Tryd.prog w = .ok (.int .i64 (cmpN (numL s) (numL t))) w := by
  change Sem.run Tryd.prog (do pure (goInt (Extern.BytealgCompare.cmp (← Extern.Bytes.bytesOf (.slice a n ca)) (← Extern.Bytes.bytesOf (.slice b m cb))))) w = _
  simp only [Sem.run_bind, Sem.run_pure, run_bytes ha, run_bytes hb, Result.andThen]
  rw [Lib.cmp_eq, compare_num s t ha.small hb.small (by rw [ha.length, hb.length, hl])]
  rfl
set_option maxHeartbeats 4000000 in
theorem compare_any (a b : Option Addr) (ca cb : Nat) (s t : List Int) (w : World) (ha : TextAt w a 32 ca s) (hb : TextAt w b 32 cb t) :
    Calls Tryd.prog 82 #[.slice a 32 ca, .slice b 32 cb] w fun e w' => e = .returned (.int .i64 (cmpN (numL s) (numL t))) ∧ w' = w := by
  have HA := hid ha
  have HB := hid hb
  clear ha hb
  go_enter Tryd.func82, Tryd.ntmps82
  go_wp2_with fail
  rw [run_callFunc_extern Tryd.func94 (by kernel_rfl) (by kernel_rfl) (by kernel_rfl) (e := Extern.BytealgCompare.compare) (by kernel_rfl), run_compare HA.out HB.out rfl]
  simp only [Result.andThen]
  rw [Oper.upon_value]
  go_wp2_with fail
  go_ret
  exact ⟨rfl, rfl⟩
theorem grow_two (w : World) (o1 o2 : Obj) (q : Nat) : ((w.alloc o1).alloc o2).drewN q = grow (w.drewN q) (#[o1] ++ #[o2]) := by
  rw [alloc_eq_grow, alloc_eq_grow, grow_grow]
  rfl
set_option maxHeartbeats 4000000 in
theorem less_any (a b c d : List Int) (w : World) (ha : Dg a) (hc : Dg c) :
    Calls Tryd.prog 81 #[.agg ((entL a b).map (Value.int .u8)).toArray, .agg ((entL c d).map (Value.int .u8)).toArray] w fun e w' => e = .returned (.int .i64 (cmpN (numL a) (numL c))) ∧ ∃ q os, w' = grow (w.drewN q) os := by
  have b1 := (Below.refl w.heap.size w).alloc (Nat.le_refl _) (.cells ((entL a b).map (Value.int .u8)).toArray 25 (0, 0))
  have b2 := b1.alloc b1.size (.cells ((entL c d).map (Value.int .u8)).toArray 25 (0, 0))
  have Ka := hid ((Blk.new (w := w) (n := w.heap.size) rfl ((entL a b).map (Value.int .u8)).toArray 25).old (.cells ((entL c d).map (Value.int .u8)).toArray 25 (0, 0)))
  have Kc := hid (Blk.new (w := (w.alloc (.cells ((entL a b).map (Value.int .u8)).toArray 25 (0, 0)))) (n := w.heap.size + 1) (by simp only [World.size_alloc]) ((entL c d).map (Value.int .u8)).toArray 25)
  have Hb := hid b2
  have hbz := b2.size
  have Hbs := hid (show w.heap.size + 1 + 1 = ((w.alloc (.cells ((entL a b).map (Value.int .u8)).toArray 25 (0, 0))).alloc (.cells ((entL c d).map (Value.int .u8)).toArray 25 (0, 0))).heap.size by simp only [World.size_alloc])
  clear b1 b2 
  have CC := hid (fun (W : World) (h1 : TextAt W (some ⟨w.heap.size, 0, none⟩) 32 32 a) (h2 : TextAt W (some ⟨w.heap.size + 1, 0, none⟩) 32 32 c) => compare_any _ _ 32 32 a c W h1 h2)
  go_enter Tryd.func81, Tryd.ntmps81
  go_wp2_with fail
  go_quiet ((go_at_call 82; exact Calls.quiet_of_same (CC.out _ (two_front ha Ka.out) (two_front hc Kc.out))))
  go_wp2_with fail
  go_returns
  exact ⟨rfl, _, _, grow_two _ _ _ _⟩
end Go.Proofs.YthaicocfbmpnmaaDoor
namespace Go.Proofs.YthaicocfbmpnmaaDoor
set_option maxRecDepth 100000
open Go.ChangeShapes Go.WideShapes Go.ChangeAt Go.RowKit Go.Shelf
attribute [local go_sem] Oper.semAt_some
theorem EntsAt.at_ {w : World} {a : Option Addr} {len cap : Nat} {es : List (List Int × List Int)} (h : EntsAt w a len cap es) (h0 : 0 < len) : ∃ x o, a = some ⟨x, o, none⟩ ∧ x < w.heap.size ∧ ∀ j, j < len → w.rangeAt x (o + j * 64) ((entL (es.getD j ([], [])).1 (es.getD j ([], [])).2).map (Value.int .u8)) := by
  rcases h.mem with h | h
  · omega
  · exact h
theorem rangeAt_belowB {w w' : World} {B x o : Nat} {cs : List Value} (h : w.rangeAt x o cs) (hx : x < B) (hb : Below B w w') : w'.rangeAt x o cs := fun j v hv => by
  rw [hb.cell (p := ⟨x, o + j, none⟩) hx]; exact h j v hv
section
variable {P : Program} {ops : Array Oper} {rest : List Oper} {op : Oper} {a : Act} {w : World} {Q : Exit → Act → World → Prop} {t e : TypeId} {n : Nat}
/-- An element's address, of whatever size. -/
theorem run_indexAt_k (ht : P.underlying t = some (.slice e)) (hs : (P.info? e).map (·.size) = some n) (b o len cap : Nat) (k : IntKind) (i : Int) (j : Nat) (hi : i = j) (hj : j < len) (w : World) :
    (Instr.indexAt t (.slice (some ⟨b, o, none⟩) len cap) (.int k i)).run P w = .ok (.pointer (some ⟨b, o + j * n, none⟩)) w := by
  subst hi
  obtain ⟨i0, hi0, h32⟩ := Option.map_eq_some_iff.1 hs
  have hlt : (0 : Int) ≤ j ∧ (j : Int) < len := by omega
  unfold Instr.indexAt
  simp [asIntOf, Sem.run_bind, run_underlying ht, hlt, sizeOf, typeInfo, hi0, h32, hj, Addr.add_mid]
theorem wpList_index_k (hgd : op.guard = none) (ty : TypeId) (x ix : Operand) (ho : op.op = .indexAddr ty x ix) (ht : P.underlying ty = some (.slice e)) (hs : (P.info? e).map (·.size) = some n) (b o len cap : Nat) (hx : a.eval x = .slice (some ⟨b, o, none⟩) len cap)
    (k : IntKind) (i : Int) (hix : a.eval ix = .int k i) (j : Nat) (hi : i = j) (hj : j < len) (h : wpList P ops Q rest (a.put op.dst (.pointer (some ⟨b, o + j * n, none⟩))) w) : wpList P ops Q (op :: rest) a w :=
  wpList_plain hgd fun K hK => by
    unfold Oper.wp execOp
    simp only [ho, hx, hix, Sem.run_bind, Sem.run_pure, Result.andThen_ok, run_indexAt_k ht hs b o len cap k i j hi hj, Oper.upon_value]
    exact hK _ _ h
theorem quiet_index_k {C : World → Prop} {K : Act → Prop} (ty : TypeId) (x ix : Operand) (ho : op.op = .indexAddr ty x ix) (ht : P.underlying ty = some (.slice e)) (hs : (P.info? e).map (·.size) = some n) (b o len cap : Nat) (hx : a.eval x = .slice (some ⟨b, o, none⟩) len cap)
    (k : IntKind) (i : Int) (hix : a.eval ix = .int k i) (j : Nat) (hi : i = j) (hj : j < len) (h : K (a.put op.dst (.pointer (some ⟨b, o + j * n, none⟩)))) : op.quiet P a C K :=
  ⟨.pointer (some ⟨b, o + j * n, none⟩), fun w' hw' => by
    unfold Oper.quietAt execOp
    simp only [ho, hx, hix, Sem.run_bind, Sem.run_pure, Result.andThen_ok, run_indexAt_k ht hs b o len cap k i j hi hj]
    simp [Oper.quietUpon], h⟩
end
/-- An entry of two digests. -/
abbrev EntD := {x : List Int × List Int // Dg x.1 ∧ Dg x.2}
instance : Inhabited EntD := ⟨⟨(zD, zD), Dg.zero, Dg.zero⟩⟩
theorem ent_len {a b : List Int} (ha : Dg a) (hb : Dg b) : (entL a b).length = 64 := by simp [entL, ha.len, hb.len]
theorem ents_of {es : List (List Int × List Int)} (h : ∀ x ∈ es, Dg x.1 ∧ Dg x.2) : ∃ fs : List EntD, fs.map Subtype.val = es :=
  ⟨es.pmap Subtype.mk h, by simp [List.map_pmap]⟩
set_option maxHeartbeats 4000000 in
theorem values_stops (n : Nat) (ad : Option Addr) (len cap : Nat) (es : List EntD) (pb n₀ : Nat) (w W0 : World) (hE : EntsAt w ad len cap (es.map Subtype.val)) (hmx : len < 4611686018427387904) (hn₀ : n₀ = w.heap.size) (hB : Below w.heap.size w W0) (hk : Blk W0 pb #[.slice ad len cap] 36) :
    SeqStopsK Fence.wide n Tryd.prog 93 #[.pointer (some ⟨pb, 0, none⟩)] (fun x : EntD => #[.agg ((entL x.1.1 x.1.2).map (Value.int .u8)).toArray]) (Below n₀) (fun ys => ys = es) (fun pre => ∃ k, k ≤ len ∧ pre = es.take k) len W0 := fun l J Jx W hW hJ hJx hY h0 => by
  subst hn₀
  have HK := hid (hk.below hW)
  have HE := hid hE
  have HB := hid (Below.on hB hW)
  have HY := hid hY
  have HJ := hid hJ
  have H0 := hid h0
  have hpl := HK.out.lt
  have hws := HB.out.size
  have c1 : W.cell? ⟨pb, 0, none⟩ = some (.slice ad len cap) := by rw [HK.out.cell]; rfl
  clear hW hB hY hJ hJx h0 hk hE
  refine callsIn_of_wp Tryd.func93 rfl trivial ?_ rfl
  simp only [Tryd.ntmps93, List.size_toArray, List.length_cons, List.length_nil, Nat.reduceAdd, Nat.reduceSub, Array.replicate_succ, Array.replicate_zero, List.push_toArray, List.append_toArray, List.nil_append, List.cons_append]
  apply wpIn_seq_k
  intro _ _
  refine wpIn_region_as rfl rfl ?_
  go_wp2_with fail
  apply wpIn_block
  gi_loopw [7] (fun kv wr => ∃ k : Nat, k ≤ len ∧ kv = .int .i64 k ∧ J (es.take k) wr ∧ Below w.heap.size w wr) (fun kv _ => len - (intOf kv).toNat)
  case atStart => exact ⟨0, Nat.zero_le _, rfl, H0.out, HB.out⟩
  case round =>
    obtain ⟨k, hk, rfl, hj, bel⟩ := hrel
    have HBr := hid bel
    have HJr := hid hj
    have hsr := bel.size
    clear bel hj
    by_cases hlt : k < len
    · skip
      have hc0 : (k : Int) < (len : Int) := by omega
      have hwr : wrap64 ((k : Int) + 1) = (k : Int) + 1 := by unfold wrap64; omega
      obtain ⟨g, ro, rfl, hg, hr⟩ := HE.out.at_ (by omega)
      have hlen := HE.out.length
      have hle : es.length = len := by rw [← hlen, List.length_map]
      have hge : (es.map Subtype.val).getD k ([], []) = (es.getD k default).1 := by
        rw [List.getD_eq_getElem?_getD, List.getD_eq_getElem?_getD, List.getElem?_map, List.getElem?_eq_getElem (show k < es.length by omega)]
        rfl
      have htk : es.take (k + 1) = es.take k ++ [es.getD k default] := by rw [List.take_add_one, List.getD_eq_getElem?_getD, List.getElem?_eq_getElem (show k < es.length by omega)]; rfl
      have hr1 := rangeAt_belowB (hr k hlt) hg HBr.out
      rw [hge] at hr1
      have Hr0 := hid hr1
      have HYk := hid (HY.out (es.take k) (es.getD k default))
      have HT := hid htk
      generalize es.getD k default = x at *
      obtain ⟨⟨xi, xc⟩, hda, hdb⟩ := x
      dsimp only at hda hdb HYk Hr0
      clear hr hr1 htk hge
      apply wpIn_seq_k
      intro _ _
      refine wpIn_region_as rfl rfl ?_
      go_wp2_with fail
      apply wpIn_seq_k
      intro _ _
      refine wpIn_cond_true rfl ?_
      apply wpIn_skip
      gi_step
      gi_step
      apply wpIn_seq_k
      intro _ _
      apply wpIn_block
      apply wpIn_seq_k
      intro _ _
      refine wpIn_region_as rfl rfl ?_
      go_wp2_with (first
               | (refine wpList_index_k rfl 36 _ _ rfl Tryd.underlying36 size_entry g ro len cap rfl _ _ rfl k rfl (by omega) ?_)
               | (refine wpList_load_mid rfl 25 _ rfl g (ro + k * 64) rfl _ _ Hr0.out Tryd.underlying25 rfl (by rw [List.length_map]; exact ent_size64 hda hdb) ?_)
               | (
               refine wpList_store_blk rfl 25 _ _ rfl (wr.heap.size) ((entL xi xc).map (Value.int .u8)).toArray rfl rfl _ 25 (Blk.new rfl ((entL zD zD).map (Value.int .u8)).toArray _) 64 size_entry (two_size Dg.zero Dg.zero) (two_size hda hdb) (ints_one _ _) ?_
               intro w2 hb2 hk2
               have b2 := hb2.below ((Below.refl wr.heap.size wr).alloc (Nat.le_refl _) _) (by simp only [World.size_alloc]; omega) (Nat.le_refl _)
               have HB2 := hid b2
               have HS2 := hid hk2
               clear hb2 hk2 b2))
      have HJY := hid (HJ.out (es.take k) wr w2 none HJr.out (grown_below HB2.out) (by intro r e; cases e))
      have HBY := hid (HBr.out.trans (HB2.out.mono (by omega)))
      have hsY := HBY.out.size
      obtain ⟨fn, tmps, assign, body, hy, hR⟩ := HYk.out w2 HJY.out (by rw [List.length_take]; omega)
      have HR := hid hR
      clear hR
      apply wpIn_seq_k
      intro _ _
      apply wpIn_region_lit
      gi_wp2_with (refine wpListIn_one (F := Fence.wide) rfl rfl ?_; refine wpList_load_blk rfl 25 _ rfl (wr.heap.size) rfl _ 25 HS2.out _ Tryd.underlying25 rfl 64 size_entry (two_size hda hdb) ?_; refine wpList_nil ⟨rfl, ?_⟩)
      refine ⟨fun h => (by simp [Fence.wide] at h), HR.out.mono ?_⟩
      rintro e W3 (⟨rfl, hJ3, hk3⟩ | ⟨rfl, hJx3⟩)
      · skip
        have HJ3 := hid hJ3
        have HK3 := hid hk3
        clear hJ3 hk3
        gi_wp2_with fail
        go_roundw
        case rel => exact ⟨k + 1, by omega, by simp, by rw [HT.out]; exact HJ3.out, HBY.out.trans HK3.out⟩
        case measure => simp [intOf]; omega
      · skip
        have HJ3 := hid hJx3
        clear hJx3
        gi_wp2_with fail
        refine bodyPost_ret (results_none rfl _ _ _) rfl ?_
        exact ⟨⟨_, rfl⟩, .inr ⟨_, ⟨k + 1, by omega, rfl⟩, by rw [HT.out]; exact HJ3.out⟩⟩
    · skip
      have hk7 : k = len := by omega
      subst hk7
      have hc0 : ¬ ((k : Int) < (k : Int)) := by omega
      have hlen := HE.out.length
      rw [List.length_map] at hlen
      have hta : es.take k = es := List.take_of_length_le (by omega)
      rw [hta] at HJr
      gi_wp2_with fail
      go_end0
      exact ⟨⟨_, rfl⟩, .inl HJr.out⟩
end Go.Proofs.YthaicocfbmpnmaaDoor
namespace Go.Proofs.YthaicocfbmpnmaaDoor
set_option maxRecDepth 100000
open Go.ChangeShapes Go.WideShapes Go.ChangeAt Go.RowKit Go.Shelf
attribute [local go_sem] Oper.semAt_some
/-- A row's bytes. -/
def flatE (es : List (List Int × List Int)) : List Int := (es.map fun x => entL x.1 x.2).flatten
theorem flatE_snoc (es : List (List Int × List Int)) (x : List Int × List Int) : flatE (es ++ [x]) = flatE es ++ entL x.1 x.2 := by simp [flatE]
theorem flatE_length {es : List (List Int × List Int)} (h : ∀ x ∈ es, Dg x.1 ∧ Dg x.2) : (flatE es).length = es.length * 64 := by
  induction es with
  | nil => rfl
  | cons x l ih =>
    have hx := h x (List.mem_cons_self ..)
    rw [show flatE (x :: l) = entL x.1 x.2 ++ flatE l from rfl, List.length_append, ih (fun y hy => h y (List.mem_cons_of_mem _ hy)), ent_len hx.1 hx.2, List.length_cons]
    omega
theorem flatE_at {es : List (List Int × List Int)} (h : ∀ x ∈ es, Dg x.1 ∧ Dg x.2) : ∀ (j k : Nat), j < es.length → k < 64 → (flatE es)[j * 64 + k]? = (entL (es.getD j ([], [])).1 (es.getD j ([], [])).2)[k]? := by
  induction es with
  | nil => intro j k hj; simp at hj
  | cons x l ih =>
    intro j k hj hk
    have hx := h x (List.mem_cons_self ..)
    have hl := ent_len hx.1 hx.2
    rw [show flatE (x :: l) = entL x.1 x.2 ++ flatE l from rfl]
    cases j with
    | zero =>
      rw [List.getElem?_append_left (by omega)]
      simp
    | succ j =>
      rw [List.getElem?_append_right (by omega), hl, show (j + 1) * 64 + k - 64 = j * 64 + k by omega, ih (fun y hy => h y (List.mem_cons_of_mem _ hy)) j k (by simpa using hj) hk]
      simp
/-- A row of entries of the call's own. -/
structure OwnE (w : World) (base : Nat) (v : Value) (es : List (List Int × List Int)) : Prop where
  row : w.ownsRow base 25 64 v es.length ((flatE es).map (Value.int .u8))
  each : ∀ x ∈ es, Dg x.1 ∧ Dg x.2
theorem OwnE.nil (w : World) (base : Nat) : OwnE w base (.slice none 0 0) [] := ⟨World.ownsRow_nil w base 25 64, by simp⟩
theorem OwnE.below {w w' : World} {base : Nat} {v : Value} {es : List (List Int × List Int)} (h : OwnE w base v es) (hb : Below w.heap.size w w') : OwnE w' base v es := ⟨owns_below h.row hb, h.each⟩
theorem OwnE.lt {w : World} {base : Nat} {v : Value} {es : List (List Int × List Int)} (h : OwnE w base v es) : ∀ k, v.ownBlock = some k → base ≤ k ∧ k < w.heap.size := h.row.lt
/-- Other blocks are turned. -/
theorem OwnE.kept {w w' : World} {base : Nat} {v : Value} {es : List (List Int × List Int)} (h : OwnE w base v es) (hb : ∀ k, v.ownBlock = some k → w'.heap[k]? = w.heap[k]?) : OwnE w' base v es := by
  obtain ⟨⟨h1, h2⟩, h3⟩ := h
  refine ⟨⟨h1, h2.imp id ?_⟩, h3⟩
  rintro ⟨g, cap, cur, rfl, hg, hh, hle⟩
  exact ⟨g, cap, cur, rfl, hg, (hb g rfl).trans hh, hle⟩
theorem OwnE.re {w : World} {base base' : Nat} {v : Value} {es : List (List Int × List Int)} (h : OwnE w base v es) (hb : base' ≤ base) : OwnE w base' v es := by
  obtain ⟨⟨h1, h2⟩, h3⟩ := h
  refine ⟨⟨h1, h2.imp id ?_⟩, h3⟩
  rintro ⟨g, cap, cur, rfl, hg, hh⟩
  exact ⟨g, cap, cur, rfl, Nat.le_trans hb hg, hh⟩
/-- One entry more. -/
theorem run_append_ent {w : World} {base : Nat} {v : Value} {es : List (List Int × List Int)} (ty : TypeId) (hown : OwnE w base v es) {b : Nat} {x : List Int × List Int} {T : TypeId} (hk : Blk w b ((entL x.1 x.2).map (Value.int .u8)).toArray T) (hx : Dg x.1 ∧ Dg x.2) (hb : es.length ≤ 1000000000000) (hbase : base ≤ w.heap.size) :
    ∃ v' w', (Builtin.append_ #[36, 36] ty #[v, .slice (some ⟨b, 0, none⟩) 1 1]).run Tryd.prog w = .ok v' w' ∧ OwnE w' base v' (es ++ [x]) ∧ w.grownBy w' v.ownBlock ∧ Below base w w' := by
  have hbel : ∀ {w' : World}, w.grownBy w' v.ownBlock → Below base w w' := fun hg => ⟨hg.os, hg.tape, hg.output, hg.size, fun k hk => hg.block k (by omega) (fun e => by have := (hown.lt k e.symm).1; omega)⟩
  obtain ⟨i0, hi, hz0, hz1, hz2⟩ := info_parts info_ent
  obtain ⟨v', w', h1, h2, h3, _⟩ := run_append_own (P := Tryd.prog) w base 36 ty 25 i0 (.agg ((entL zD zD).map (Value.int .u8)).toArray) 64 64 Tryd.underlying36 hi hz0 hz1 hz2 (two_size Dg.zero Dg.zero) (by omega) v es.length _ hown.row ⟨b, 0, none⟩ 1 1 ((entL x.1 x.2).map (Value.int .u8)) (by rw [List.length_map, ent_len hx.1 hx.2, Nat.one_mul]) (news_blk hk) (fun u hu => by
    simp only [List.mem_map] at hu
    obtain ⟨_, _, rfl⟩ := hu
    rfl) (by unfold maxLen; omega) (by omega) hbase
  refine ⟨v', w', h1, ⟨?_, ?_⟩, h3, ?_⟩
  · rw [flatE_snoc, List.map_append, List.length_append]
    exact h2
  · intro d hd
    rcases List.mem_append.1 hd with h | h
    · exact hown.each d h
    · simp only [List.mem_singleton] at h
      rw [h]; exact hx
  · exact hbel h3
theorem wpList_append_ent {ops : Array Oper} {rest : List Oper} {o : Oper} {A : Act} {w : World} {Q : Exit → Act → World → Prop} {base : Nat} {v : Value} {es : List (List Int × List Int)} (hgd : o.guard = none) (s x : Operand) (ho : o.op = .call { callee := .builtin .append, args := #[s, x], argTypes := #[36, 36] })
    (hs : A.eval s = v) (hown : OwnE w base v es) {b : Nat} {y : List Int × List Int} {T : TypeId} (hx : A.eval x = .slice (some ⟨b, 0, none⟩) 1 1) (hk : Blk w b ((entL y.1 y.2).map (Value.int .u8)).toArray T) (hy : Dg y.1 ∧ Dg y.2) (hb : es.length ≤ 1000000000000) (hbase : base ≤ w.heap.size)
    (h : ∀ v' w', OwnE w' base v' (es ++ [y]) → w.grownBy w' v.ownBlock → Below base w w' → wpList Tryd.prog ops Q rest (A.put o.dst v') w') : wpList Tryd.prog ops Q (o :: rest) A w :=
  wpList_plain hgd fun K hK => by
    obtain ⟨v', w', hr, h2, h3, h4⟩ := run_append_ent o.type hown hk hy hb hbase
    unfold Oper.wp execOp
    simp only [ho, resolve, invoke, builtin, Sem.run_bind, Sem.run_pure, Result.andThen_ok, List.map_toArray, List.map_cons, List.map_nil, hs, hx, hr, Oper.upon_value]
    exact hK _ _ (h v' w' h2 h3 h4)
theorem OwnE.succ {w : World} {base : Nat} {v : Value} {es : List (List Int × List Int)} {y : List Int × List Int} (h : OwnE w base v (es ++ [y])) : ∃ g cap, v = .slice (some ⟨g, 0, none⟩) (es.length + 1) cap := by
  obtain ⟨⟨h1, ⟨rfl, h2⟩ | ⟨g, cap, cur, rfl, _⟩⟩, _⟩ := h
  · simp at h2
  · exact ⟨g, cap, by simp⟩
theorem OwnE.not_other {w : World} {base : Nat} {v : Value} {es : List (List Int × List Int)} (h : OwnE w base v es) {k : Nat} (hk : v.ownBlock = some k) {o : Obj} (ho : w.heap[k]? = some o) (hc : o.isCells = false) : False := by
  obtain ⟨⟨h1, ⟨rfl, h2⟩ | ⟨g, cap, cur, rfl, hg, hh, _⟩⟩, _⟩ := h
  · cases hk
  · cases hk
    rw [hh] at ho
    cases ho
    cases hc
theorem Blk.at_same {w w' : World} {b : Nat} {cs : Array Value} {T : TypeId} (h : Blk w b cs T) (hs : w'.heap[b]? = w.heap[b]?) : Blk w' b cs T := hs.trans h
theorem run_build_ent1 {x : List Int × List Int} (hx : Dg x.1 ∧ Dg x.2) (w : World) : (Instr.buildSlice 36 1 #[(0, .agg ((entL x.1 x.2).map (Value.int .u8)).toArray)]).run Tryd.prog w = .ok (.slice (some ⟨w.heap.size, 0, none⟩) 1 1) (w.alloc (.cells ((entL x.1 x.2).map (Value.int .u8)).toArray 25 (0, 0))) := by
  have hf : ∀ zs : Array Value, zs.size = 64 → Instr.fill (fun i => some (i * 64, 64)) zs [(0, .agg ((entL x.1 x.2).map (Value.int .u8)).toArray)] = some ((entL x.1 x.2).map (Value.int .u8)).toArray := fun zs hz => by
    have hs : (Value.agg ((entL x.1 x.2).map (Value.int .u8)).toArray).cells.size = 64 := two_size hx.1 hx.2
    rw [fill_part _ _ 0 0 _ _ (by rw [hs]) (by rw [hs, hz]; omega), Instr.fill]
    congr 1
    show (splice zs.toList 0 (((entL x.1 x.2).map (Value.int .u8)).toArray).toList).toArray = _
    unfold splice
    rw [List.take_zero, List.nil_append, List.drop_eq_nil_of_le (by rw [Array.length_toList, Array.length_toList, hz, two_size hx.1 hx.2]; omega), List.append_nil]
  unfold Instr.buildSlice
  simp only [Sem.run_bind, run_underlying Tryd.underlying36, Result.andThen_ok, Tryd.sizeOf25]
  rw [if_neg (by decide), if_neg (by decide)]
  simp only [Sem.run_bind, Sem.run_pure, Result.andThen_ok, Tryd.zeroValue25]
  rw [hf _ (by rw [Array.size_map, Array.size_range])]
  simp [newRow]
theorem wpList_build_ent1 {ops : Array Oper} {rest : List Oper} {o : Oper} {A : Act} {w : World} {Q : Exit → Act → World → Prop} (hgd : o.guard = none) (e : Operand) (ho : o.op = .buildSlice 36 1 #[(0, e)]) {x : List Int × List Int} (he : A.eval e = .agg ((entL x.1 x.2).map (Value.int .u8)).toArray) (hx : Dg x.1 ∧ Dg x.2)
    (h : wpList Tryd.prog ops Q rest (A.put o.dst (.slice (some ⟨w.heap.size, 0, none⟩) 1 1)) (w.alloc (.cells ((entL x.1 x.2).map (Value.int .u8)).toArray 25 (0, 0)))) : wpList Tryd.prog ops Q (o :: rest) A w :=
  wpList_plain hgd fun K hK => by
    unfold Oper.wp execOp
    simp only [ho, List.map_toArray, List.map_cons, List.map_nil, he, Sem.run_bind, run_build_ent1 hx, Result.andThen_ok, Sem.run_pure, Oper.upon_value]
    exact hK _ _ h
set_option maxHeartbeats 4000000 in
theorem appendSeq_all (ad : Option Addr) (len cap : Nat) (es : List EntD) (pb : Nat) (w : World) (hE : EntsAt w ad len cap (es.map Subtype.val)) (hmx : len ≤ 300) (hk : Blk w pb #[.slice ad len cap] 36) :
    Calls Tryd.prog 99 #[.slice none 0 0, .func (.func 93) #[] #[.pointer (some ⟨pb, 0, none⟩)]] w fun e w' => ∃ v, e = .returned v ∧ OwnE w' w.heap.size v (es.map Subtype.val) ∧ Below w.heap.size w w' := by
  have HE := hid hE
  have HK := hid hk
  clear hE hk
  refine (callsIn_wide (n := 7)).1 ?_
  refine callsIn_of_wp_marks Tryd.func99 rfl trivial ?_ rfl
  simp only [Tryd.ntmps99, List.size_toArray, List.length_cons, List.length_nil, Nat.reduceAdd, Nat.reduceSub, Array.replicate_succ, Array.replicate_zero, List.push_toArray, List.append_toArray, List.nil_append, List.cons_append]
  apply wpIn_seq_k
  intro _ _
  refine wpIn_region_as rfl rfl ?_
  go_wp2_with fail
  apply wpIn_seq_k
  intro _ _
  apply wpIn_seq_k
  intro _ _
  refine wpIn_region_as rfl rfl ?_
  go_wp2_with fail
  apply wpIn_block
  have hB0 : Below w.heap.size w (w.alloc (.cells #[.slice none 0 0] 36 (0, 0))) := (Below.refl _ w).alloc (Nat.le_refl _) _
  have k0 : Blk (w.alloc (.cells #[.slice none 0 0] 36 (0, 0))) w.heap.size #[.slice none 0 0] 36 := Blk.new rfl _ _
  have kp := HK.out.below hB0
  have hz := World.size_alloc w (.cells #[.slice none 0 0] 36 (0, 0))
  generalize hW1 : w.alloc (.cells #[.slice none 0 0] 36 (0, 0)) = W1 at *
  refine wpIn_rangeFunc_ownH rfl (by omega) (gf := 93) (lb := #[.pointer (some ⟨pb, 0, none⟩)]) rfl trivial (enters_of Tryd.func93 (by kernel_rfl) rfl)
    (values_stops _ ad len cap es pb w.heap.size w W1 HE.out (by omega) rfl hB0 kp)
    belowK_t (belowK_b (by omega)) (Below.refl _ _) (fun _ => rfl)
    (fun pre W => (∃ v, Blk W w.heap.size #[v] 36 ∧ OwnE W (w.heap.size + 1) v (pre.map Subtype.val)) ∧ Below w.heap.size w W)
    (fun _ _ _ => False)
    (OwnFrom.and (Own.from (fun s A B row hs hg hr => by
      obtain ⟨v, h1, h2⟩ := hs
      exact ⟨v, h1.grownC hg hr, h2.kept (fun k hk => hg.block k (h2.lt k hk).2 (fun e => by
        obtain ⟨q, hq, hc⟩ := hr k e.symm
        exact h2.not_other hk hq hc))⟩) _) (ownFrom_below (Nat.le_refl _) (by omega)))
    (fun _ _ _ _ _ hs _ _ => hs)
    ⟨⟨_, k0, OwnE.nil _ _⟩, hB0⟩
    (fun x a' W => ∃ Bx, Blk W Bx ((entL x.1.1 x.1.2).map (Value.int .u8)).toArray 25 ∧ a' = { tmps := #[.slice none 0 0, .func (.func 93) #[] #[.pointer (some ⟨pb, 0, none⟩)], .pointer (some ⟨w.heap.size, 0, none⟩), undef, .slice none 0 0, .pointer (some ⟨Bx, 0, none⟩), .func (.func 93) #[] #[.pointer (some ⟨pb, 0, none⟩)], .agg ((entL x.1.1 x.1.2).map (Value.int .u8)).toArray, undef, undef, undef, undef, undef], defers := [] })
    (fun x a' => fun _ A B row hs hg hr => by
      obtain ⟨Bx, h2, h3⟩ := hs
      exact ⟨Bx, h2.grownC hg (fun r e => (hr r e).2), h3⟩) ?assign ?body ?done ?stop
  case stop =>
    rintro D c pre W _ _ h _
    exact h.elim
  case assign =>
    rintro l pre x W K hi hK
    obtain ⟨⟨xi, xc⟩, hda, hdb⟩ := x
    dsimp only at hda hdb hK ⊢
    obtain ⟨⟨v, kv, ov⟩, bel⟩ := hi
    have KV := hid kv
    have OV := hid ov
    have BL := hid bel
    have hbs := bel.size
    have hvl := kv.lt
    clear kv ov bel
    refine wpIn_region_as rfl rfl ?_
    go_wp2_with (
          refine wpList_store_blk rfl 25 _ _ rfl (W.heap.size) ((entL xi xc).map (Value.int .u8)).toArray rfl rfl _ 25 (Blk.new rfl ((entL zD zD).map (Value.int .u8)).toArray _) 64 size_entry (two_size Dg.zero Dg.zero) (two_size hda hdb) (ints_one _ _) ?_
          intro w3 hb3 hk3
          have b3 := hb3.below ((Below.refl W.heap.size W).alloc (Nat.le_refl _) _) (by simp only [World.size_alloc]; omega) (Nat.le_refl _)
          have HB3 := hid b3
          have HK3 := hid hk3
          clear hb3 hk3 b3)
    exact hK _ _ (keepsFrom_below HB3.out) (HB3.out.mono (by omega)) ⟨⟨_, KV.out.below HB3.out, OV.out.below HB3.out⟩, Below.on BL.out HB3.out⟩ ⟨W.heap.size, HK3.out, rfl⟩
  case body =>
    rintro l pre x a' W hl _ ⟨⟨v, kv, ov⟩, bel⟩ ⟨Bx, kb, rfl⟩ hlt
    obtain ⟨⟨xi, xc⟩, hda, hdb⟩ := x
    dsimp only at hda hdb kb ⊢
    have KV := hid kv
    have OV := hid ov
    have BL := hid bel
    have KB := hid kb
    have hbs := bel.size
    have hvl := kv.lt
    have hbl := kb.lt
    have hml : (pre.map Subtype.val).length < len := by rw [List.length_map]; exact hlt
    have cv : W.cell? ⟨w.heap.size, 0, none⟩ = some v := by rw [kv.cell]; rfl
    clear kv ov bel kb
    have hown : ∀ k, v.ownBlock = some k → w.heap.size + 1 ≤ k ∧ k < W.heap.size := OV.out.lt
    apply wpIn_block
    refine wpIn_region_as rfl rfl ?_
    go_wp2_with (first
          | (refine wpList_load_blk rfl 25 _ rfl (Bx) rfl _ 25 KB.out _ Tryd.underlying25 rfl 64 size_entry (two_size hda hdb) ?_)
          | (refine wpList_build_ent1 rfl _ rfl (x := (xi, xc)) rfl ⟨hda, hdb⟩ ?_)
          | (
             refine wpList_append_ent rfl _ _ rfl rfl (OV.out.below ((Below.refl W.heap.size W).alloc (Nat.le_refl _) _)) (y := (xi, xc)) rfl (Blk.new rfl ((entL xi xc).map (Value.int .u8)).toArray 25) ⟨hda, hdb⟩ (by omega) (by rw [World.size_alloc]; omega) ?_
             intro v5 w5 ho5 hg5 hb5
             obtain ⟨g5, c5, rfl⟩ := ho5.succ
             have HO5 := hid ho5
             have HB5 := hid ((Below.refl W.heap.size W).alloc (Nat.le_refl _) (.cells ((entL xi xc).map (Value.int .u8)).toArray 25 (0, 0)))
             have KV5 := hid ((KV.out.below HB5.out).at_same (hg5.block _ (by rw [World.size_alloc]; omega) (fun e => by have := (hown _ e.symm).1; omega)))
             have HG5 := hid hg5
             have HH5 := hid hb5
             have hs5 := hg5.size
             have cv5 : w5.cell? ⟨w.heap.size, 0, none⟩ = some v := by rw [KV5.out.cell]; rfl
             have cf5 := KV5.out.free 0
             clear ho5 hg5 hb5))
    have h5 := HB5.out
    have h6 := HG5.out
    have h7 := HH5.out
    have ho := HO5.out
    rw [List.length_map] at ho
    have oo := ho.kept (w' := w5.setCell ⟨w.heap.size, 0, none⟩ (.slice (some ⟨g5, 0, none⟩) (pre.length + 1) c5)) (fun k hk => Below.heap_setCell _ _ _ _ (by cases hk; have : w.heap.size + 1 ≤ g5 := (ho.lt _ rfl).1; show g5 ≠ w.heap.size; omega))
    have bb : Below w.heap.size W (w5.setCell ⟨w.heap.size, 0, none⟩ (.slice (some ⟨g5, 0, none⟩) (pre.length + 1) c5)) := Below.setCell (B := w.heap.size) ((h5.mono (by omega)).trans (h7.mono (by omega))) (p := ⟨w.heap.size, 0, none⟩) (Nat.le_refl _) _
    refine ⟨((keepsFrom_below h5).trans ((KeepsOthers.of_grownBy h6 (fun j o e hj => ?_)).from _)).trans ((KeepsOthers.setCell _ _ _).from _), bb, ⟨⟨_, KV5.out.set 0 _, by rw [List.map_append]; exact oo⟩, BL.out.trans bb⟩⟩
    have hlt5 := (hown j e).2
    rw [Below.heap_alloc _ _ _ hlt5] at hj
    cases hc : o.isCells with
    | true => rfl
    | false => exact (OV.out.not_other e hj hc).elim
  case done =>
    rintro D ys W hD rfl ⟨⟨v, kv, ov⟩, bel⟩ hK
    have cv : W.cell? ⟨w.heap.size, 0, none⟩ = some v := by rw [kv.cell]; rfl
    have OV := hid ov
    have BL := hid bel
    have HKD := hid hK
    have hvs := kv.lt
    have hdl : D < W.heap.size := (Array.getElem?_eq_some_iff.1 hK).1
    clear kv ov bel hK
    gi_step
    gi_step
    apply wpIn_seq_k
    intro _ _
    refine wpIn_region_as rfl rfl ?_
    go_wp2_with fail
    apply wpIn_ret
    refine ⟨by simp, .inl ⟨_, _, rfl, run_takeDeferred HKD.out, ?_⟩⟩
    refine ⟨_, results_tmp rfl _ _ _, _, rfl, ?_, BL.out.trans (belowK_b (w := w) (Nat.le_refl _) W D _ _ (by omega) HKD.out rfl rfl)⟩
    refine (OV.out.re (Nat.le_succ _)).kept (fun k hk => ?_)
    refine (grownBy_putObj' W D (.deferred none)).block k (OV.out.lt k hk).2 (fun e => ?_)
    cases e
    exact OV.out.not_other hk HKD.out rfl
end Go.Proofs.YthaicocfbmpnmaaDoor
namespace Go.Proofs.YthaicocfbmpnmaaDoor
set_option maxRecDepth 100000
open Go.ChangeShapes Go.WideShapes Go.ChangeAt Go.RowKit
open Go.WideMaps (KeyLaw)
open Go.ChangeMaps (setBlock)
theorem mapM_some {α β : Type} (f : α → Option β) : ∀ (l : List α), (∀ x ∈ l, ∃ y, f x = some y) → ∃ ys, l.mapM f = some ys
  | [], _ => ⟨[], rfl⟩
  | x :: l, h => by
    obtain ⟨y, hy⟩ := h x (by simp)
    obtain ⟨ys, hys⟩ := mapM_some f l (fun z hz => h z (by simp [hz]))
    exact ⟨y :: ys, by simp [List.mapM_cons, hy, hys]⟩
theorem key_any {d : List Int} (hd : Dg d) : ∃ kl, keyOf Tryd.prog 23 (.agg (d.map (Value.int .u8)).toArray) = some kl := by
  have c32 : Tryd.prog.cellsOf 23 = 32 := by kernel_rfl
  have c1 : Tryd.prog.cellsOf 5 = 1 := by kernel_rfl
  have hk : Tryd.prog.keyType 23 = true := by kernel_rfl
  have hf : (Value.agg (d.map (Value.int .u8)).toArray).formed Tryd.prog 23 = true := by
    unfold Value.formed
    rw [Tryd.underlying23]
    simp [c32, hd.len]
  obtain ⟨n, hn⟩ : ∃ n, Tryd.prog.types.size + 1 = n + 2 := ⟨Tryd.prog.types.size - 1, by have := Nat.lt_of_le_of_lt (Nat.zero_le _) dig_row; omega⟩
  unfold keyOf
  rw [Tryd.underlying23, hn]
  simp only [hk, hf, Bool.and_self, if_true]
  unfold Program.keyLits
  rw [Tryd.underlying23]
  have hl : (Value.agg (d.map (Value.int .u8)).toArray).cells.toList = d.map (Value.int .u8) := rfl
  rw [hl]
  simp only [List.length_map, hd.len, c32, c1, if_true, Nat.mul_one]
  obtain ⟨ys, hys⟩ := mapM_some (fun i => Tryd.prog.keyLits (n + 1) 5 (((d.map (Value.int .u8)).drop i).take 1)) (List.range 32) (fun i hi => by
    have hi : i < d.length := by rw [hd.len]; exact List.mem_range.1 hi
    have hx := hd.small _ (List.getElem_mem hi)
    rw [List.drop_eq_getElem_cons (by rw [List.length_map]; exact hi), List.getElem_map]
    unfold Program.keyLits
    rw [Tryd.underlying5]
    refine ⟨_, if_pos ⟨rfl, ?_⟩⟩
    simp [Lit.wf, IntKind.min, IntKind.max, IntKind.bits, IntKind.signed]
    omega)
  rw [hys]
  exact ⟨_, rfl⟩
/-- The entries of a map that counts indices. -/
def entM (m : List (List Int × Int)) : List MapEntry := m.zipIdx.map fun p => ⟨.agg (p.1.1.map (Value.int .u8)).toArray, .int .i64 p.1.2, p.2⟩
/-- The map in block r. -/
def MapM (r : Nat) (m : List (List Int × Int)) (w : World) : Prop := w.heap[r]? = some (.map (entM m).toArray m.length)
/-- How often it says that an index came. -/
def cntM (m : List (List Int × Int)) (d : List Int) : Int := match m.find? fun x => decide (x.1 = d) with | some x => x.2 | none => 0
theorem entM_get (m : List (List Int × Int)) (j : Nat) : (entM m)[j]? = (m[j]?).map fun x => ⟨.agg (x.1.map (Value.int .u8)).toArray, .int .i64 x.2, j⟩ := by
  unfold entM
  rw [List.getElem?_map, List.getElem?_zipIdx, Option.map_map]
  simp only [Nat.zero_add]
  cases m[j]? <;> rfl
theorem entM_length (m : List (List Int × Int)) : (entM m).length = m.length := by simp [entM]
theorem entM_mem {m : List (List Int × Int)} {e : MapEntry} (h : e ∈ entM m) : ∃ j x, m[j]? = some x ∧ e = ⟨.agg (x.1.map (Value.int .u8)).toArray, .int .i64 x.2, j⟩ := by
  obtain ⟨j, hj⟩ := List.mem_iff_getElem?.1 h
  rw [entM_get] at hj
  obtain ⟨x, hx, rfl⟩ := Option.map_eq_some_iff.1 hj
  exact ⟨j, x, hx, rfl⟩
theorem entM_ext {l : List MapEntry} {m : List (List Int × Int)} (h : ∀ j : Nat, l[j]? = (m[j]?).map fun x => (⟨.agg (x.1.map (Value.int .u8)).toArray, .int .i64 x.2, j⟩ : MapEntry)) : l = entM m := by
  apply List.ext_getElem?
  intro j
  rw [h, entM_get]
theorem dig_inj {a b : List Int} (h : Value.agg (a.map (Value.int .u8)).toArray = .agg (b.map (Value.int .u8)).toArray) : a = b := by
  have h1 := congrArg Array.toList (Value.agg.inj h)
  exact (List.map_inj_right (fun x y e => (Value.int.inj e).2)).1 h1
theorem entM_keys {m : List (List Int × Int)} (hm : ∀ x ∈ m, Dg x.1) : ∀ e ∈ entM m, ∃ l, keyOf Tryd.prog 23 e.key = some l := fun e he => by
  obtain ⟨j, x, hx, rfl⟩ := entM_mem he
  exact key_any (hm x (List.mem_of_getElem? hx))
theorem cntM_none {m : List (List Int × Int)} {d : List Int} (h : d ∉ m.map Prod.fst) : cntM m d = 0 := by
  unfold cntM
  rw [List.find?_eq_none.2 (fun x hx => by
    simp only [decide_eq_true_eq]
    exact fun e => h (List.mem_map.2 ⟨x, hx, e⟩))]
theorem cntM_at {m : List (List Int × Int)} (hn : (m.map Prod.fst).Nodup) {j : Nat} {x : List Int × Int} (hx : m[j]? = some x) : cntM m x.1 = x.2 := by
  induction m generalizing j with
  | nil => simp at hx
  | cons y l ih =>
    rw [List.map_cons, List.nodup_cons] at hn
    unfold cntM
    cases j with
    | zero =>
      rw [List.getElem?_cons_zero, Option.some.injEq] at hx
      subst hx
      rw [List.find?_cons_of_pos (by simp)]
    | succ j =>
      rw [List.getElem?_cons_succ] at hx
      have hne : ¬ y.1 = x.1 := fun e => hn.1 (List.mem_map.2 ⟨x, List.mem_of_getElem? hx, e.symm⟩)
      rw [List.find?_cons_of_neg (by simpa using hne)]
      exact ih hn.2 hx
/-- Where an index stands, or nowhere. -/
theorem find_m {m : List (List Int × Int)} (hm : ∀ x ∈ m, Dg x.1) {d : List Int} (hd : Dg d) {kl : Lit} (hkey : keyOf Tryd.prog 23 (.agg (d.map (Value.int .u8)).toArray) = some kl) (w : World) :
    ((Instr.findKey 23 (.agg (d.map (Value.int .u8)).toArray) (entM m)).run Tryd.prog w = .ok none w ∧ d ∉ m.map Prod.fst) ∨ ∃ j v, (Instr.findKey 23 (.agg (d.map (Value.int .u8)).toArray) (entM m)).run Tryd.prog w = .ok (some (j, .int .i64 v)) w ∧ m[j]? = some (d, v) := by
  rcases digLaw.find w hkey (entM m) (entM_keys hm) with ⟨h1, h2⟩ | ⟨j, e0, h1, h2, h3⟩
  · refine .inl ⟨h1, fun hc => ?_⟩
    obtain ⟨x, hx, rfl⟩ := List.mem_map.1 hc
    obtain ⟨j, hj⟩ := List.mem_iff_getElem?.1 hx
    have := entM_get m j
    rw [hj] at this
    exact h2 _ (List.mem_of_getElem? this) rfl
  · rw [entM_get] at h2
    obtain ⟨x, hx, rfl⟩ := Option.map_eq_some_iff.1 h2
    have := dig_inj h3
    subst this
    exact .inr ⟨j, x.2, h1, hx⟩
theorem run_lookup_m {r : Nat} {m : List (List Int × Int)} (hm : ∀ x ∈ m, Dg x.1) (hn : (m.map Prod.fst).Nodup) {d : List Int} (hd : Dg d) {w : World} (h : MapM r m w) :
    (Instr.lookup 117 (.map (some r)) (.agg (d.map (Value.int .u8)).toArray) false).run Tryd.prog w = .ok (.int .i64 (cntM m d)) w := by
  obtain ⟨kl, hkey⟩ := key_any hd
  rcases find_m hm hd hkey w with ⟨h1, h2⟩ | ⟨j, v, h1, h2⟩
  · rw [cntM_none h2]
    simp [Instr.lookup, run_underlying Tryd.underlying117, MapKept.run_getObj_map h, Result.andThen]
    rw [digLaw.check w _ hkey]
    simp only [h1]
    exact int_zero w
  · rw [cntM_at hn h2]
    simp [Instr.lookup, run_underlying Tryd.underlying117, MapKept.run_getObj_map h, Result.andThen]
    rw [digLaw.check w _ hkey]
    simp only [h1]
    rfl
/-- .. with a place for an index, new or not. -/
def putM (m : List (List Int × Int)) (d : List Int) : List (List Int × Int) := if d ∈ m.map Prod.fst then m else m ++ [(d, 0)]
theorem putM_new {m : List (List Int × Int)} {d : List Int} (h : d ∉ m.map Prod.fst) : putM m d = m ++ [(d, 0)] := if_neg h
theorem putM_old {m : List (List Int × Int)} {d : List Int} (h : d ∈ m.map Prod.fst) : putM m d = m := if_pos h
theorem entM_snoc (m : List (List Int × Int)) (d : List Int) (v : Int) : entM m ++ [⟨.agg (d.map (Value.int .u8)).toArray, .int .i64 v, m.length⟩] = entM (m ++ [(d, v)]) := entM_ext fun j => by
  rcases Nat.lt_trichotomy j m.length with h | h | h
  · rw [List.getElem?_append_left (by rw [entM_length]; exact h), List.getElem?_append_left h, entM_get]
  · subst h
    rw [List.getElem?_append_right (by rw [entM_length]; exact Nat.le_refl _), List.getElem?_append_right (Nat.le_refl _), entM_length, Nat.sub_self]
    rfl
  · rw [List.getElem?_eq_none (by rw [List.length_append, entM_length]; simp; omega), List.getElem?_eq_none (by simp; omega)]
    rfl
theorem run_mapEntry_m {r : Nat} {m : List (List Int × Int)} (hm : ∀ x ∈ m, Dg x.1) (hn : (m.map Prod.fst).Nodup) {d : List Int} (hd : Dg d) {w : World} (h : MapM r m w) :
    ∃ j : Nat, (putM m d)[j]? = some (d, cntM m d) ∧ (Instr.mapEntry 117 (.map (some r)) (.agg (d.map (Value.int .u8)).toArray)).run Tryd.prog w = .ok (.tuple #[.int .i64 (cntM m d), .int .i64 j]) (setBlock w r (.map (entM (putM m d)).toArray (putM m d).length)) := by
  obtain ⟨kl, hkey⟩ := key_any hd
  rcases find_m hm hd hkey w with ⟨h1, h2⟩ | ⟨j, v, h1, h2⟩
  · refine ⟨m.length, by rw [putM_new h2, cntM_none h2, List.getElem?_append_right (Nat.le_refl _), Nat.sub_self]; rfl, ?_⟩
    rw [putM_new h2, cntM_none h2, ← entM_snoc]
    simp [Instr.mapEntry, run_underlying Tryd.underlying117, MapKept.run_getObj_map h, digLaw.check w false hkey, h1, MapKept.run_setObj_map _ h, Result.andThen, setBlock, goInt]
  · have ho : d ∈ m.map Prod.fst := List.mem_map.2 ⟨_, List.mem_of_getElem? h2, rfl⟩
    have hc : cntM m d = v := cntM_at hn h2
    refine ⟨j, by rw [putM_old ho, hc]; exact h2, ?_⟩
    rw [putM_old ho, hc]
    have he := entM_get m j
    rw [h2] at he
    have hmod : (entM m).modify j (fun e => { e with key := .agg (d.map (Value.int .u8)).toArray }) = entM m := by
      apply List.ext_getElem?
      intro i
      rw [List.getElem?_modify]
      by_cases hi : j = i
      · subst hi
        rw [he]
        simp
      · simp [hi]
    simp [Instr.mapEntry, run_underlying Tryd.underlying117, MapKept.run_getObj_map h, digLaw.check w false hkey, h1, Result.andThen, setBlock, goInt]
    rw [he]
    simp only [Option.map_some, Option.getD_some]
    rw [digLaw.stays w hkey]
    simp only [hmod]
    rw [MapKept.run_setObj_map _ h]
theorem entM_set {m : List (List Int × Int)} {j : Nat} {d : List Int} {v : Int} (h : m[j]? = some (d, v)) (u : Int) : (entM m).modify j (fun e => { e with val := .int .i64 u }) = entM (m.set j (d, u)) := by
  apply entM_ext
  intro i
  rw [List.getElem?_modify, List.getElem?_set, entM_get]
  have hj : j < m.length := (List.getElem?_eq_some_iff.1 h).1
  by_cases hi : j = i
  · subst hi
    rw [h]
    simp [hj]
  · cases m[i]? <;> simp [hi]
theorem entM_born (m : List (List Int × Int)) : (entM m).map (·.born) = List.range m.length := by
  apply List.ext_getElem?
  intro j
  rw [List.getElem?_map, entM_get, Option.map_map]
  by_cases h : j < m.length
  · rw [List.getElem?_eq_getElem h, List.getElem?_eq_getElem (by rw [List.length_range]; exact h), List.getElem_range]
    rfl
  · rw [List.getElem?_eq_none (by omega), List.getElem?_eq_none (by rw [List.length_range]; omega)]
    rfl
theorem run_entryStore_m {r : Nat} {m : List (List Int × Int)} {w : World} (h : MapM r m w) {j : Nat} {d : List Int} {v : Int} (hj : m[j]? = some (d, v)) (u : Int) :
    (Instr.entryStore 117 (.map (some r)) (.int .i64 (j : Int)) (.int .i64 u)).run Tryd.prog w = .ok () (setBlock w r (.map (entM (m.set j (d, u))).toArray (m.set j (d, u)).length)) := by
  have he := entM_get m j
  rw [hj] at he
  have hidx : (entM m).findIdx? (fun e => ((e.born : Nat) : Int) == (j : Int)) = some j := Go.WideElems.findIdx_born (by rw [entM_born]; exact List.nodup_range) he
  have hmod := entM_set hj u
  simp [Instr.entryStore, MapKept.run_getObj_map h, asInt, asIntOf, Result.andThen, setBlock, ← hmod]
  rw [hidx]
  exact MapKept.run_setObj_map _ h
end Go.Proofs.YthaicocfbmpnmaaDoor
namespace Go.Proofs.YthaicocfbmpnmaaDoor
set_option maxRecDepth 100000
open Go.ChangeShapes Go.WideShapes Go.ChangeAt Go.RowKit
open Go.WideMaps (KeyLaw)
open Go.ChangeMaps (setBlock)
theorem MapM.at_ {r : Nat} {m : List (List Int × Int)} {w w' : World} (h : MapM r m w) (he : w'.heap[r]? = w.heap[r]?) : MapM r m w' := he.trans h
theorem MapM.lt {r : Nat} {m : List (List Int × Int)} {w : World} (h : MapM r m w) : r < w.heap.size := (Array.getElem?_eq_some_iff.1 h).1
theorem MapM.below {r : Nat} {m : List (List Int × Int)} {w w' : World} (h : MapM r m w) (hb : Below w.heap.size w w') : MapM r m w' := h.at_ (hb.block r h.lt)
/-- The map as it was, or with a place for an index. -/
def MapP (r : Nat) (m : List (List Int × Int)) (d : List Int) (w : World) : Prop := MapM r m w ∨ MapM r (putM m d) w
theorem MapP.below {r : Nat} {m : List (List Int × Int)} {d : List Int} {w w' : World} (h : MapP r m d w) (hb : Below w.heap.size w w') : MapP r m d w' := h.imp (·.below hb) (·.below hb)
theorem MapP.lt {r : Nat} {m : List (List Int × Int)} {d : List Int} {w : World} (h : MapP r m d w) : r < w.heap.size := h.elim (·.lt) (·.lt)
def MapPR (r : Nat) (m : List (List Int × Int)) (d : List Int) (a b : World) : Prop := FlowB.ButIn [r] a b ∧ (MapP r m d a → MapP r m d b)
theorem mapPR_rel (r : Nat) (m : List (List Int × Int)) (d : List Int) : Rel (MapPR r m d) :=
  ⟨fun h => ⟨(FlowB.rel_butIn [r]).of h, fun hm => hm.below h⟩, fun h k => ⟨(FlowB.rel_butIn [r]).trans h.1 k.1, fun hm => k.2 (h.2 hm)⟩⟩
theorem putM_all {m : List (List Int × Int)} (hm : ∀ x ∈ m, Dg x.1) (hn : (m.map Prod.fst).Nodup) {d : List Int} (hd : Dg d) : (∀ x ∈ putM m d, Dg x.1) ∧ ((putM m d).map Prod.fst).Nodup ∧ d ∈ (putM m d).map Prod.fst := by
  by_cases h : d ∈ m.map Prod.fst
  · rw [putM_old h]; exact ⟨hm, hn, h⟩
  · rw [putM_new h]
    refine ⟨fun x hx => ?_, ?_, by simp⟩
    · rcases List.mem_append.1 hx with hx | hx
      · exact hm x hx
      · rw [List.mem_singleton.1 hx]; exact hd
    · rw [List.map_append, List.nodup_append]
      exact ⟨hn, by simp, fun a ha b hb e => h (by
        have hb : b = d := by simpa using hb
        rw [← hb, ← e]; exact ha)⟩
theorem putM_cnt {m : List (List Int × Int)} (hm : ∀ x ∈ m, Dg x.1) (hn : (m.map Prod.fst).Nodup) {d : List Int} (hd : Dg d) : cntM (putM m d) d = cntM m d := by
  by_cases h : d ∈ m.map Prod.fst
  · rw [putM_old h]
  · obtain ⟨_, h2, _⟩ := putM_all hm hn hd
    rw [cntM_none h]
    have := cntM_at (m := putM m d) (j := m.length) (x := (d, 0)) h2 (by rw [putM_new h, List.getElem?_append_right (Nat.le_refl _), Nat.sub_self]; rfl)
    exact this
theorem place_one {m : List (List Int × Int)} (hn : (m.map Prod.fst).Nodup) {i j : Nat} {d : List Int} {u v : Int} (hi : m[i]? = some (d, u)) (hj : m[j]? = some (d, v)) : i = j := by
  have h1 : (m.map Prod.fst)[i]? = some d := by rw [List.getElem?_map, hi]; rfl
  have h2 : (m.map Prod.fst)[j]? = some d := by rw [List.getElem?_map, hj]; rfl
  obtain ⟨l1, e1⟩ := List.getElem?_eq_some_iff.1 h1
  obtain ⟨l2, e2⟩ := List.getElem?_eq_some_iff.1 h2
  have hp := List.pairwise_iff_getElem.1 hn
  rcases Nat.lt_trichotomy i j with h | h | h
  · exact absurd (e1.trans e2.symm) (hp i j l1 l2 h)
  · exact h
  · exact absurd (e2.trans e1.symm) (hp j i l2 l1 h)
theorem run_lookup_p {r : Nat} {m : List (List Int × Int)} (hm : ∀ x ∈ m, Dg x.1) (hn : (m.map Prod.fst).Nodup) {d : List Int} (hd : Dg d) {w : World} (h : MapP r m d w) :
    (Instr.lookup 117 (.map (some r)) (.agg (d.map (Value.int .u8)).toArray) false).run Tryd.prog w = .ok (.int .i64 (cntM m d)) w := by
  rcases h with h | h
  · exact run_lookup_m hm hn hd h
  · obtain ⟨h1, h2, _⟩ := putM_all hm hn hd
    rw [← putM_cnt hm hn hd]
    exact run_lookup_m h1 h2 hd h
theorem run_mapEntry_p {r : Nat} {m : List (List Int × Int)} (hm : ∀ x ∈ m, Dg x.1) (hn : (m.map Prod.fst).Nodup) {d : List Int} (hd : Dg d) {w : World} (h : MapP r m d w) {j : Nat} (hj : (putM m d)[j]? = some (d, cntM m d)) :
    (Instr.mapEntry 117 (.map (some r)) (.agg (d.map (Value.int .u8)).toArray)).run Tryd.prog w = .ok (.tuple #[.int .i64 (cntM m d), .int .i64 j]) (setBlock w r (.map (entM (putM m d)).toArray (putM m d).length)) := by
  obtain ⟨h1, h2, h3⟩ := putM_all hm hn hd
  rcases h with h | h
  · obtain ⟨i, hi, hr⟩ := run_mapEntry_m hm hn hd h
    rw [hr, place_one h2 hi hj]
  · obtain ⟨i, hi, hr⟩ := run_mapEntry_m h1 h2 hd h
    rw [putM_old h3, putM_cnt hm hn hd] at hi hr
    rw [hr, place_one h2 hi hj]
theorem quiet_lookup_p {r : Nat} {m : List (List Int × Int)} {d : List Int} {op : Oper} {a : Act} {C : World → Prop} {K : Act → Prop} (x y : Operand) (ho : op.op = .lookup 117 x y false) (hx : a.eval x = .map (some r)) (hy : a.eval y = .agg (d.map (Value.int .u8)).toArray) (hm : ∀ x ∈ m, Dg x.1) (hn : (m.map Prod.fst).Nodup) (hd : Dg d) (n : Int) (hc : cntM m d = n) (hC : ∀ w', C w' → MapP r m d w')
    (h : K (a.put op.dst (.int .i64 n))) : op.quiet Tryd.prog a C K :=
  ⟨.int .i64 n, fun w' hw' => by
    unfold Oper.quietAt execOp
    simp only [ho, hx, hy, Sem.run_bind, Sem.run_pure, Result.andThen_ok, run_lookup_p hm hn hd (hC w' hw'), hc]
    simp [Oper.quietUpon], h⟩
theorem wpList_entryStore_m {ops : Array Oper} {rest : List Oper} {o : Oper} {A : Act} {w : World} {Q : Exit → Act → World → Prop} {r : Nat} {m : List (List Int × Int)} {d : List Int} {v u : Int} {j : Nat} (hgd : o.guard = none) (x s y : Operand) (ho : o.op = .entryStore 117 x s y) (hx : A.eval x = .map (some r)) (hs : A.eval s = .int .i64 (j : Int)) (hy : A.eval y = .int .i64 u) (hb : MapM r m w) (hj : m[j]? = some (d, v))
    (h : ∀ w', FlowB.ButIn [r] w w' → MapM r (m.set j (d, u)) w' → wpList Tryd.prog ops Q rest (A.put o.dst undef) w') : wpList Tryd.prog ops Q (o :: rest) A w :=
  wpList_plain hgd fun K hK => by
    unfold Oper.wp execOp
    simp only [ho, hx, hs, hy, Sem.run_bind, Sem.run_pure, Result.andThen_ok, run_entryStore_m hb hj, Oper.upon_skip]
    exact hK _ _ (h _ (setBlock_in _ _ _) (setBlock_at hb.lt _))
theorem EntsAt.set {w : World} {a : Option Addr} {len cap : Nat} {es : List (List Int × List Int)} (h : EntsAt w a len cap es) {p : Addr} (hp : ∀ x o, a = some ⟨x, o, none⟩ → x ≠ p.block) (v : Value) : EntsAt (w.setCell p v) a len cap es := by
  obtain ⟨h1, h2, h3, h4 | ⟨x, o, rfl, hx, hc⟩⟩ := h
  · exact ⟨h1, h2, h3, .inl h4⟩
  · refine ⟨h1, h2, h3, .inr ⟨x, o, rfl, by simpa [World.setCell] using hx, fun j hj k u hu => ?_⟩⟩
    have h := hc j hj k u hu
    unfold World.cell? at h ⊢
    rw [Below.heap_setCell _ _ _ _ (hp x o rfl)]
    exact h
theorem OwnE.ents {w : World} {base : Nat} {v : Value} {es : List (List Int × List Int)} (h : OwnE w base v es) : ∃ a c, v = .slice a es.length c ∧ EntsAt w a es.length c es := by
  obtain ⟨⟨h1, ⟨rfl, h2⟩ | ⟨g, cap, cur, rfl, hg, hh, hle, hmx, hsz, htk⟩⟩, h3⟩ := h
  · obtain rfl := List.eq_nil_of_length_eq_zero h2
    exact ⟨none, 0, rfl, rfl, Nat.le_refl _, h3, .inl rfl⟩
  · refine ⟨_, cap, rfl, rfl, hle, h3, .inr ⟨g, 0, rfl, (Array.getElem?_eq_some_iff.1 hh).1, fun j hj k v hv => ?_⟩⟩
    have hm : es.getD j ([], []) ∈ es := by rw [List.getD_eq_getElem?_getD, List.getElem?_eq_getElem hj]; exact List.getElem_mem _
    have hk : k < 64 := by
      have := (List.getElem?_eq_some_iff.1 hv).1
      rw [List.length_map, ent_len (h3 _ hm).1 (h3 _ hm).2] at this
      exact this
    have hb : Blk w g cur 25 := hh
    rw [Nat.zero_add, hb.cell]
    have : (cur.toList.take (es.length * 64))[j * 64 + k]? = some v := by
      rw [htk, List.getElem?_map, flatE_at h3 j k hj hk, ← List.getElem?_map]
      exact hv
    rw [List.getElem?_take_of_lt (by omega)] at this
    simpa using this
set_option maxHeartbeats 4000000 in
theorem values_any (a : Option Addr) (len cap : Nat) (w : World) :
    Calls Tryd.prog 80 #[.slice a len cap] w fun e w' => e = .returned (.func (.func 93) #[] #[.pointer (some ⟨w.heap.size, 0, none⟩)]) ∧ Below w.heap.size w w' ∧ Blk w' w.heap.size #[.slice a len cap] 36 := by
  have hb := (Below.refl w.heap.size w).alloc (Nat.le_refl _) (.cells #[.slice a len cap] 36 (0, 0))
  have hk := Blk.new (w := w) rfl #[.slice a len cap] 36
  have HB := hid hb
  have HK := hid hk
  clear hb hk
  go_enter Tryd.func80, Tryd.ntmps80
  go_wp2_with fail
  go_returns
  exact ⟨rfl, HB.out, HK.out⟩
set_option maxHeartbeats 4000000 in
theorem grow_dup (a : Option Addr) (len cap : Nat) (es : List (List Int × List Int)) (w : World) (hE : EntsAt w a len cap es) (hmx : len ≤ 256) (hdp : ¬ (es.map Prod.fst).Nodup) :
    Calls Tryd.prog 49 #[.slice a len cap] w fun e w' => e = .returned (.tuple #[.agg #[.slice none 0 0, .slice none 0 0], .int .i64 5]) ∧ Below w.heap.size w w' := by
  have HE := hid hE
  clear hE
  have b1 := (Below.refl w.heap.size w).alloc (Nat.le_refl _) (.cells #[.slice none 0 0, .slice none 0 0] 76 (0, 0))
  have Kf := hid (Blk.new (w := w) (n := w.heap.size) rfl #[.slice none 0 0, .slice none 0 0] 76)
  have Hb := hid b1
  have hbz := b1.size
  have Hbs := hid (show w.heap.size + 1 = (w.alloc (.cells #[.slice none 0 0, .slice none 0 0] 76 (0, 0))).heap.size by simp only [World.size_alloc])
  clear b1 
  have hmm : ∀ W : World, (Instr.makeMap 117 none).run Tryd.prog W = .ok (.map (some W.heap.size)) (W.alloc (.map #[] 0)) := fun W => run_makeMap _ W
  go_enter Tryd.func49, Tryd.ntmps49
  have hc2 : ¬ (256 : Int) < (len : Int) := by omega
  go_wp2_with fail
  have b1 := Hb.out.alloc Hb.out.size (.map #[] 0)
  have Kf1 := hid (Kf.out.old (.map #[] 0))
  have Hb1 := hid b1
  have hr1 : ((w.alloc (.cells #[.slice none 0 0, .slice none 0 0] 76 (0, 0))).alloc (.map #[] 0)).heap[w.heap.size + 1]? = some (.map #[] 0) := by
    rw [Hbs.out]
    exact World.alloc_heap_new _ _
  have HM1 := hid (show MapM (w.heap.size + 1) [] ((w.alloc (.cells #[.slice none 0 0, .slice none 0 0] 76 (0, 0))).alloc (.map #[] 0)) from hr1)
  clear b1 hr1
  generalize hW1 : (w.alloc (.cells #[.slice none 0 0, .slice none 0 0] 76 (0, 0))).alloc (.map #[] 0) = w1 at *
  have hs1 := Hb1.out.size
  have hf1 := Kf1.out.lt
  go_loopw [15] (fun iv wr => ∃ j : Nat, j ≤ len ∧ iv = .int .i64 j ∧ Below w.heap.size w wr ∧ Blk wr w.heap.size #[.slice none 0 0, .slice none 0 0] 76 ∧ ((es.take j).map Prod.fst).Nodup ∧ MapM (w.heap.size + 1) ((es.take j).map fun x => (x.1, (1 : Int))) wr) (fun iv _ => len - (intOf iv).toNat)
  case atStart => exact ⟨0, Nat.zero_le _, rfl, Hb1.out, Kf1.out, List.nodup_nil, HM1.out⟩
  case round =>
    clear HM1 Kf1 Hb1
    obtain ⟨j, hj, rfl, bel, kf, hnd, mp⟩ := hrel
    have HBwr := hid bel
    have Kfwr := hid kf
    have HMwr := hid mp
    have hswr := bel.size
    have hrlt := mp.lt
    have hE := HE.out.below bel
    have hlen := hE.length
    clear bel kf mp
    by_cases hcj : j < len
    · skip
      have hcI : (j : Int) < (len : Int) := by omega
      obtain ⟨x, o, rfl, hx, hc⟩ := hE.at_ (by omega)
      have hRg := hid (hc j hcj)
      have hme : es.getD j ([], []) ∈ es := by rw [List.getD_eq_getElem?_getD, List.getElem?_eq_getElem (by omega)]; exact List.getElem_mem _
      have htk : es.take (j + 1) = es.take j ++ [es.getD j ([], [])] := by rw [List.take_add_one, List.getD_eq_getElem?_getD, List.getElem?_eq_getElem (by omega)]; rfl
      have HD := hid (hE.each _ hme).1
      have HCJ := hid (hE.each _ hme).2
      have HTK := hid htk
      have hmd : ∀ z ∈ ((es.take j).map fun x => (x.1, (1 : Int))), Dg z.1 := fun z hz => by
        obtain ⟨y, hy, rfl⟩ := List.mem_map.1 hz
        exact (hE.each y (List.mem_of_mem_take hy)).1
      have hkeys : ((es.take j).map fun x => (x.1, (1 : Int))).map Prod.fst = (es.take j).map Prod.fst := by rw [List.map_map]; rfl
      have hmn : (((es.take j).map fun x => (x.1, (1 : Int))).map Prod.fst).Nodup := by rw [hkeys]; exact hnd
      have hml : ((es.take j).map fun x => (x.1, (1 : Int))).length = j := by rw [List.length_map, List.length_take]; omega
      have hmv : ∀ (i : Nat) (y : List Int × Int), ((es.take j).map fun x => (x.1, (1 : Int)))[i]? = some y → y.2 = 1 := fun i y hy => by
        rw [List.getElem?_map] at hy
        obtain ⟨z, _, rfl⟩ := Option.map_eq_some_iff.1 hy
        rfl
      have HMD := hid hmd
      have HMN := hid hmn
      have HMV := hid hmv
      have HMO := hid (show ((es.take (j + 1)).map fun x => (x.1, (1 : Int))) = ((es.take j).map fun x => (x.1, (1 : Int))) ++ [((es.getD j ([], [])).1, 1)] by rw [htk, List.map_append]; rfl)
      have HMK := hid (show (es.take (j + 1)).map Prod.fst = ((es.take j).map fun x => (x.1, (1 : Int))).map Prod.fst ++ [(es.getD j ([], [])).1] by rw [htk, List.map_append, hkeys]; rfl)
      generalize hmm2 : ((es.take j).map fun x => (x.1, (1 : Int))) = m at *
      clear hmm2
      obtain ⟨d, hd1⟩ : ∃ d, (es.getD j ([], [])).1 = d := ⟨_, rfl⟩
      obtain ⟨c, hc1⟩ : ∃ c, (es.getD j ([], [])).2 = c := ⟨_, rfl⟩
      rw [hd1] at HD hRg HMO HMK
      rw [hc1] at HCJ hRg
      clear hc hme htk hmd hkeys hmn hmv hd1 hc1 hnd
      have hwr : wrap64 ((j : Int) + 1) = (j : Int) + 1 := by unfold wrap64; omega
      go_wp2_with (first
         | (refine wpList_index_k rfl 36 _ _ rfl Tryd.underlying36 size_entry x o len cap rfl _ _ rfl j rfl (by omega) ?_)
         | (refine wpList_load_mid rfl 25 _ rfl x (o + j * 64) rfl _ _ hRg.out Tryd.underlying25 rfl (by rw [List.length_map]; exact ent_size64 HD.out HCJ.out) ?_)
         | (
            refine wpList_store_blk rfl 25 _ _ rfl (wr.heap.size) ((entL d c).map (Value.int .u8)).toArray rfl rfl _ 25 (Blk.new rfl (byteCells 64 []) _) 64 size_entry zsize64 (two_size HD.out HCJ.out) (ints_one _ _) ?_
            intro w21 hbw21 hkw21
            have hw21 := hbw21.below ((Below.refl wr.heap.size wr).alloc (Nat.le_refl _) _) (by simp only [World.size_alloc]; omega) (Nat.le_refl _)
            have HBw21 := hid (Below.on HBwr.out hw21)
            have hsw21 := HBw21.out.size
            have Kfw21 := hid (Kfwr.out.below hw21)
            have hlfw21 := Kfwr.out.lt
            have Ktw21 := hid hkw21
            have hfw21 : w.heap.size ≤ wr.heap.size := HBwr.out.size
            have HM21 := hid (HMwr.out.below hw21)
            clear hbw21 hkw21 hw21))
      simp only [Act.put]
      have HF21 := hid (ent_front HD.out (b := c) Ktw21.out)
      have hrl := HM21.out.lt
      have hrt : ¬ wr.heap.size = w.heap.size + 1 := by omega
      by_cases hin : d ∈ m.map Prod.fst
      · skip
        obtain ⟨⟨d, v1⟩, hz1, rfl⟩ := List.mem_map.1 hin
        obtain ⟨j0, hj0⟩ := List.mem_iff_getElem?.1 hz1
        have hv1 : v1 = 1 := HMV.out j0 _ hj0
        subst hv1
        have hcn := cntM_at HMN.out hj0
        have hpm := putM_old hin
        have hpj : (putM m d)[j0]? = some (d, cntM m d) := by rw [hpm, hj0, hcn]
        have HPJ := hid hpj
        have HPM := hid hpm
        have HCN := hid hcn
        have HIN := hid hin
        dsimp only at HCN
        have HJ0 := hid hj0
        clear hpj hpm hcn hin hj0 hz1
        have HP21 := hid (show MapP (w.heap.size + 1) m d w21 from .inl HM21.out)
        refine FlowB.wp_region_flow_in (mapPR_rel (w.heap.size + 1) m d) (fun wz => MapP (w.heap.size + 1) m d wz) 7 [0, 1, 2, 3, 4] [] [(.c 5, [6], [])] (by kernel_rfl) (by kernel_rfl) (fun _ h => h.1.size) HP21.out (fun _ _ h hb => h.below hb) ?_
        apply Exists.intro
        refine ⟨fun w0 hb0 hF0 => ?_, ?_⟩
        · skip
          have ml : ∀ w', (∃ x : Ext w0, w' = x.at_) → MapP (w.heap.size + 1) m d w' := fun w' ⟨x, hx⟩ => hx ▸ (hb0.2 HP21.out).below x.same
          have zl : ∀ w', (∃ x : Ext w0, w' = x.at_) → w'.rangeAt wr.heap.size 0 (d.map (Value.int .u8)) := fun w' ⟨x, hx⟩ k v hv => by
            rw [hx]
            exact (x.same.cell (p := ⟨wr.heap.size, 0 + k, none⟩) (Nat.lt_of_lt_of_le Ktw21.out.lt hb0.1.size)).trans (hb0.1.cell Ktw21.out.lt (by simp only [List.mem_singleton]; exact hrt) (HF21.out k v hv))
          simp only [pick, List.getElem?_toArray, List.getElem?_cons_succ, List.getElem?_cons_zero, Option.toList_some, List.cons_append, List.nil_append]
          repeat (first | (go_big_quiet_want; refine quiet_load_mid 23 _ rfl wr.heap.size 0 rfl _ zl _ Tryd.underlying23 rfl (by rw [List.length_map, HD.out.len]; exact size_digest) ?_; go_big_quiet_on; simp only [Act.put, List.setIfInBounds_toArray, List.set_cons_zero, List.set_cons_succ]) | (go_big_quiet_want; refine quiet_lookup_p _ _ rfl rfl rfl HMD.out HMN.out HD.out 1 HCN.out ml ?_; go_big_quiet_on; simp only [Act.put, List.setIfInBounds_toArray, List.set_cons_zero, List.set_cons_succ]) | go_big_quiet_step (fail))
          exact wpQuiet_nil rfl
        refine FlowB.AlChk.nil ?_
        refine FlowB.Walk.does rfl (fun v _ => v = .tuple #[.int .i64 1, .int .i64 j0]) (fun _ w' => MapM (w.heap.size + 1) (putM m d) w') (fun v w' w'' _ h _ => h) (fun v w' w'' h k => h.below k) rfl (fun q1 hb1 hF1 hG1 => ?_) ?_
        · refine ⟨_, _, exec_mapEntry rfl rfl rfl (run_mapEntry_p HMD.out HMN.out HD.out hG1 HPJ.out), ⟨setBlock_in _ _ _, fun _ => .inr (setBlock_at hG1.lt _)⟩, by rw [HCN.out], setBlock_at hG1.lt _⟩
        rintro v1 q1 hb1 hF1 rfl
        apply Exists.intro
        refine ⟨fun w0 hb0 hF0 => ?_, ?_⟩
        · skip
          simp only [pick, List.getElem?_toArray, List.getElem?_cons_succ, List.getElem?_cons_zero, Option.toList_some, List.cons_append, List.nil_append, Act.put, List.setIfInBounds_toArray, List.set_cons_zero, List.set_cons_succ]
          repeat (go_big_quiet_step (fail))
          exact wpQuiet_nil rfl
        refine FlowB.AlChk.nil ?_
        refine FlowB.Walk.fin fun w30 h30 hF30 hG30 => ?_
        simp only [List.drop_succ_cons, List.drop_zero]
        have HB30 := hid (h30.1.below HBw21.out hsw21 (by simp only [List.mem_singleton, forall_eq]; omega))
        have Kf30 := hid (h30.1.blk Kfw21.out (by simp only [List.mem_singleton]; omega))
        have Kt30 := hid (h30.1.blk Ktw21.out (by simp only [List.mem_singleton]; exact hrt))
        have HG30 := hid hG30
        clear h30 hF30 hG30
        go_wp2_with (first
           | (
              refine wpList_entryStore_m (j := j0) (d := d) (v := 1) (u := 2) rfl _ _ _ rfl rfl rfl rfl HG30.out (by rw [HPJ.out, HCN.out]) ?_
              intro w40 hb40 hg40
              have HB40 := hid (hb40.below HB30.out HB30.out.size (by simp only [List.mem_singleton, forall_eq]; omega))
              have Kf40 := hid (hb40.blk Kf30.out (by simp only [List.mem_singleton]; omega))
              have Kt40 := hid (hb40.blk Kt30.out (by simp only [List.mem_singleton]; exact hrt))
              have HM40 := hid hg40
              have HF40 := hid (ent_front HD.out (b := c) Kt40.out)
              have hlk : (Instr.lookup 117 (.map (some (w.heap.size + 1))) (.agg (d.map (Value.int .u8)).toArray) false).run Tryd.prog w40 = .ok (.int .i64 2) w40 := by
                obtain ⟨p1, p2, _⟩ := putM_all HMD.out HMN.out HD.out
                have hl0 : j0 < (putM m d).length := (List.getElem?_eq_some_iff.1 HPJ.out).1
                have hfs : ((putM m d).set j0 (d, 2)).map Prod.fst = (putM m d).map Prod.fst := by
                  apply List.ext_getElem?
                  intro i
                  rw [List.getElem?_map, List.getElem?_map, List.getElem?_set]
                  by_cases hi : j0 = i
                  · subst hi; rw [if_pos rfl, if_pos hl0, HPJ.out]; rfl
                  · rw [if_neg hi]
                have hcc := cntM_at (m := (putM m d).set j0 (d, 2)) (j := j0) (x := (d, 2)) (by rw [hfs]; exact p2) (by rw [List.getElem?_set, if_pos rfl, if_pos hl0])
                have h := run_lookup_m (m := (putM m d).set j0 (d, 2)) (fun x hx => by
                  rcases List.mem_or_eq_of_mem_set hx with hx | rfl
                  · exact p1 x hx
                  · exact HD.out) (by rw [hfs]; exact p2) HD.out HM40.out
                rw [hcc] at h
                exact h
              have q0w61 := (Kf40.out.cell 0).trans (show _ = some _ from rfl)
              have r0w61 := Kf40.out.free 0
              have q1w61 := (Kf40.out.cell 1).trans (show _ = some _ from rfl)
              have r1w61 := Kf40.out.free 1
              have Kfw61 : Hid (Blk ((w40.setCell ⟨w.heap.size, 0, none⟩ (.slice none 0 0)).setCell ⟨w.heap.size, 1, none⟩ (.slice none 0 0)) (w.heap.size) #[.slice none 0 0, .slice none 0 0] 76) := hid (Blk.setAll_self Kf40.out [.slice none 0 0, .slice none 0 0] rfl)
              have HBw61 : Hid (Below w.heap.size w ((w40.setCell ⟨w.heap.size, 0, none⟩ (.slice none 0 0)).setCell ⟨w.heap.size, 1, none⟩ (.slice none 0 0))) := hid (Below.setAll (by omega) [.slice none 0 0, .slice none 0 0] 0 _ HB40.out)
              have hsw61 := HBw61.out.size
              clear hb40 hg40)
           | (refine wpList_load_mid rfl 23 _ rfl wr.heap.size 0 rfl _ _ HF40.out Tryd.underlying23 rfl (by rw [List.length_map, HD.out.len]; exact size_digest) ?_))
        exact bodyPost_ret (v := .tuple #[.agg #[.slice none 0 0, .slice none 0 0], .int .i64 5]) (results_blk_tmp Tryd.results49 _ (w.heap.size) rfl _ rfl _ 76 Kfw61.out _ Tryd.underlying76 rfl 2 size_forest rfl) rfl ⟨rfl, HBw61.out⟩
      · skip
        have hcn := cntM_none hin
        have hpm := putM_new hin
        obtain ⟨j0, hj00⟩ : ∃ j0, j0 = m.length := ⟨_, rfl⟩
        have hpj : (putM m d)[j0]? = some (d, cntM m d) := by rw [hpm, hcn, hj00, List.getElem?_append_right (Nat.le_refl _), Nat.sub_self]; rfl
        have HPJ := hid hpj
        have HPM := hid hpm
        have HCN := hid hcn
        have HIN := hid hin
        skip
        have HJ0 := hid hj00
        clear hpj hpm hcn hin hj00
        have HP21 := hid (show MapP (w.heap.size + 1) m d w21 from .inl HM21.out)
        refine FlowB.wp_region_flow_in (mapPR_rel (w.heap.size + 1) m d) (fun wz => MapP (w.heap.size + 1) m d wz) 7 [0, 1, 2, 3, 4] [] [(.c 5, [6], [])] (by kernel_rfl) (by kernel_rfl) (fun _ h => h.1.size) HP21.out (fun _ _ h hb => h.below hb) ?_
        apply Exists.intro
        refine ⟨fun w0 hb0 hF0 => ?_, ?_⟩
        · skip
          have ml : ∀ w', (∃ x : Ext w0, w' = x.at_) → MapP (w.heap.size + 1) m d w' := fun w' ⟨x, hx⟩ => hx ▸ (hb0.2 HP21.out).below x.same
          have zl : ∀ w', (∃ x : Ext w0, w' = x.at_) → w'.rangeAt wr.heap.size 0 (d.map (Value.int .u8)) := fun w' ⟨x, hx⟩ k v hv => by
            rw [hx]
            exact (x.same.cell (p := ⟨wr.heap.size, 0 + k, none⟩) (Nat.lt_of_lt_of_le Ktw21.out.lt hb0.1.size)).trans (hb0.1.cell Ktw21.out.lt (by simp only [List.mem_singleton]; exact hrt) (HF21.out k v hv))
          simp only [pick, List.getElem?_toArray, List.getElem?_cons_succ, List.getElem?_cons_zero, Option.toList_some, List.cons_append, List.nil_append]
          repeat (first | (go_big_quiet_want; refine quiet_load_mid 23 _ rfl wr.heap.size 0 rfl _ zl _ Tryd.underlying23 rfl (by rw [List.length_map, HD.out.len]; exact size_digest) ?_; go_big_quiet_on; simp only [Act.put, List.setIfInBounds_toArray, List.set_cons_zero, List.set_cons_succ]) | (go_big_quiet_want; refine quiet_lookup_p _ _ rfl rfl rfl HMD.out HMN.out HD.out 0 HCN.out ml ?_; go_big_quiet_on; simp only [Act.put, List.setIfInBounds_toArray, List.set_cons_zero, List.set_cons_succ]) | go_big_quiet_step (fail))
          exact wpQuiet_nil rfl
        refine FlowB.AlChk.nil ?_
        refine FlowB.Walk.does rfl (fun v _ => v = .tuple #[.int .i64 0, .int .i64 j0]) (fun _ w' => MapM (w.heap.size + 1) (putM m d) w') (fun v w' w'' _ h _ => h) (fun v w' w'' h k => h.below k) rfl (fun q1 hb1 hF1 hG1 => ?_) ?_
        · refine ⟨_, _, exec_mapEntry rfl rfl rfl (run_mapEntry_p HMD.out HMN.out HD.out hG1 HPJ.out), ⟨setBlock_in _ _ _, fun _ => .inr (setBlock_at hG1.lt _)⟩, by rw [HCN.out], setBlock_at hG1.lt _⟩
        rintro v1 q1 hb1 hF1 rfl
        apply Exists.intro
        refine ⟨fun w0 hb0 hF0 => ?_, ?_⟩
        · skip
          simp only [pick, List.getElem?_toArray, List.getElem?_cons_succ, List.getElem?_cons_zero, Option.toList_some, List.cons_append, List.nil_append, Act.put, List.setIfInBounds_toArray, List.set_cons_zero, List.set_cons_succ]
          repeat (go_big_quiet_step (fail))
          exact wpQuiet_nil rfl
        refine FlowB.AlChk.nil ?_
        refine FlowB.Walk.fin fun w30 h30 hF30 hG30 => ?_
        simp only [List.drop_succ_cons, List.drop_zero]
        have HB30 := hid (h30.1.below HBw21.out hsw21 (by simp only [List.mem_singleton, forall_eq]; omega))
        have Kf30 := hid (h30.1.blk Kfw21.out (by simp only [List.mem_singleton]; omega))
        have Kt30 := hid (h30.1.blk Ktw21.out (by simp only [List.mem_singleton]; exact hrt))
        have HG30 := hid hG30
        clear h30 hF30 hG30
        go_wp2_with (first
           | (
              refine wpList_entryStore_m (j := j0) (d := d) (v := 0) (u := 1) rfl _ _ _ rfl rfl rfl rfl HG30.out (by rw [HPJ.out, HCN.out]) ?_
              intro w40 hb40 hg40
              have HB40 := hid (hb40.below HB30.out HB30.out.size (by simp only [List.mem_singleton, forall_eq]; omega))
              have Kf40 := hid (hb40.blk Kf30.out (by simp only [List.mem_singleton]; omega))
              have Kt40 := hid (hb40.blk Kt30.out (by simp only [List.mem_singleton]; exact hrt))
              have HM40 := hid hg40
              have HF40 := hid (ent_front HD.out (b := c) Kt40.out)
              have hlk : (Instr.lookup 117 (.map (some (w.heap.size + 1))) (.agg (d.map (Value.int .u8)).toArray) false).run Tryd.prog w40 = .ok (.int .i64 1) w40 := by
                obtain ⟨p1, p2, _⟩ := putM_all HMD.out HMN.out HD.out
                have hl0 : j0 < (putM m d).length := (List.getElem?_eq_some_iff.1 HPJ.out).1
                have hfs : ((putM m d).set j0 (d, 1)).map Prod.fst = (putM m d).map Prod.fst := by
                  apply List.ext_getElem?
                  intro i
                  rw [List.getElem?_map, List.getElem?_map, List.getElem?_set]
                  by_cases hi : j0 = i
                  · subst hi; rw [if_pos rfl, if_pos hl0, HPJ.out]; rfl
                  · rw [if_neg hi]
                have hcc := cntM_at (m := (putM m d).set j0 (d, 1)) (j := j0) (x := (d, 1)) (by rw [hfs]; exact p2) (by rw [List.getElem?_set, if_pos rfl, if_pos hl0])
                have h := run_lookup_m (m := (putM m d).set j0 (d, 1)) (fun x hx => by
                  rcases List.mem_or_eq_of_mem_set hx with hx | rfl
                  · exact p1 x hx
                  · exact HD.out) (by rw [hfs]; exact p2) HD.out HM40.out
                rw [hcc] at h
                exact h
              clear hb40 hg40)
           | (refine wpList_load_mid rfl 23 _ rfl wr.heap.size 0 rfl _ _ HF40.out Tryd.underlying23 rfl (by rw [List.length_map, HD.out.len]; exact size_digest) ?_))
        exact ⟨⟨j + 1, by omega, by first | rfl | simp, HB40.out, Kf40.out, by rw [HMK.out, List.nodup_append]; exact ⟨HMN.out, by simp, fun a ha b hb e => HIN.out (by rw [List.mem_singleton] at hb; rw [← hb, ← e]; exact ha)⟩, by rw [HMO.out]; have h := HM40.out; rw [HPM.out, HJ0.out, List.set_append_right _ _ (Nat.le_refl _), Nat.sub_self] at h; exact h⟩, by simp [intOf]; omega⟩
    · skip
      have hta : es.take j = es := List.take_of_length_le (by omega)
      rw [hta] at hnd
      exact absurd hnd hdp
set_option maxHeartbeats 4000000 in
theorem grow_good (a : Option Addr) (len cap : Nat) (es : List (List Int × List Int)) (w : World) (hE : EntsAt w a len cap es) (hmx : len ≤ 256) (hnf : (es.map Prod.fst).Nodup) (tab : ShaTab w)
    (cs : ∀ (pb : Nat) (W : World), Blk W pb #[.slice a len cap] 36 → EntsAt W a len cap es → Calls Tryd.prog 79 #[.func (.func 93) #[] #[.pointer (some ⟨pb, 0, none⟩)], .func (.func 81) #[] #[]] W fun e w' => ∃ (a' : Option Addr) (c' : Nat) (fs : List (List Int × List Int)), e = .returned (.slice a' len c') ∧ (∀ x o, a' = some ⟨x, o, none⟩ → W.heap.size ≤ x) ∧ EntsAt w' a' len c' fs ∧ es.Perm fs ∧ fs.Pairwise (fun x y => numL x.1 ≤ numL y.1) ∧ Below W.heap.size W w') :
    Calls Tryd.prog 49 #[.slice a len cap] w fun e w' => ∃ g a' c' fs, e = .returned (.tuple #[.agg #[.slice a' len c', .slice (some ⟨g, 0, none⟩) 257 257], .int .i64 0]) ∧ EntsAt w' a' len c' fs ∧ es.Perm fs ∧ fs.Pairwise (fun x y => numL x.1 ≤ numL y.1) ∧ Below w.heap.size w w' ∧ Blk w' g (dcs (empN 257)) 23 := by
  have HE := hid hE
  have CS := hid cs
  clear hE cs
  have b1 := (Below.refl w.heap.size w).alloc (Nat.le_refl _) (.cells #[.slice none 0 0, .slice none 0 0] 76 (0, 0))
  have Kf := hid (Blk.new (w := w) (n := w.heap.size) rfl #[.slice none 0 0, .slice none 0 0] 76)
  have Hb := hid b1
  have hbz := b1.size
  have Hbs := hid (show w.heap.size + 1 = (w.alloc (.cells #[.slice none 0 0, .slice none 0 0] 76 (0, 0))).heap.size by simp only [World.size_alloc])
  have Htab := hid tab
  clear b1 tab 
  have hmm : ∀ W : World, (Instr.makeMap 117 none).run Tryd.prog W = .ok (.map (some W.heap.size)) (W.alloc (.map #[] 0)) := fun W => run_makeMap _ W
  go_enter Tryd.func49, Tryd.ntmps49
  have hc2 : ¬ (256 : Int) < (len : Int) := by omega
  go_wp2_with fail
  have b1 := Hb.out.alloc Hb.out.size (.map #[] 0)
  have Kf1 := hid (Kf.out.old (.map #[] 0))
  have Hb1 := hid b1
  have hr1 : ((w.alloc (.cells #[.slice none 0 0, .slice none 0 0] 76 (0, 0))).alloc (.map #[] 0)).heap[w.heap.size + 1]? = some (.map #[] 0) := by
    rw [Hbs.out]
    exact World.alloc_heap_new _ _
  have HM1 := hid (show MapM (w.heap.size + 1) [] ((w.alloc (.cells #[.slice none 0 0, .slice none 0 0] 76 (0, 0))).alloc (.map #[] 0)) from hr1)
  clear b1 hr1
  generalize hW1 : (w.alloc (.cells #[.slice none 0 0, .slice none 0 0] 76 (0, 0))).alloc (.map #[] 0) = w1 at *
  have hs1 := Hb1.out.size
  have hf1 := Kf1.out.lt
  go_loopw [15] (fun iv wr => ∃ j : Nat, j ≤ len ∧ iv = .int .i64 j ∧ Below w.heap.size w wr ∧ Blk wr w.heap.size #[.slice none 0 0, .slice none 0 0] 76 ∧ ((es.take j).map Prod.fst).Nodup ∧ MapM (w.heap.size + 1) ((es.take j).map fun x => (x.1, (1 : Int))) wr) (fun iv _ => len - (intOf iv).toNat)
  case atStart => exact ⟨0, Nat.zero_le _, rfl, Hb1.out, Kf1.out, List.nodup_nil, HM1.out⟩
  case round =>
    clear HM1 Kf1 Hb1
    obtain ⟨j, hj, rfl, bel, kf, hnd, mp⟩ := hrel
    have HBwr := hid bel
    have Kfwr := hid kf
    have HMwr := hid mp
    have hswr := bel.size
    have hrlt := mp.lt
    have hE := HE.out.below bel
    have hlen := hE.length
    clear bel kf mp
    by_cases hcj : j < len
    · skip
      have hcI : (j : Int) < (len : Int) := by omega
      obtain ⟨x, o, rfl, hx, hc⟩ := hE.at_ (by omega)
      have hRg := hid (hc j hcj)
      have hme : es.getD j ([], []) ∈ es := by rw [List.getD_eq_getElem?_getD, List.getElem?_eq_getElem (by omega)]; exact List.getElem_mem _
      have htk : es.take (j + 1) = es.take j ++ [es.getD j ([], [])] := by rw [List.take_add_one, List.getD_eq_getElem?_getD, List.getElem?_eq_getElem (by omega)]; rfl
      have HD := hid (hE.each _ hme).1
      have HCJ := hid (hE.each _ hme).2
      have HTK := hid htk
      have hmd : ∀ z ∈ ((es.take j).map fun x => (x.1, (1 : Int))), Dg z.1 := fun z hz => by
        obtain ⟨y, hy, rfl⟩ := List.mem_map.1 hz
        exact (hE.each y (List.mem_of_mem_take hy)).1
      have hkeys : ((es.take j).map fun x => (x.1, (1 : Int))).map Prod.fst = (es.take j).map Prod.fst := by rw [List.map_map]; rfl
      have hmn : (((es.take j).map fun x => (x.1, (1 : Int))).map Prod.fst).Nodup := by rw [hkeys]; exact hnd
      have hml : ((es.take j).map fun x => (x.1, (1 : Int))).length = j := by rw [List.length_map, List.length_take]; omega
      have hmv : ∀ (i : Nat) (y : List Int × Int), ((es.take j).map fun x => (x.1, (1 : Int)))[i]? = some y → y.2 = 1 := fun i y hy => by
        rw [List.getElem?_map] at hy
        obtain ⟨z, _, rfl⟩ := Option.map_eq_some_iff.1 hy
        rfl
      have HMD := hid hmd
      have HMN := hid hmn
      have HMV := hid hmv
      have HMO := hid (show ((es.take (j + 1)).map fun x => (x.1, (1 : Int))) = ((es.take j).map fun x => (x.1, (1 : Int))) ++ [((es.getD j ([], [])).1, 1)] by rw [htk, List.map_append]; rfl)
      have HMK := hid (show (es.take (j + 1)).map Prod.fst = ((es.take j).map fun x => (x.1, (1 : Int))).map Prod.fst ++ [(es.getD j ([], [])).1] by rw [htk, List.map_append, hkeys]; rfl)
      generalize hmm2 : ((es.take j).map fun x => (x.1, (1 : Int))) = m at *
      clear hmm2
      obtain ⟨d, hd1⟩ : ∃ d, (es.getD j ([], [])).1 = d := ⟨_, rfl⟩
      obtain ⟨c, hc1⟩ : ∃ c, (es.getD j ([], [])).2 = c := ⟨_, rfl⟩
      rw [hd1] at HD hRg HMO HMK
      rw [hc1] at HCJ hRg
      clear hc hme htk hmd hkeys hmn hmv hd1 hc1 hnd
      have hwr : wrap64 ((j : Int) + 1) = (j : Int) + 1 := by unfold wrap64; omega
      go_wp2_with (first
         | (refine wpList_index_k rfl 36 _ _ rfl Tryd.underlying36 size_entry x o len cap rfl _ _ rfl j rfl (by omega) ?_)
         | (refine wpList_load_mid rfl 25 _ rfl x (o + j * 64) rfl _ _ hRg.out Tryd.underlying25 rfl (by rw [List.length_map]; exact ent_size64 HD.out HCJ.out) ?_)
         | (
            refine wpList_store_blk rfl 25 _ _ rfl (wr.heap.size) ((entL d c).map (Value.int .u8)).toArray rfl rfl _ 25 (Blk.new rfl (byteCells 64 []) _) 64 size_entry zsize64 (two_size HD.out HCJ.out) (ints_one _ _) ?_
            intro w21 hbw21 hkw21
            have hw21 := hbw21.below ((Below.refl wr.heap.size wr).alloc (Nat.le_refl _) _) (by simp only [World.size_alloc]; omega) (Nat.le_refl _)
            have HBw21 := hid (Below.on HBwr.out hw21)
            have hsw21 := HBw21.out.size
            have Kfw21 := hid (Kfwr.out.below hw21)
            have hlfw21 := Kfwr.out.lt
            have Ktw21 := hid hkw21
            have hfw21 : w.heap.size ≤ wr.heap.size := HBwr.out.size
            have HM21 := hid (HMwr.out.below hw21)
            clear hbw21 hkw21 hw21))
      simp only [Act.put]
      have HF21 := hid (ent_front HD.out (b := c) Ktw21.out)
      have hrl := HM21.out.lt
      have hrt : ¬ wr.heap.size = w.heap.size + 1 := by omega
      by_cases hin : d ∈ m.map Prod.fst
      · skip
        exact absurd hnf (by
          have h2 : (es.map Prod.fst) = (es.take (j + 1)).map Prod.fst ++ (es.drop (j + 1)).map Prod.fst := by rw [← List.map_append, List.take_append_drop]
          rw [h2, HMK.out]
          intro h3
          have h4 := (List.nodup_append.1 (List.nodup_append.1 h3).1).2.2 d hin d (by simp)
          exact h4 rfl)
      · skip
        have hcn := cntM_none hin
        have hpm := putM_new hin
        obtain ⟨j0, hj00⟩ : ∃ j0, j0 = m.length := ⟨_, rfl⟩
        have hpj : (putM m d)[j0]? = some (d, cntM m d) := by rw [hpm, hcn, hj00, List.getElem?_append_right (Nat.le_refl _), Nat.sub_self]; rfl
        have HPJ := hid hpj
        have HPM := hid hpm
        have HCN := hid hcn
        have HIN := hid hin
        skip
        have HJ0 := hid hj00
        clear hpj hpm hcn hin hj00
        have HP21 := hid (show MapP (w.heap.size + 1) m d w21 from .inl HM21.out)
        refine FlowB.wp_region_flow_in (mapPR_rel (w.heap.size + 1) m d) (fun wz => MapP (w.heap.size + 1) m d wz) 7 [0, 1, 2, 3, 4] [] [(.c 5, [6], [])] (by kernel_rfl) (by kernel_rfl) (fun _ h => h.1.size) HP21.out (fun _ _ h hb => h.below hb) ?_
        apply Exists.intro
        refine ⟨fun w0 hb0 hF0 => ?_, ?_⟩
        · skip
          have ml : ∀ w', (∃ x : Ext w0, w' = x.at_) → MapP (w.heap.size + 1) m d w' := fun w' ⟨x, hx⟩ => hx ▸ (hb0.2 HP21.out).below x.same
          have zl : ∀ w', (∃ x : Ext w0, w' = x.at_) → w'.rangeAt wr.heap.size 0 (d.map (Value.int .u8)) := fun w' ⟨x, hx⟩ k v hv => by
            rw [hx]
            exact (x.same.cell (p := ⟨wr.heap.size, 0 + k, none⟩) (Nat.lt_of_lt_of_le Ktw21.out.lt hb0.1.size)).trans (hb0.1.cell Ktw21.out.lt (by simp only [List.mem_singleton]; exact hrt) (HF21.out k v hv))
          simp only [pick, List.getElem?_toArray, List.getElem?_cons_succ, List.getElem?_cons_zero, Option.toList_some, List.cons_append, List.nil_append]
          repeat (first | (go_big_quiet_want; refine quiet_load_mid 23 _ rfl wr.heap.size 0 rfl _ zl _ Tryd.underlying23 rfl (by rw [List.length_map, HD.out.len]; exact size_digest) ?_; go_big_quiet_on; simp only [Act.put, List.setIfInBounds_toArray, List.set_cons_zero, List.set_cons_succ]) | (go_big_quiet_want; refine quiet_lookup_p _ _ rfl rfl rfl HMD.out HMN.out HD.out 0 HCN.out ml ?_; go_big_quiet_on; simp only [Act.put, List.setIfInBounds_toArray, List.set_cons_zero, List.set_cons_succ]) | go_big_quiet_step (fail))
          exact wpQuiet_nil rfl
        refine FlowB.AlChk.nil ?_
        refine FlowB.Walk.does rfl (fun v _ => v = .tuple #[.int .i64 0, .int .i64 j0]) (fun _ w' => MapM (w.heap.size + 1) (putM m d) w') (fun v w' w'' _ h _ => h) (fun v w' w'' h k => h.below k) rfl (fun q1 hb1 hF1 hG1 => ?_) ?_
        · refine ⟨_, _, exec_mapEntry rfl rfl rfl (run_mapEntry_p HMD.out HMN.out HD.out hG1 HPJ.out), ⟨setBlock_in _ _ _, fun _ => .inr (setBlock_at hG1.lt _)⟩, by rw [HCN.out], setBlock_at hG1.lt _⟩
        rintro v1 q1 hb1 hF1 rfl
        apply Exists.intro
        refine ⟨fun w0 hb0 hF0 => ?_, ?_⟩
        · skip
          simp only [pick, List.getElem?_toArray, List.getElem?_cons_succ, List.getElem?_cons_zero, Option.toList_some, List.cons_append, List.nil_append, Act.put, List.setIfInBounds_toArray, List.set_cons_zero, List.set_cons_succ]
          repeat (go_big_quiet_step (fail))
          exact wpQuiet_nil rfl
        refine FlowB.AlChk.nil ?_
        refine FlowB.Walk.fin fun w30 h30 hF30 hG30 => ?_
        simp only [List.drop_succ_cons, List.drop_zero]
        have HB30 := hid (h30.1.below HBw21.out hsw21 (by simp only [List.mem_singleton, forall_eq]; omega))
        have Kf30 := hid (h30.1.blk Kfw21.out (by simp only [List.mem_singleton]; omega))
        have Kt30 := hid (h30.1.blk Ktw21.out (by simp only [List.mem_singleton]; exact hrt))
        have HG30 := hid hG30
        clear h30 hF30 hG30
        go_wp2_with (first
           | (
              refine wpList_entryStore_m (j := j0) (d := d) (v := 0) (u := 1) rfl _ _ _ rfl rfl rfl rfl HG30.out (by rw [HPJ.out, HCN.out]) ?_
              intro w40 hb40 hg40
              have HB40 := hid (hb40.below HB30.out HB30.out.size (by simp only [List.mem_singleton, forall_eq]; omega))
              have Kf40 := hid (hb40.blk Kf30.out (by simp only [List.mem_singleton]; omega))
              have Kt40 := hid (hb40.blk Kt30.out (by simp only [List.mem_singleton]; exact hrt))
              have HM40 := hid hg40
              have HF40 := hid (ent_front HD.out (b := c) Kt40.out)
              have hlk : (Instr.lookup 117 (.map (some (w.heap.size + 1))) (.agg (d.map (Value.int .u8)).toArray) false).run Tryd.prog w40 = .ok (.int .i64 1) w40 := by
                obtain ⟨p1, p2, _⟩ := putM_all HMD.out HMN.out HD.out
                have hl0 : j0 < (putM m d).length := (List.getElem?_eq_some_iff.1 HPJ.out).1
                have hfs : ((putM m d).set j0 (d, 1)).map Prod.fst = (putM m d).map Prod.fst := by
                  apply List.ext_getElem?
                  intro i
                  rw [List.getElem?_map, List.getElem?_map, List.getElem?_set]
                  by_cases hi : j0 = i
                  · subst hi; rw [if_pos rfl, if_pos hl0, HPJ.out]; rfl
                  · rw [if_neg hi]
                have hcc := cntM_at (m := (putM m d).set j0 (d, 1)) (j := j0) (x := (d, 1)) (by rw [hfs]; exact p2) (by rw [List.getElem?_set, if_pos rfl, if_pos hl0])
                have h := run_lookup_m (m := (putM m d).set j0 (d, 1)) (fun x hx => by
                  rcases List.mem_or_eq_of_mem_set hx with hx | rfl
                  · exact p1 x hx
                  · exact HD.out) (by rw [hfs]; exact p2) HD.out HM40.out
                rw [hcc] at h
                exact h
              clear hb40 hg40)
           | (refine wpList_load_mid rfl 23 _ rfl wr.heap.size 0 rfl _ _ HF40.out Tryd.underlying23 rfl (by rw [List.length_map, HD.out.len]; exact size_digest) ?_))
        exact ⟨⟨j + 1, by omega, by first | rfl | simp, HB40.out, Kf40.out, by rw [HMK.out, List.nodup_append]; exact ⟨HMN.out, by simp, fun a ha b hb e => HIN.out (by rw [List.mem_singleton] at hb; rw [← hb, ← e]; exact ha)⟩, by rw [HMO.out]; have h := HM40.out; rw [HPM.out, HJ0.out, List.set_append_right _ _ (Nat.le_refl _), Nat.sub_self] at h; exact h⟩, by simp [intOf]; omega⟩
    · skip
      have hcI : ¬ (j : Int) < (len : Int) := by omega
      have HEw := hid hE
      clear hE hrlt HMwr
      go_wp2_with fail
      refine (values_any a len cap _).mono ?_
      rintro e w2 ⟨rfl, b2, k2⟩
      have Hb2 := hid (Below.on HBwr.out b2)
      have Kf2 := hid (Kfwr.out.below b2)
      have Kv2 := hid k2
      have HE2 := hid (HEw.out.below b2)
      have hs2 := Hb2.out.size
      clear b2 k2
      go_wp2_with fail
      refine (CS.out _ _ Kv2.out HE2.out).mono ?_
      rintro e w3 ⟨a3, c3, fs, rfl, n3, e3, p3, s3, b3⟩
      have Hb3 := hid (Below.on Hb2.out b3)
      have Kf3 := hid (Kf2.out.below b3)
      have HE3 := hid e3
      have HN3 := hid n3
      have hf2 := Kf2.out.lt
      have HP3 := hid p3
      have HS3 := hid s3
      have hs3 := Hb3.out.size
      clear b3 e3 p3 s3 n3
      go_wp2_with fail
      refine (empty_any _ (Htab.out.below Hb3.out)).mono ?_
      rintro e w4 ⟨rfl, b4, k4⟩
      have Hb4 := hid (Below.on Hb3.out b4)
      have Kf4 := hid (Kf3.out.below b4)
      have HE4 := hid (HE3.out.below b4)
      have Kg4 := hid k4
      have hs4 := Hb4.out.size
      have hf3 := Kf3.out.lt
      clear b4 k4
      have Kgw21 : Hid (Blk ((w4.setCell ⟨w.heap.size, 0, none⟩ (.slice a3 len c3)).setCell ⟨w.heap.size, 1, none⟩ (.slice (some ⟨w3.heap.size, 0, none⟩) 257 257)) (w3.heap.size) (dcs (empN 257)) 23) := hid (Blk.setAll_other (b := w.heap.size) (by have := Kg4.out.lt; omega) [.slice a3 len c3, .slice (some ⟨w3.heap.size, 0, none⟩) 257 257] 0 _ Kg4.out)
      have q0w21 := (Kf4.out.cell 0).trans (show _ = some _ from rfl)
      have r0w21 := Kf4.out.free 0
      have q1w21 := (Kf4.out.cell 1).trans (show _ = some _ from rfl)
      have r1w21 := Kf4.out.free 1
      have Kfw21 : Hid (Blk ((w4.setCell ⟨w.heap.size, 0, none⟩ (.slice a3 len c3)).setCell ⟨w.heap.size, 1, none⟩ (.slice (some ⟨w3.heap.size, 0, none⟩) 257 257)) (w.heap.size) #[.slice a3 len c3, .slice (some ⟨w3.heap.size, 0, none⟩) 257 257] 76) := hid (Blk.setAll_self Kf4.out [.slice a3 len c3, .slice (some ⟨w3.heap.size, 0, none⟩) 257 257] rfl)
      have HBw21 : Hid (Below w.heap.size w ((w4.setCell ⟨w.heap.size, 0, none⟩ (.slice a3 len c3)).setCell ⟨w.heap.size, 1, none⟩ (.slice (some ⟨w3.heap.size, 0, none⟩) 257 257))) := hid (Below.setAll (by omega) [.slice a3 len c3, .slice (some ⟨w3.heap.size, 0, none⟩) 257 257] 0 _ Hb4.out)
      have hsw21 := HBw21.out.size
      go_wp2_with fail
      exact bodyPost_ret (v := .tuple #[.agg #[.slice a3 len c3, .slice (some ⟨w3.heap.size, 0, none⟩) 257 257], .int .i64 0]) (results_blk_tmp Tryd.results49 _ (w.heap.size) rfl _ rfl _ 76 Kfw21.out _ Tryd.underlying76 rfl 2 size_forest rfl) rfl ⟨_, a3, c3, fs, rfl, (HE4.out.set (p := ⟨w.heap.size, 0, none⟩) (fun x o hx => by have := HN3.out x o hx; show x ≠ w.heap.size; omega) _).set (p := ⟨w.heap.size, 1, none⟩) (fun x o hx => by have := HN3.out x o hx; show x ≠ w.heap.size; omega) _, HP3.out, HS3.out, HBw21.out, Kgw21.out⟩
end Go.Proofs.YthaicocfbmpnmaaDoor
