/-
  Layer 17: the root of a tree of no entries, and the rows of the examples.
-/
import Derived.Test.YthaicocfbmpnmaaDoorPtF
namespace Go.Proofs.YthaicocfbmpnmaaDoor
open Go.ChangeShapes Go.WideShapes Go.ChangeAt Go.RowKit

set_option maxHeartbeats 4000000 in
set_option maxRecDepth 100000 in
theorem node_none (g : Nat) (w : World) (hg : Blk w g (dcs (empN 257)) 23) :
    Calls Tryd.prog 50 #[.agg #[.slice none 0 0, .slice (some ⟨g, 0, none⟩) 257 257], .slice none 0 0, .int .i64 256] w fun e w' => e = .returned (.agg ((emptyL 256).map (Value.int .u8)).toArray) ∧ Below w.heap.size w w' := by
  have hds := empN_each 257
  have hlen := empN_length 257
  have hget := empN_get (n := 257) (k := 256) (by omega)
  have hX := Dg.emptyL 256
  generalize empN 257 = ds at *
  have b1 := (Below.refl w.heap.size w).alloc (Nat.le_refl _) (.cells #[.slice none 0 0, .slice (some ⟨g, 0, none⟩) 257 257] 76 (0, 0))
  have b2 := b1.alloc b1.size (.cells (byteCells 32 []) 23 (0, 0))
  have Kx := hid ((Blk.new (w := w) (n := w.heap.size) rfl #[.slice none 0 0, .slice (some ⟨g, 0, none⟩) 257 257] 76).old (.cells (byteCells 32 []) 23 (0, 0)))
  have Kr := hid (Blk.new (w := (w.alloc (.cells #[.slice none 0 0, .slice (some ⟨g, 0, none⟩) 257 257] 76 (0, 0)))) (n := w.heap.size + 1) (by simp only [World.size_alloc]) (byteCells 32 []) 23)
  have Hb := hid b2
  have hbz := b2.size
  have Hbs := hid (show w.heap.size + 1 + 1 = ((w.alloc (.cells #[.slice none 0 0, .slice (some ⟨g, 0, none⟩) 257 257] 76 (0, 0))).alloc (.cells (byteCells 32 []) 23 (0, 0))).heap.size by simp only [World.size_alloc])
  clear b1 b2 
  go_enter Tryd.func50, Tryd.ntmps50
  have Hrg := hid (dig_rng (hg.below Hb.out) hds (j := 256) (by rw [hlen]; omega))
  rw [hget] at Hrg
  have HX := hid hX
  generalize hX1 : emptyL 256 = X at *
  have cx1 : ((w.alloc (.cells #[.slice none 0 0, .slice (some ⟨g, 0, none⟩) 257 257] 76 (0, 0))).alloc (.cells (byteCells 32 []) 23 (0, 0))).cell? ⟨w.heap.size, 1, none⟩ = some (.slice (some ⟨g, 0, none⟩) 257 257) := by rw [Kx.out.cell]; rfl
  go_wp2_with (first
     | (refine wpList_index_digs rfl 27 _ _ rfl Tryd.underlying27 size_digest g 0 257 257 rfl _ _ rfl 256 rfl (by omega) ?_)
     | (refine wpList_load_mid rfl 23 _ rfl g (0 + 256 * 32) rfl _ _ Hrg.out Tryd.underlying23 rfl (by rw [List.length_map, HX.out.len]; exact size_digest) ?_)
     | (
      refine wpList_store_blk rfl 23 _ _ rfl (w.heap.size + 1) (X.map (Value.int .u8)).toArray rfl rfl _ 23 Kr.out 32 size_digest zsize HX.out.size (ints_one _ _) ?_
      intro w9 hb9 hk9
      have HB9 := hid (hb9.below Hb.out Hb.out.size (by omega))
      have HK9 := hid hk9
      clear hb9 hk9))
  exact bodyPost_ret (v := .agg (X.map (Value.int .u8)).toArray) (results_blk Tryd.results50 _ (w.heap.size + 1) rfl _ 23 HK9.out _ Tryd.underlying23 rfl 32 size_digest HX.out.size) rfl ⟨by first | rfl | rw [hX1], HB9.out⟩

set_option maxHeartbeats 4000000 in
set_option maxRecDepth 100000 in
theorem root_none (w : World) (tab : ShaTab w) :
    Calls Tryd.prog 22 #[.slice none 0 0] w fun e w' => e = .returned (.tuple #[.agg ((emptyL 256).map (Value.int .u8)).toArray, .int .i64 0]) ∧ Below w.heap.size w w' := by
  have b1 := (Below.refl w.heap.size w).alloc (Nat.le_refl _) (.cells (byteCells 32 []) 23 (0, 0))
  have Kr := hid (Blk.new (w := w) (n := w.heap.size) rfl (byteCells 32 []) 23)
  have Hb := hid b1
  have hbz := b1.size
  have Hbs := hid (show w.heap.size + 1 = (w.alloc (.cells (byteCells 32 []) 23 (0, 0))).heap.size by simp only [World.size_alloc])
  have Htab := hid tab
  clear b1 tab 
  go_enter Tryd.func22, Tryd.ntmps22
  go_wp2_with fail
  refine (grow_none _ (Htab.out.below Hb.out)).mono ?_
  rintro e w1 ⟨g, rfl, hg, b1, kg⟩
  have Hb1 := hid (Below.on Hb.out b1)
  have Kr1 := hid (Kr.out.below b1)
  have hs1 := Hb1.out.size
  have hr1 := Kr1.out.lt
  clear b1
  have Krw21 := hid (Kr1.out.old (.cells #[.slice none 0 0, .slice (some ⟨g, 0, none⟩) 257 257] 76 (0, 0)))
  have hlrw21 := Kr1.out.lt
  have Kxw21 := hid (Blk.new (w := w1) rfl #[.slice none 0 0, .slice (some ⟨g, 0, none⟩) 257 257] 76)
  have HBw21 := hid (Hb1.out.alloc Hb1.out.size (.cells #[.slice none 0 0, .slice (some ⟨g, 0, none⟩) 257 257] 76 (0, 0)))
  have hsw21 := HBw21.out.size
  have hfw21 : w.heap.size ≤ w1.heap.size := Hb1.out.size
  have cx0 : (w1.alloc (.cells #[.slice none 0 0, .slice (some ⟨g, 0, none⟩) 257 257] 76 (0, 0))).cell? ⟨w1.heap.size, 0, none⟩ = some (.slice none 0 0) := by rw [Kxw21.out.cell]; rfl
  go_wp2_with (refine wpList_load_blk rfl 76 _ rfl (w1.heap.size) rfl _ 76 Kxw21.out _ Tryd.underlying76 rfl 2 size_forest rfl ?_)
  refine (node_none g _ (kg.below ((Below.refl _ _).alloc (Nat.le_refl _) _))).mono ?_
  rintro e w22 ⟨rfl, bw22⟩
  have HBw22 := hid (Below.on HBw21.out bw22)
  have hsw22 := HBw22.out.size
  have Krw22 := hid (Krw21.out.below bw22)
  have Kxw22 := hid (Kxw21.out.below bw22)
  clear bw22
  have HX := hid (Dg.emptyL 256)
  generalize hX1 : emptyL 256 = X at *
  go_wp2_with (
      refine wpList_store_blk rfl 23 _ _ rfl (w.heap.size) (X.map (Value.int .u8)).toArray rfl rfl _ 23 Krw22.out 32 size_digest zsize HX.out.size (ints_one _ _) ?_
      intro w9 hb9 hk9
      have HB9 := hid (hb9.below HBw22.out HBw22.out.size (by omega))
      have HK9 := hid hk9
      clear hb9 hk9)
  exact bodyPost_ret (v := .tuple #[.agg (X.map (Value.int .u8)).toArray, .int .i64 0]) (results_blk_tmp Tryd.results22 _ (w.heap.size) rfl _ rfl _ 23 HK9.out _ Tryd.underlying23 rfl 32 size_digest HX.out.size) rfl ⟨by first | rfl | rw [hX1], HB9.out⟩

set_option maxHeartbeats 4000000 in
set_option maxRecDepth 100000 in
theorem root_many (a : Option Addr) (n c : Nat) (hn : 256 < n) (w : World) :
    Calls Tryd.prog 22 #[.slice a n c] w fun e w' => e = .returned (.tuple #[.agg (zD.map (Value.int .u8)).toArray, .int .i64 3]) ∧ Below w.heap.size w w' := by
  have b1 := (Below.refl w.heap.size w).alloc (Nat.le_refl _) (.cells (byteCells 32 []) 23 (0, 0))
  have Kr := hid (Blk.new (w := w) (n := w.heap.size) rfl (byteCells 32 []) 23)
  have Hb := hid b1
  have hbz := b1.size
  have Hbs := hid (show w.heap.size + 1 = (w.alloc (.cells (byteCells 32 []) 23 (0, 0))).heap.size by simp only [World.size_alloc])
  clear b1 
  go_enter Tryd.func22, Tryd.ntmps22
  go_wp2_with fail
  refine (grow_many a n c hn _).mono ?_
  rintro e w1 ⟨rfl, b1⟩
  have Hb1 := hid (Below.on Hb.out b1)
  have Kr1 := hid (Kr.out.below b1)
  have hs1 := Hb1.out.size
  have hr1 := Kr1.out.lt
  clear b1
  have Krw21 := hid (Kr1.out.old (.cells #[.slice none 0 0, .slice none 0 0] 76 (0, 0)))
  have hlrw21 := Kr1.out.lt
  have Kxw21 := hid (Blk.new (w := w1) rfl #[.slice none 0 0, .slice none 0 0] 76)
  have HBw21 := hid (Hb1.out.alloc Hb1.out.size (.cells #[.slice none 0 0, .slice none 0 0] 76 (0, 0)))
  have hsw21 := HBw21.out.size
  have hfw21 : w.heap.size ≤ w1.heap.size := Hb1.out.size
  have cx0 : (w1.alloc (.cells #[.slice none 0 0, .slice none 0 0] 76 (0, 0))).cell? ⟨w1.heap.size, 0, none⟩ = some (.slice none 0 0) := by rw [Kxw21.out.cell]; rfl
  go_wp2_with (
      refine wpList_store_blk rfl 23 _ _ rfl (w.heap.size) (zD.map (Value.int .u8)).toArray rfl rfl _ 23 Krw21.out 32 size_digest zsize Dg.zero.size (ints_one _ _) ?_
      intro w9 hb9 hk9
      have HB9 := hid (hb9.below HBw21.out HBw21.out.size (by omega))
      have HK9 := hid hk9
      clear hb9 hk9)
  exact bodyPost_ret (v := .tuple #[.agg (zD.map (Value.int .u8)).toArray, .int .i64 3]) (results_blk_tmp Tryd.results22 _ (w.heap.size) rfl _ rfl _ 23 HK9.out _ Tryd.underlying23 rfl 32 size_digest Dg.zero.size) rfl ⟨rfl, HB9.out⟩

set_option maxHeartbeats 4000000 in
set_option maxRecDepth 100000 in
theorem root_twice (a : Option Addr) (cap : Nat) (es : List (List Int × List Int)) (d : List Int) (kl : Lit) (w : World) (hkey : keyOf Tryd.prog 23 (.agg (d.map (Value.int .u8)).toArray) = some kl) (hE : EntsAt w a 2 cap es) (hd : Dg d) (hs : ∀ j, j < 2 → (es.getD j ([], [])).1 = d) :
    Calls Tryd.prog 22 #[.slice a 2 cap] w fun e w' => e = .returned (.tuple #[.agg (zD.map (Value.int .u8)).toArray, .int .i64 5]) ∧ Below w.heap.size w w' := by
  have b1 := (Below.refl w.heap.size w).alloc (Nat.le_refl _) (.cells (byteCells 32 []) 23 (0, 0))
  have Kr := hid (Blk.new (w := w) (n := w.heap.size) rfl (byteCells 32 []) 23)
  have Hb := hid b1
  have hbz := b1.size
  have Hbs := hid (show w.heap.size + 1 = (w.alloc (.cells (byteCells 32 []) 23 (0, 0))).heap.size by simp only [World.size_alloc])
  clear b1 
  go_enter Tryd.func22, Tryd.ntmps22
  go_wp2_with fail
  refine (grow_twice a cap es d kl _ hkey (hE.below Hb.out) hd hs).mono ?_
  rintro e w1 ⟨rfl, b1⟩
  have Hb1 := hid (Below.on Hb.out b1)
  have Kr1 := hid (Kr.out.below b1)
  have hs1 := Hb1.out.size
  have hr1 := Kr1.out.lt
  clear b1
  have Krw21 := hid (Kr1.out.old (.cells #[.slice none 0 0, .slice none 0 0] 76 (0, 0)))
  have hlrw21 := Kr1.out.lt
  have Kxw21 := hid (Blk.new (w := w1) rfl #[.slice none 0 0, .slice none 0 0] 76)
  have HBw21 := hid (Hb1.out.alloc Hb1.out.size (.cells #[.slice none 0 0, .slice none 0 0] 76 (0, 0)))
  have hsw21 := HBw21.out.size
  have hfw21 : w.heap.size ≤ w1.heap.size := Hb1.out.size
  have cx0 : (w1.alloc (.cells #[.slice none 0 0, .slice none 0 0] 76 (0, 0))).cell? ⟨w1.heap.size, 0, none⟩ = some (.slice none 0 0) := by rw [Kxw21.out.cell]; rfl
  go_wp2_with (
      refine wpList_store_blk rfl 23 _ _ rfl (w.heap.size) (zD.map (Value.int .u8)).toArray rfl rfl _ 23 Krw21.out 32 size_digest zsize Dg.zero.size (ints_one _ _) ?_
      intro w9 hb9 hk9
      have HB9 := hid (hb9.below HBw21.out HBw21.out.size (by omega))
      have HK9 := hid hk9
      clear hb9 hk9)
  exact bodyPost_ret (v := .tuple #[.agg (zD.map (Value.int .u8)).toArray, .int .i64 5]) (results_blk_tmp Tryd.results22 _ (w.heap.size) rfl _ rfl _ 23 HK9.out _ Tryd.underlying23 rfl 32 size_digest Dg.zero.size) rfl ⟨rfl, HB9.out⟩

theorem info_ent : (Tryd.prog.info? 25).map (fun i => (i.zero, i.size, i.bytes)) = some (some (.agg ((entL zD zD).map (Value.int .u8)).toArray), 64, 64) := by kernel_rfl
theorem make_ents (n : Nat) (i : Int) (hi : i = n) (hn : n ≤ 5000) (w0 : World) : (Instr.makeSlice 36 (.int .i64 i) (.int .i64 i)).run Tryd.prog w0 = .ok (.slice (some ⟨w0.heap.size, 0, none⟩) n n) (w0.alloc (.cells (madeCells ((entL zD zD).map (Value.int .u8)).toArray (n * 64)) 25)) := by
  subst hi
  obtain ⟨i0, hi, hz0, hz1, hz2⟩ := info_parts info_ent
  have hr := run_makeSlice (P := Tryd.prog) w0 36 25 i0 _ Tryd.underlying36 hi hz0 .i64 .i64 n n (by omega) (by omega) (by rw [hz1]; simp; omega) (by rw [hz2]; omega) (by omega)
  rw [hz1, Int.toNat_natCast] at hr
  exact hr
theorem zEnt (k : Nat) (hk : k < 64) : (entL zD zD)[k]? = some 0 := by
  unfold entL zD
  rw [List.replicate_append_replicate, List.getElem?_replicate, if_pos hk]
theorem made_ent (n j k : Nat) (hj : j < n) (hk : k < 64) : (madeCells ((entL zD zD).map (Value.int .u8)).toArray (n * 64))[j * 64 + k]? = some (.int .u8 0) := by
  have hsz : (((entL zD zD).map (Value.int .u8)).toArray).size = 64 := two_size Dg.zero Dg.zero
  have hlt : j * 64 + k < n * 64 := by omega
  have hm : (j * 64 + k) % 64 = k := by omega
  have hc : (((entL zD zD).map (Value.int .u8)).toArray)[k]! = Value.int .u8 0 := by
    rw [getElem!_pos _ _ (by rw [hsz]; exact hk)]
    have h := zEnt k hk
    have h2 : (((entL zD zD).map (Value.int .u8)).toArray)[k]? = some (.int .u8 0) := by rw [List.getElem?_toArray, List.getElem?_map, h]; rfl
    rw [Array.getElem?_eq_getElem (by rw [hsz]; exact hk)] at h2
    exact Option.some.inj h2
  unfold madeCells
  rw [Array.getElem?_map, Array.getElem?_range, if_pos hlt]
  show some ((((entL zD zD).map (Value.int .u8)).toArray)[(j * 64 + k) % (((entL zD zD).map (Value.int .u8)).toArray).size]!) = _
  rw [hsz, hm, hc]
theorem ents_two {w : World} {g : Nat} {T : TypeId} (h : Blk w g (madeCells ((entL zD zD).map (Value.int .u8)).toArray (2 * 64)) T) : EntsAt w (some ⟨g, 0, none⟩) 2 2 [(zD, zD), (zD, zD)] :=
  ⟨rfl, Nat.le_refl _, by simp [Dg.zero], .inr ⟨g, 0, rfl, h.lt, fun j hj k v hv => by
    have hk : k < 64 := by
      have := (List.getElem?_eq_some_iff.1 hv).1
      rw [List.length_map] at this
      have hl : (entL ([(zD, zD), (zD, zD)].getD j ([], [])).1 ([(zD, zD), (zD, zD)].getD j ([], [])).2).length = 64 := by
        rcases (show j = 0 ∨ j = 1 by omega) with rfl | rfl <;> simp [entL, zD]
      omega
    rw [Nat.zero_add, h.cell, made_ent 2 j k hj hk, ← hv]
    rcases (show j = 0 ∨ j = 1 by omega) with rfl | rfl
    · show _ = ((entL zD zD).map (Value.int .u8))[k]?
      rw [List.getElem?_map, zEnt k hk]; rfl
    · show _ = ((entL zD zD).map (Value.int .u8))[k]?
      rw [List.getElem?_map, zEnt k hk]; rfl⟩⟩
theorem key_zero : (keyOf Tryd.prog 23 (.agg (zD.map (Value.int .u8)).toArray)).isSome = true := by kernel_rfl
theorem bit_first : bitL (128 :: List.replicate 31 0) 255 = 1 := by decide +kernel
theorem bit_last : bitL (List.replicate 31 0 ++ [1]) 0 = 1 := by decide +kernel
theorem dg_first : Dg (128 :: List.replicate 31 0) := ⟨by simp, fun x hx => by
  rcases List.mem_cons.1 hx with rfl | hx
  · omega
  · have := List.eq_of_mem_replicate hx; omega⟩
theorem dg_last : Dg (List.replicate 31 0 ++ [1]) := ⟨by simp, fun x hx => by
  rcases List.mem_append.1 hx with hx | hx
  · have := List.eq_of_mem_replicate hx; omega
  · simp at hx; omega⟩

theorem quiet_build_c {op : Oper} {a : Act} {C : World → Prop} {K : Act → Prop} (T : TypeId) (i : Nat) (c v : Value) (ho : op.op = .build T #[(i, .const c)]) (hr : ∀ w', (Instr.build T #[(i, c)]).run Tryd.prog w' = .ok v w') (h : K (a.put op.dst v)) : op.quiet Tryd.prog a C K :=
  ⟨v, fun w' _ => by
    unfold Oper.quietAt execOp
    simp only [ho, List.map_toArray, List.map_cons, List.map_nil, Act.eval, Sem.run_bind, hr w', Result.andThen_ok, Sem.run_pure]
    simp [Oper.quietUpon], h⟩
set_option maxRecDepth 100000 in
theorem build_first (w : World) : (Instr.build 23 #[(0, .int .u8 128)]).run Tryd.prog w = .ok (.agg ((128 :: List.replicate 31 0 : List Int).map (Value.int .u8)).toArray) w := by
  kernel_rfl
set_option maxRecDepth 100000 in
theorem build_last (w : World) : (Instr.build 23 #[(31, .int .u8 1)]).run Tryd.prog w = .ok (.agg ((List.replicate 31 0 ++ [1] : List Int).map (Value.int .u8)).toArray) w := by
  kernel_rfl

set_option maxHeartbeats 4000000 in
set_option maxRecDepth 100000 in
theorem knows17 (w : World) (tab : ShaTab w) :
    Calls Tryd.prog 21 #[] w fun e w' => e = .returned (.bool true) ∧ Below w.heap.size w w' := by
  have hm2 := fun W : World => make_ents 2 2 rfl (by omega) W
  have hm3 := fun W : World => make_ents 257 257 rfl (by omega) W
  obtain ⟨kl, hkl⟩ := Option.isSome_iff_exists.1 key_zero
  have CR := hid (fun (W : World) (t : ShaTab W) => root_none W t)
  have CE := hid (fun (W : World) (t : ShaTab W) => empty_any W t)
  have CE2 := hid (fun (W : World) (g : Nat) (T : TypeId) (h : Blk W g (madeCells ((entL zD zD).map (Value.int .u8)).toArray (2 * 64)) T) => ents_two h)
  have Hds := hid (empN_each 257)
  have Hlen := hid (empN_length 257)
  have hget := empN_get (n := 257) (k := 256) (by omega)
  have HX := hid (Dg.emptyL 256)
  generalize emptyL 256 = X at *
  generalize empN 257 = ds at *
  generalize madeCells ((entL zD zD).map (Value.int .u8)).toArray (2 * 64) = M2 at *
  generalize madeCells ((entL zD zD).map (Value.int .u8)).toArray (257 * 64) = M3 at *
  have CB1 := hid (show ∀ W : World, Calls Tryd.prog 19 #[.agg ((128 :: List.replicate 31 0 : List Int).map (Value.int .u8)).toArray, .int .i64 255] W (fun e w' => e = .returned (.int .i64 1) ∧ Below W.heap.size W w') from fun W => bit_first ▸ bit_in (128 :: List.replicate 31 0) 255 W dg_first (by omega))
  have CB2 := hid (show ∀ W : World, Calls Tryd.prog 19 #[.agg ((List.replicate 31 0 ++ [1] : List Int).map (Value.int .u8)).toArray, .int .i64 0] W (fun e w' => e = .returned (.int .i64 1) ∧ Below W.heap.size W w') from fun W => bit_last ▸ bit_in (List.replicate 31 0 ++ [1]) 0 W dg_last (by omega))
  have BF := build_first
  have BL := build_last
  generalize (128 :: List.replicate 31 0 : List Int) = d1 at *
  generalize (List.replicate 31 0 ++ [1] : List Int) = d2 at *
  have Hb := hid (Below.refl w.heap.size w)
  have Htab := hid tab
  clear tab
  go_enter Tryd.func21, Tryd.ntmps21
  go_wp2_with fail
  refine (CR.out _ Htab.out).mono ?_
  rintro e w1 ⟨rfl, bw1⟩
  have HBw1 := hid (Below.on Hb.out bw1)
  have hsw1 := HBw1.out.size
  clear bw1
  go_wp2_with (
        refine wpList_store_blk rfl 23 _ _ rfl (w1.heap.size) (X.map (Value.int .u8)).toArray rfl rfl _ 23 (Blk.new rfl (byteCells 32 []) _) 32 size_digest zsize HX.out.size (ints_one _ _) ?_
        intro w2 hbw2 hkw2
        have hw2 := hbw2.below ((Below.refl w1.heap.size w1).alloc (Nat.le_refl _) _) (by simp only [World.size_alloc]; omega) (Nat.le_refl _)
        have HBw2 := hid (Below.on HBw1.out hw2)
        have hsw2 := HBw2.out.size
        have Kxw2 := hid hkw2
        have hfw2 : w.heap.size ≤ w1.heap.size := HBw1.out.size
        clear hbw2 hkw2 hw2)
  refine (CE.out _ (Htab.out.below HBw2.out)).mono ?_
  rintro e w3 ⟨rfl, b3, k3⟩
  have Kgw3 := hid k3
  clear k3
  have HBw3 := hid (Below.on HBw2.out b3)
  have hsw3 := HBw3.out.size
  have Kxw3 := hid (Kxw2.out.below b3)
  clear b3
  go_wp2_with fail
  have ba := (Below.refl w3.heap.size w3).alloc (Nat.le_refl _) (.cells M2 25 (0, 0))
  have HK2 := hid (CE2.out _ _ _ (Blk.new (w := w3) rfl M2 25))
  refine (root_twice _ 2 [(zD, zD), (zD, zD)] zD kl _ hkl HK2.out Dg.zero (fun j hj => by rcases (show j = 0 ∨ j = 1 by omega) with rfl | rfl <;> rfl)).mono ?_
  rintro e w5 ⟨rfl, b5⟩
  have b5 := Below.on ba b5
  clear ba
  have HBw5 := hid (Below.on HBw3.out b5)
  have hsw5 := HBw5.out.size
  have Kxw5 := hid (Kxw3.out.below b5)
  have Kgw5 := hid (Kgw3.out.below b5)
  have HBB5 := hid b5
  clear b5
  go_wp2_with (
        refine wpList_store_blk rfl 23 _ _ rfl (w5.heap.size) (zD.map (Value.int .u8)).toArray rfl rfl _ 23 (Blk.new rfl (byteCells 32 []) _) 32 size_digest zsize Dg.zero.size (ints_one _ _) ?_
        intro w6 hbw6 hkw6
        have hw6 := hbw6.below ((Below.refl w5.heap.size w5).alloc (Nat.le_refl _) _) (by simp only [World.size_alloc]; omega) (Nat.le_refl _)
        have HBw6 := hid (Below.on HBw5.out hw6)
        have hsw6 := HBw6.out.size
        have Kxw6 := hid (Kxw5.out.below hw6)
        have hlxw6 := Kxw5.out.lt
        have Kgw6 := hid (Kgw5.out.below hw6)
        have hlgw6 := Kgw5.out.lt
        have Kyw6 := hid hkw6
        have hfw6 : w.heap.size ≤ w5.heap.size := HBw5.out.size
        clear hbw6 hkw6 hw6)
  have ba := (Below.refl w6.heap.size w6).alloc (Nat.le_refl _) (.cells M3 25 (0, 0))
  refine (root_many _ 257 257 (by omega) _).mono ?_
  rintro e w8 ⟨rfl, b8⟩
  have b8 := Below.on ba b8
  clear ba
  have HBw8 := hid (Below.on HBw6.out b8)
  have hsw8 := HBw8.out.size
  have Kxw8 := hid (Kxw6.out.below b8)
  have Kgw8 := hid (Kgw6.out.below b8)
  have Kyw8 := hid (Kyw6.out.below b8)
  clear b8
  go_wp2_with (
        refine wpList_store_blk rfl 23 _ _ rfl (w8.heap.size) (zD.map (Value.int .u8)).toArray rfl rfl _ 23 (Blk.new rfl (byteCells 32 []) _) 32 size_digest zsize Dg.zero.size (ints_one _ _) ?_
        intro w9 hbw9 hkw9
        have hw9 := hbw9.below ((Below.refl w8.heap.size w8).alloc (Nat.le_refl _) _) (by simp only [World.size_alloc]; omega) (Nat.le_refl _)
        have HBw9 := hid (Below.on HBw8.out hw9)
        have hsw9 := HBw9.out.size
        have Kxw9 := hid (Kxw8.out.below hw9)
        have hlxw9 := Kxw8.out.lt
        have Kgw9 := hid (Kgw8.out.below hw9)
        have hlgw9 := Kgw8.out.lt
        have Kyw9 := hid (Kyw8.out.below hw9)
        have hlyw9 := Kyw8.out.lt
        have Kz_w9 := hid hkw9
        have hfw9 : w.heap.size ≤ w8.heap.size := HBw8.out.size
        clear hbw9 hkw9 hw9)
  have HRz := hid (dig_rng Kgw9.out Hds.out (j := 256) (by rw [Hlen.out]; omega))
  rw [hget] at HRz
  have hgz := Kgw9.out.lt
  have q1 := fun W => eqD_self X HX.out.len W
  refine wp_region_flow 32 (List.range 32) [] [] (by kernel_rfl) (by kernel_rfl) ?_
  apply Exists.intro
  refine ⟨fun w0 hb0 hF0 => ?_, ?_⟩
  · skip
    have x0 : ∀ w', (∃ x : Ext w0, w' = x.at_) → ∃ T, Blk w' (w1.heap.size) (X.map (Value.int .u8)).toArray T := fun w' ⟨x, hx⟩ => ⟨_, hx ▸ (Kxw9.out.below hb0).below x.same⟩
    have c0 := fun e : Ext w0 => CB1.out e.at_
    have c1 := fun e : Ext w0 => CB2.out e.at_
    have yr : ∀ w', (∃ x : Ext w0, w' = x.at_) → w'.rangeAt w2.heap.size (0 + 256 * 32) (X.map (Value.int .u8)) := fun w' ⟨x, hx⟩ j v hv => by rw [hx]; exact ((Below.on hb0 x.same).cell (p := ⟨w2.heap.size, 0 + 256 * 32 + j, none⟩) hgz).trans (HRz.out j v hv)
    simp only [pick, List.range, List.range.loop, List.getElem?_toArray, List.getElem?_cons_succ, List.getElem?_cons_zero, Option.toList_some, List.cons_append, List.nil_append]
    repeat (first | (go_big_quiet_want; refine quiet_load_blk 23 _ rfl (w1.heap.size) rfl _ x0 _ Tryd.underlying23 rfl 32 size_digest HX.out.size ?_; go_big_quiet_on; simp only [Act.put, List.setIfInBounds_toArray, List.set_cons_zero, List.set_cons_succ]) | (go_big_quiet_want; refine quiet_index_digs 27 _ _ rfl Tryd.underlying27 size_digest w2.heap.size 0 257 257 rfl _ _ rfl 256 rfl (by omega) ?_; go_big_quiet_on; simp only [Act.put, List.setIfInBounds_toArray, List.set_cons_zero, List.set_cons_succ]) | (go_big_quiet_want; refine quiet_load_mid 23 _ rfl w2.heap.size (0 + 256 * 32) rfl _ yr _ Tryd.underlying23 rfl (by rw [List.length_map, HX.out.len]; exact size_digest) ?_; go_big_quiet_on; simp only [Act.put, List.setIfInBounds_toArray, List.set_cons_zero, List.set_cons_succ]) | (go_big_quiet_want; refine quiet_build_c 23 0 (.int .u8 128) _ rfl BF ?_; go_big_quiet_on; simp only [Act.put, List.setIfInBounds_toArray, List.set_cons_zero, List.set_cons_succ]) | (go_big_quiet_want; refine quiet_build_c 23 31 (.int .u8 1) _ rfl BL ?_; go_big_quiet_on; simp only [Act.put, List.setIfInBounds_toArray, List.set_cons_zero, List.set_cons_succ]) | (go_big_quiet_want; refine quiet_cmp _ _ rfl _ _ _ rfl rfl q1 ?_; go_big_quiet_on; simp only [Act.put, List.setIfInBounds_toArray, List.set_cons_zero, List.set_cons_succ]) | go_big_quiet_step (first | (go_at_call 19; with_reducible exact Calls.ext (c0 _)) | (go_at_call 19; with_reducible exact Calls.ext (c1 _))))
    exact wpQuiet_nil rfl
  refine AlChk.nil ?_
  refine Walk.fin fun w10 hw10 _ _ => ?_
  simp only [List.drop_succ_cons, List.drop_zero]
  have HBw10 := hid (Below.on HBw9.out hw10)
  have hsw10 := HBw10.out.size
  have Kxw10 := hid (Kxw9.out.below hw10)
  have Kgw10 := hid (Kgw9.out.below hw10)
  have Kyw10 := hid (Kyw9.out.below hw10)
  have Kz_w10 := hid (Kz_w9.out.below hw10)
  clear hw10
  go_wp2_with fail
  go_returns
  exact ⟨by first | rfl | simp, HBw10.out⟩
end Go.Proofs.YthaicocfbmpnmaaDoor
