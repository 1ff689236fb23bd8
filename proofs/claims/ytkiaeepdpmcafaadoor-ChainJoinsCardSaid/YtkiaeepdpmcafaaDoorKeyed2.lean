/-
  Contracts of keyed: At, Message, Mask.
-/
import Derived.Test.YtkiaeepdpmcafaaDoorKeyed
import Derived.Test.YtkiaeepdpmcafaaDoorAdrsBytes
namespace Go.Proofs.YtkiaeepdpmcafaaDoor
open Go.ChangeShapes Go.WideShapes Go.ChangeAt Go.RowKit

/-- an address's words -/
structure Aw (xs : List Int) : Prop where
  len : xs.length = 8
  small : ∀ x ∈ xs, 0 ≤ x ∧ x < 4294967296
theorem Aw.size {xs : List Int} (h : Aw xs) : ((xs.map (Value.int .u32)).toArray).size = 8 := by simp [h.len]
@[irreducible] def atZ (key ad : List Int) : List Int := prfZ key (wordBytes ad)
theorem Dg.at_ (a b : List Int) : Dg (atZ a b) := by unfold atZ; exact Dg.prf _ _
/-- what 'adrs.Bytes' hands back -/
def BytesAt (ad : List Int) (v : Value) (w : World) : Prop := ∃ g cap, v = .slice (some ⟨g, 0, none⟩) 32 cap ∧ 32 ≤ cap ∧ cap ≤ 9223372036854775807 ∧ Row8 w g (wordBytes ad)
theorem BytesAt.below {ad : List Int} {v : Value} {w w' : World} (h : BytesAt ad v w) (hb : Below w.heap.size w w') : BytesAt ad v w' := by
  obtain ⟨g, c, h1, h2, h3, h4⟩ := h
  exact ⟨g, c, h1, h2, h3, h4.below hb⟩
theorem BytesAt.text {ad : List Int} (hl : ad.length = 8) {a : Option Addr} {n c : Nat} {w : World} (h : BytesAt ad (.slice a n c) w) : TextAt w a n c (wordBytes ad) := by
  obtain ⟨g', c', h1, h2, h3, h4⟩ := h
  injection h1 with e1 e2 e3
  subst e1 e2 e3
  exact TextAt.of_row h4 (by rw [wordBytes_length, hl]) h2 h3 (wordBytes_small _)

set_option maxHeartbeats 2000000 in
set_option maxRecDepth 100000 in
theorem At_any (key ad : List Int) (w : World) (hkey : Dg key) (ha : Aw ad) (tab : ShaTab w) :
    Calls Tryd.prog 31 #[.agg (key.map (Value.int .u8)).toArray, .agg (ad.map (Value.int .u32)).toArray] w fun e w' => e = .returned (.agg ((atZ key ad).map (Value.int .u8)).toArray) ∧ Below w.heap.size w w' := by
  have HM : Hid (atZ key ad = prfZ key (wordBytes ad)) := hid (by unfold atZ; rfl)
  have HD := hid (Dg.at_ key ad)
  have b1 := (Below.refl w.heap.size w).alloc (Nat.le_refl _) (.cells (key.map (Value.int .u8)).toArray 26 (0, 0))
  have b2 := b1.alloc b1.size (.cells (ad.map (Value.int .u32)).toArray 45 (0, 0))
  have bz := b2.alloc b2.size (.cells (byteCells 32 []) 26 (0, 0))
  have K0 := hid (((Blk.new (w := w) (n := w.heap.size) rfl (key.map (Value.int .u8)).toArray 26).old (.cells (ad.map (Value.int .u32)).toArray 45 (0, 0))).old (.cells (byteCells 32 []) 26 (0, 0)))
  have K1 := hid ((Blk.new (w := (w.alloc (.cells (key.map (Value.int .u8)).toArray 26 (0, 0)))) (n := w.heap.size + 1) (by simp only [World.size_alloc]) (ad.map (Value.int .u32)).toArray 45).old (.cells (byteCells 32 []) 26 (0, 0)))
  have Kr := hid (Blk.new (w := ((w.alloc (.cells (key.map (Value.int .u8)).toArray 26 (0, 0))).alloc (.cells (ad.map (Value.int .u32)).toArray 45 (0, 0)))) (n := w.heap.size + 1 + 1) (by simp only [World.size_alloc]) (byteCells 32 []) 26)
  have Hb := hid bz
  have Htab := hid (tab.below bz)
  have HzA := hid zsize
  have hbz := bz.size
  clear tab bz b2 b1
  go_enter Tryd.func31, Tryd.ntmps31
  go_wp2_with fail
  refine wp_region_flow 4 [0, 1] [] [(.c 2, [3], [])] (by kernel_rfl) (by kernel_rfl) ?_
  apply Exists.intro
  refine ⟨fun w0 hb0 hF0 => ?_, ?_⟩
  · have x0 : ∀ w', (∃ x : Ext w0, w' = x.at_) → ∃ T, Blk w' w.heap.size (key.map (Value.int .u8)).toArray T := fun w' ⟨x, hx⟩ => ⟨_, hx ▸ (K0.out.below hb0).below x.same⟩
    have x1 : ∀ w', (∃ x : Ext w0, w' = x.at_) → ∃ T, Blk w' (w.heap.size + 1) (ad.map (Value.int .u32)).toArray T := fun w' ⟨x, hx⟩ => ⟨_, hx ▸ (K1.out.below hb0).below x.same⟩
    simp only [pick, List.getElem?_toArray, List.getElem?_cons_succ, List.getElem?_cons_zero, Option.toList_some, List.cons_append, List.nil_append]
    repeat (first | (go_big_quiet_want; refine quiet_load_blk 26 _ rfl w.heap.size rfl _ x0 _ Tryd.underlying26 rfl 32 size_digest hkey.size ?_; go_big_quiet_on; simp only [Act.put, List.setIfInBounds_toArray, List.set_cons_zero, List.set_cons_succ]) | (go_big_quiet_want; refine quiet_load_blk 45 _ rfl (w.heap.size + 1) rfl _ x1 _ Tryd.underlying45 rfl 8 sizeAdrs ha.size ?_; go_big_quiet_on; simp only [Act.put, List.setIfInBounds_toArray, List.set_cons_zero, List.set_cons_succ]) | go_big_quiet_step (fail))
    exact wpQuiet_nil rfl
  refine AlChk.nil ?_
  refine Walk.call rfl 50 #[.agg (ad.map (Value.int .u32)).toArray] (BytesAt ad) (fun v w' w'' h k => h.below k) rfl (fun w1 hb1 hF1 => ⟨by go_simp, ?_⟩) ?_
  · refine (adrs_bytes ad ha.len ha.small w1).mono ?_
    rintro e w2 ⟨g, cap, h1, h2, hg, rfl, b2, k2⟩
    exact ⟨_, rfl, b2, g, cap, rfl, h1, h2, k2⟩
  rintro v w1 hb1 hF1 ⟨g, cap, rfl, _, _, _⟩
  apply Exists.intro
  refine ⟨fun w3 hb3 hF3 => ?_, ?_⟩
  · have hs := fun e : Ext w3 => Prf_any key (wordBytes ad) _ 32 cap e.at_ hkey ((hF3.2.below e.same).text ha.len) (by omega) ((Htab.out.below hb3).below e.same)
    rw [← HM.out] at hs
    simp only [pick, List.getElem?_toArray, List.getElem?_cons_succ, List.getElem?_cons_zero, Option.toList_some, List.cons_append, List.nil_append, Act.put, List.setIfInBounds_toArray, List.set_cons_zero, List.set_cons_succ]
    repeat (go_big_quiet_step (first | (go_at_call 29; exact Calls.ext (hs _))))
    exact wpQuiet_nil rfl
  refine AlChk.nil ?_
  refine Walk.fin fun w4 h4 _ _ => ?_
  simp only [List.drop_succ_cons, List.drop_zero]
  have Hr4 := hid (Kr.out.below h4)
  have Hb4 := hid (Below.on Hb.out h4)
  clear h4
  go_wp2_with (refine wpList_store_blk rfl 26 _ _ rfl (w.heap.size + 1 + 1) _ rfl rfl _ 26 Hr4.out 32 size_digest HzA.out HD.out.size (ints_one _ _) ?_; intro w5 hbut5 hk5)
  exact bodyPost_ret (v := .agg ((atZ key ad).map (Value.int .u8)).toArray) (results_blk Tryd.results31 _ (w.heap.size + 1 + 1) rfl _ 26 hk5 _ Tryd.underlying26 rfl 32 size_digest HD.out.size) rfl ⟨rfl, hbut5.below Hb4.out Hb4.out.size (by omega)⟩

/-- byte by byte exclusive-ored -/
def xorD (a b : List Int) : List Int := a.zipWith xorZ b
theorem Dg.xor {a b : List Int} (ha : Dg a) (hb : Dg b) : Dg (xorD a b) := ⟨by simp [xorD, ha.len, hb.len], fun x hx => by
  unfold xorD at hx
  rw [List.zipWith_eq_zipWith_take_min] at hx
  obtain ⟨i, hi, rfl⟩ := List.getElem_of_mem hx
  simp only [List.getElem_zipWith]
  exact xorZ_small (ha.small _ (List.mem_of_mem_take (List.getElem_mem _))) (hb.small _ (List.mem_of_mem_take (List.getElem_mem _)))⟩
theorem xorD_step {a b : List Int} (ha : a.length = 32) (hb : b.length = 32) (k : Nat) (hk : k < 32) : ((xorD a b).take k ++ a.drop k).set k (xorZ (a.getD k 0) (b.getD k 0)) = (xorD a b).take (k + 1) ++ a.drop (k + 1) := by
  have hl : k < (xorD a b).length := by simp [xorD, ha, hb, hk]
  rw [List.set_append_right _ _ (by simp; omega), List.take_succ_eq_append_getElem hl, List.append_assoc]
  congr 1
  rw [show k - ((xorD a b).take k).length = 0 by simp; omega, List.drop_eq_getElem_cons (by omega), List.set_cons_zero]
  simp [xorD, List.getD_eq_getElem?_getD, show k < a.length by omega, show k < b.length by omega]

set_option maxHeartbeats 2000000 in
set_option maxRecDepth 100000 in
theorem Mask_any (a b : List Int) (w : World) (ha : Dg a) (hb : Dg b) :
    Calls Tryd.prog 35 #[.agg (a.map (Value.int .u8)).toArray, .agg (b.map (Value.int .u8)).toArray] w fun e w' => e = .returned (.agg ((xorD a b).map (Value.int .u8)).toArray) ∧ Below w.heap.size w w' := by
  have HD := hid (ha.xor hb)
  have b1 := (Below.refl w.heap.size w).alloc (Nat.le_refl _) (.cells (a.map (Value.int .u8)).toArray 26 (0, 0))
  have b2 := b1.alloc b1.size (.cells (b.map (Value.int .u8)).toArray 26 (0, 0))
  have bz := b2.alloc b2.size (.cells (byteCells 32 []) 26 (0, 0))
  have K0 := hid (((Blk.new (w := w) (n := w.heap.size) rfl (a.map (Value.int .u8)).toArray 26).old (.cells (b.map (Value.int .u8)).toArray 26 (0, 0))).old (.cells (byteCells 32 []) 26 (0, 0)))
  have K1 := hid ((Blk.new (w := (w.alloc (.cells (a.map (Value.int .u8)).toArray 26 (0, 0)))) (n := w.heap.size + 1) (by simp only [World.size_alloc]) (b.map (Value.int .u8)).toArray 26).old (.cells (byteCells 32 []) 26 (0, 0)))
  have Kr := hid (Blk.new (w := ((w.alloc (.cells (a.map (Value.int .u8)).toArray 26 (0, 0))).alloc (.cells (b.map (Value.int .u8)).toArray 26 (0, 0)))) (n := w.heap.size + 1 + 1) (by simp only [World.size_alloc]) (byteCells 32 []) 26)
  have Hb := hid bz
  have HzA := hid zsize
  have hbz := bz.size
  have hix := fun (k : Nat) (hk : k < 32) (W : World) => run_index_ints (P := Tryd.prog) (t := 26) (e := 5) (n := 32) (k' := .i64) Tryd.underlying26 Tryd.underlying5 rfl rfl b hb.len k hk W
  have Hix := hid hix
  clear bz b2 b1 hix
  go_enter Tryd.func35, Tryd.ntmps35
  go_wp2_with (refine wpList_load_blk rfl 26 _ rfl (w.heap.size + 1) rfl _ 26 K1.out _ Tryd.underlying26 rfl 32 size_digest hb.size ?_)
  go_loopw [8] (fun v wr => ∃ k : Nat, k ≤ 32 ∧ v = .int .i64 k ∧ Blk wr w.heap.size (((xorD a b).take k ++ a.drop k).map (Value.int .u8)).toArray 26 ∧ Blk wr (w.heap.size + 1 + 1) (byteCells 32 []) 26 ∧ Below w.heap.size w wr) (fun v _ => 32 - (intOf v).toNat)
  case atStart => exact ⟨0, Nat.zero_le _, rfl, (by rw [List.take_zero, List.nil_append, List.drop_zero]; exact K0.out), Kr.out, Hb.out⟩
  case round =>
    clear K0 K1 Kr Hb
    obtain ⟨k, hk, rfl, kA, kR, bel⟩ := hrel
    by_cases hlt : k < 32
    · have hi := fun W => Hix.out k hlt W
      have hxa : 0 ≤ a.getD k 0 ∧ a.getD k 0 < 256 := ha.small _ (by rw [List.getD_eq_getElem?_getD, List.getElem?_eq_getElem (by rw [ha.len]; omega)]; exact List.getElem_mem _)
      have hxb : 0 ≤ b.getD k 0 ∧ b.getD k 0 < 256 := hb.small _ (by rw [List.getD_eq_getElem?_getD, List.getElem?_eq_getElem (by rw [hb.len]; omega)]; exact List.getElem_mem _)
      have hxor := bits_xorZ hxa hxb
      have Hst := hid (xorD_step ha.len hb.len k hlt)
      have hc : wr.cell? ⟨w.heap.size, k, none⟩ = some (.int .u8 (a.getD k 0)) := by
        rw [kA.cell]
        have h1 : ((xorD a b).take k).length = k := by simp [xorD, ha.len, hb.len]; omega
        have h2 : k < a.length := by rw [ha.len]; omega
        rw [List.getElem?_toArray, List.getElem?_map, List.getElem?_append_right (by omega), h1, Nat.sub_self, List.getElem?_drop, Nat.add_zero, List.getD_eq_getElem?_getD, List.getElem?_eq_getElem h2]
        rfl
      have fr := kA.free
      have hlt2 := kA.lt
      have HkA := hid kA
      have HkR := hid kR
      have Hbel := hid bel
      obtain ⟨hxa0, hxa1⟩ := hxa
      obtain ⟨hxb0, hxb1⟩ := hxb
      generalize a.getD k 0 = x at *
      generalize b.getD k 0 = y at *
      clear kA kR bel
      go_wp2_with fail
      refine ⟨⟨k + 1, by omega, by go_num, ?_, HkR.out.other ⟨w.heap.size, k, none⟩ (show w.heap.size ≠ w.heap.size + 1 + 1 by omega) _, Hbel.out.setCell (p := ⟨w.heap.size, k, none⟩) (Nat.le_refl _) _⟩, by simp [intOf]; omega⟩
      have h1 := HkA.out.set k (.int .u8 (xorZ x y))
      rw [List.setIfInBounds_toArray, ← List.map_set, Hst.out] at h1
      exact h1
    · have h32 : k = 32 := by omega
      have kF : Blk wr w.heap.size ((xorD a b).map (Value.int .u8)).toArray 26 := by
        rw [h32, List.take_of_length_le (by simp [xorD, ha.len, hb.len]), List.drop_eq_nil_of_le (by rw [ha.len]; omega), List.append_nil] at kA
        exact kA
      have HkF := hid kF
      have HkR := hid kR
      have Hbel := hid bel
      have H32 := hid h32
      clear kA kR bel kF h32
      go_wp2_with (first | (refine wpList_load_blk rfl 26 _ rfl w.heap.size rfl _ 26 HkF.out _ Tryd.underlying26 rfl 32 size_digest HD.out.size ?_) | (refine wpList_store_blk rfl 26 _ _ rfl (w.heap.size + 1 + 1) _ rfl rfl _ 26 HkR.out 32 size_digest HzA.out HD.out.size (ints_one _ _) ?_; intro w5 hbut5 hk5))
      exact bodyPost_ret (v := .agg ((xorD a b).map (Value.int .u8)).toArray) (results_blk Tryd.results35 _ (w.heap.size + 1 + 1) rfl _ 26 hk5 _ Tryd.underlying26 rfl 32 size_digest HD.out.size) rfl ⟨rfl, hbut5.below Hbel.out Hbel.out.size (by omega)⟩
end Go.Proofs.YtkiaeepdpmcafaaDoor
