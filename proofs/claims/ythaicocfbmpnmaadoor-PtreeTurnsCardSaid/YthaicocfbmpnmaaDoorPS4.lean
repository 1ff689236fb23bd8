/-
  Put together, as far as wanted: QtG QtHQ QtR QtS QtT QtU QtV QtW QtX QtY QtZ.
-/
import Derived.Test.YthaicocfbmpnmaaDoorPS3
namespace Go.Proofs.YthaicocfbmpnmaaDoor
set_option maxRecDepth 100000
open Go.ChangeShapes Go.WideShapes Go.ChangeAt Go.RowKit
theorem bitL_01 (d : List Int) (k : Nat) : bitL d k = 0 ∨ bitL d k = 1 := by
  unfold bitL
  omega
set_option maxHeartbeats 4000000 in
theorem isright_any (a b : List Int) (k kb : Nat) (w : World) (ha : Dg a) (hkk : k < 256) (hk : Blk w kb #[.int .i64 k] 3) :
    Calls Tryd.prog 84 #[.agg ((entL a b).map (Value.int .u8)).toArray, .pointer (some ⟨kb, 0, none⟩)] w fun e w' => e = .returned (.bool (rightB k (a, b))) ∧ Below w.heap.size w w' := by
  have b1 := (Below.refl w.heap.size w).alloc (Nat.le_refl _) (.cells ((entL a b).map (Value.int .u8)).toArray 25 (0, 0))
  have Kx := hid (Blk.new (w := w) (n := w.heap.size) rfl ((entL a b).map (Value.int .u8)).toArray 25)
  have Hb := hid b1
  have hbz := b1.size
  have Hbs := hid (show w.heap.size + 1 = (w.alloc (.cells ((entL a b).map (Value.int .u8)).toArray 25 (0, 0))).heap.size by simp only [World.size_alloc])
  clear b1 
  have HK := hid (hk.below Hb.out)
  have CB := hid (fun W : World => bit_in a k W ha hkk)
  have ck := HK.out.cell 0
  have HF := hid (ent_front ha (b := b) Kx.out)
  clear hk
  go_enter Tryd.func84, Tryd.ntmps84
  go_wp2_with (refine wpList_load_mid rfl 23 _ rfl w.heap.size 0 rfl _ _ HF.out Tryd.underlying23 rfl (by rw [List.length_map, ha.len]; exact size_digest) ?_)
  refine (CB.out _).mono ?_
  rintro e w1 ⟨rfl, bw1⟩
  have HBw1 := hid (Below.on Hb.out bw1)
  have hsw1 := HBw1.out.size
  clear bw1
  rcases bitL_01 a k with hq | hq
  · skip
    have hr : rightB k (a, b) = false := by
      unfold rightB
      rw [hq]
      rfl
    have HR := hid hr
    clear hr
    rw [hq]
    clear hq
    go_wp2_with fail
    go_returns
    exact ⟨by rw [HR.out]; first | rfl | simp, HBw1.out⟩
  · skip
    have hr : rightB k (a, b) = true := by
      unfold rightB
      rw [hq]
      rfl
    have HR := hid hr
    clear hr
    rw [hq]
    clear hq
    go_wp2_with fail
    go_returns
    exact ⟨by rw [HR.out]; first | rfl | simp, HBw1.out⟩
set_option maxHeartbeats 4000000 in
theorem first_any (a : Option Addr) (len cap : Nat) (L R : List (List Int × List Int)) (k kb : Nat) (w : World) (hE : EntsAt w a len cap (L ++ R)) (hmx : len ≤ 256) (hL : ∀ x ∈ L, rightB k x = false) (hR : ∀ x ∈ R, rightB k x = true) (hkk : k < 256) (hk : Blk w kb #[.int .i64 k] 3) :
    Calls Tryd.prog 83 #[.slice a len cap, .func (.func 84) #[] #[.pointer (some ⟨kb, 0, none⟩)]] w fun e w' => e = .returned (.int .i64 (if R = [] then -1 else (L.length : Int))) ∧ Below w.heap.size w w' := by
  have Hb := hid (Below.refl w.heap.size w)
  have HE := hid hE
  have HK := hid hk
  clear hE hk
  go_enter Tryd.func83, Tryd.ntmps83
  go_wp2_with fail
  go_loopw [8] (fun iv wr => ∃ j : Nat, j ≤ L.length ∧ iv = .int .i64 j ∧ Below w.heap.size w wr) (fun iv _ => len - (intOf iv).toNat)
  case atStart => exact ⟨0, Nat.zero_le _, rfl, Hb.out⟩
  case round =>
    obtain ⟨j, hj, rfl, bel⟩ := hrel
    have HBwr := hid bel
    have hswr := bel.size
    have hE := HE.out.below bel
    have hK := HK.out.below bel
    have hlen := hE.length
    rw [List.length_append] at hlen
    clear bel
    by_cases hcj : j < len
    · skip
      have hcI : (j : Int) < (len : Int) := by omega
      have hwr : wrap64 ((j : Int) + 1) = (j : Int) + 1 := by unfold wrap64; omega
      obtain ⟨x, o, rfl, hx, hc⟩ := hE.at_ (by omega)
      have hRg := hid (hc j hcj)
      have hme : (L ++ R).getD j ([], []) ∈ L ++ R := by rw [List.getD_eq_getElem?_getD, List.getElem?_eq_getElem (by rw [List.length_append]; omega)]; exact List.getElem_mem _
      have HD := hid (hE.each _ hme).1
      have HCJ := hid (hE.each _ hme).2
      have hlj : j < L.length → rightB k ((L ++ R).getD j ([], [])) = false := fun h => by
        rw [List.getD_eq_getElem?_getD, List.getElem?_append_left h, List.getElem?_eq_getElem h]
        exact hL _ (List.getElem_mem h)
      have hrj : j = L.length → rightB k ((L ++ R).getD j ([], [])) = true ∧ R ≠ [] := fun h => by
        have hr0 : 0 < R.length := by omega
        rw [List.getD_eq_getElem?_getD, h, List.getElem?_append_right (Nat.le_refl _), Nat.sub_self, List.getElem?_eq_getElem hr0]
        exact ⟨hR _ (List.getElem_mem hr0), fun e => by rw [e] at hr0; simp at hr0⟩
      generalize (L ++ R).getD j ([], []) = z at *
      obtain ⟨d, c⟩ := z
      have HK1 := hid hK
      have CR := hid (fun (W : World) (h : Blk W kb #[.int .i64 k] 3) => isright_any d c k kb W HD.out hkk h)
      clear hc hme hE hK
      have hHD := HD.out
      have hHC := HCJ.out
      dsimp only at hHD hHC hRg
      have HDd := hid hHD
      have HDc := hid hHC
      clear HD HCJ hHD hHC
      go_wp2_with (first
         | (refine wpList_index_k rfl 36 _ _ rfl Tryd.underlying36 size_entry x o len cap rfl _ _ rfl j rfl (by omega) ?_)
         | (refine wpList_load_mid rfl 25 _ rfl x (o + j * 64) rfl _ _ hRg.out Tryd.underlying25 rfl (by rw [List.length_map]; exact ent_size64 HDd.out HDc.out) ?_))
      refine (CR.out _ HK1.out).mono ?_
      rintro e w5 ⟨rfl, b5⟩
      have HB5 := hid (Below.on HBwr.out b5)
      clear b5
      by_cases hjl : j < L.length
      · skip
        rw [hlj hjl]
        clear hlj hrj
        go_wp2_with fail
        exact ⟨⟨j + 1, by omega, by first | rfl | simp, HB5.out⟩, by simp [intOf]; omega⟩
      · skip
        have hje : j = L.length := by omega
        obtain ⟨hr1, hr2⟩ := hrj hje
        rw [hr1]
        clear hlj hrj hr1
        go_wp2_with fail
        go_returns
        exact ⟨by first | rfl | rw [hje] | rw [if_neg hr2, hje], HB5.out⟩
    · skip
      have hcI : ¬ (j : Int) < (len : Int) := by omega
      have hr : R = [] := List.eq_nil_of_length_eq_zero (by omega)
      clear hE hK
      go_wp2_with fail
      go_returns
      exact ⟨by first | rfl | rw [if_pos hr], HBwr.out⟩
/-- Where a part of a row of entries begins. -/
def cutE (a : Option Addr) (l cap : Nat) : Option Addr := if cap = l then a else a.map (·.add (l * 64))
theorem EntsAt.tail {w : World} {a : Option Addr} {len cap : Nat} {L R : List (List Int × List Int)} (h : EntsAt w a len cap (L ++ R)) : EntsAt w (cutE a L.length cap) (len - L.length) (cap - L.length) R := by
  obtain ⟨h1, h2, h3, h4⟩ := h
  rw [List.length_append] at h1
  refine ⟨by omega, by omega, fun x hx => h3 x (List.mem_append_right _ hx), ?_⟩
  rcases Nat.eq_zero_or_pos (len - L.length) with h0 | h0
  · exact .inl h0
  · rcases h4 with h4 | ⟨x, o, rfl, hx, hc⟩
    · omega
    · refine .inr ⟨x, o + L.length * 64, by unfold cutE; rw [if_neg (by omega), Option.map_some, Addr.add_mid], hx, fun j hj => ?_⟩
      have h5 := hc (L.length + j) (by omega)
      rw [show (L ++ R).getD (L.length + j) ([], []) = R.getD j ([], []) by rw [List.getD_eq_getElem?_getD, List.getD_eq_getElem?_getD, List.getElem?_append_right (by omega), Nat.add_sub_cancel_left]] at h5
      rw [show o + L.length * 64 + j * 64 = o + (L.length + j) * 64 by omega]
      exact h5
theorem EntsAt.head {w : World} {a : Option Addr} {len cap : Nat} {L R : List (List Int × List Int)} (h : EntsAt w a len cap (L ++ R)) : EntsAt w a L.length cap L := by
  obtain ⟨h1, h2, h3, h4⟩ := h
  rw [List.length_append] at h1
  refine ⟨rfl, by omega, fun x hx => h3 x (List.mem_append_left _ hx), ?_⟩
  rcases h4 with h4 | ⟨x, o, rfl, hx, hc⟩
  · exact .inl (by omega)
  · refine .inr ⟨x, o, rfl, hx, fun j hj => ?_⟩
    have h5 := hc j (by omega)
    rw [show (L ++ R).getD j ([], []) = L.getD j ([], []) by rw [List.getD_eq_getElem?_getD, List.getD_eq_getElem?_getD, List.getElem?_append_left hj]] at h5
    exact h5
theorem quiet_cute_h {op : Oper} {a : Act} {C : World → Prop} {K : Act → Prop} (x y : Operand) (ho : op.op = .slice 36 x none (some y) none) (a0 : Option Addr) (len cap n : Nat) (v : Int) (hx : a.eval x = .slice a0 len cap) (hy : a.eval y = .int .i64 v) (hv : v = n) (hn : n ≤ cap)
    (h : K (a.put op.dst (.slice a0 n cap))) : op.quiet Tryd.prog a C K :=
  ⟨.slice a0 n cap, fun w' _ => by
    subst hv
    have he : Tryd.prog.elem 36 = 25 := by simp [Program.elem, Tryd.underlying36]
    have hr : (Instr.slice 36 (.slice a0 len cap) none (some (.int .i64 (n : Int))) none).run Tryd.prog w' = .ok (.slice a0 n cap) w' := by
      rw [run_slice_h (w := w') 36 a0 len cap (by rw [he]; exact Tryd.underlying36) _ (n : Int) (by omega) (by omega)]
      obtain ⟨i, hi1, hi2⟩ := Option.map_eq_some_iff.1 size_entry
      cases a0 with
      | none => simp [sizeOf, typeInfo, he, hi1, sliced]
      | some p => obtain ⟨x1, o1, s1⟩ := p; cases s1 <;> simp [sizeOf, typeInfo, he, hi1, sliced, Addr.add]
    have hs := run_sliceAt_slice (P := Tryd.prog) (w := w') 36 (.slice a0 len cap) none (some (.int .i64 n)) none (by rw [he]; exact Tryd.underlying36)
    rw [hr] at hs
    unfold Oper.quietAt execOp
    simp only [ho, hx, hy, Option.map_none, Option.map_some, Sem.run_bind, Sem.run_pure, Result.andThen_ok, hs]
    simp [Oper.quietUpon], h⟩
theorem quiet_cute_l {op : Oper} {a : Act} {C : World → Prop} {K : Act → Prop} (x y : Operand) (ho : op.op = .slice 36 x (some y) none none) (a0 : Option Addr) (len cap n : Nat) (v : Int) (hx : a.eval x = .slice a0 len cap) (hy : a.eval y = .int .i64 v) (hv : v = n) (hn : n ≤ len)
    (h : K (a.put op.dst (.slice (cutE a0 n cap) (len - n) (cap - n)))) : op.quiet Tryd.prog a C K :=
  ⟨.slice (cutE a0 n cap) (len - n) (cap - n), fun w' _ => by
    subst hv
    have he : Tryd.prog.elem 36 = 25 := by simp [Program.elem, Tryd.underlying36]
    have hr : (Instr.slice 36 (.slice a0 len cap) (some (.int .i64 (n : Int))) none none).run Tryd.prog w' = .ok (.slice (cutE a0 n cap) (len - n) (cap - n)) w' := by
      rw [run_slice_l (w := w') 36 a0 len cap (by rw [he]; exact Tryd.underlying36) _ (n : Int) (by omega) (by omega)]
      obtain ⟨i, hi1, hi2⟩ := Option.map_eq_some_iff.1 size_entry
      simp [sizeOf, typeInfo, he, hi1, hi2, sliced, cutE]
    have hs := run_sliceAt_slice (P := Tryd.prog) (w := w') 36 (.slice a0 len cap) (some (.int .i64 n)) none none (by rw [he]; exact Tryd.underlying36)
    rw [hr] at hs
    unfold Oper.quietAt execOp
    simp only [ho, hx, hy, Option.map_none, Option.map_some, Sem.run_bind, Sem.run_pure, Result.andThen_ok, hs]
    simp [Oper.quietUpon], h⟩
set_option maxHeartbeats 4000000 in
theorem halves_any (a : Option Addr) (len cap : Nat) (L R : List (List Int × List Int)) (k : Nat) (w : World) (hE : EntsAt w a len cap (L ++ R)) (hmx : len ≤ 256) (hL : ∀ x ∈ L, rightB k x = false) (hR : ∀ x ∈ R, rightB k x = true) (hkk : k < 256) :
    Calls Tryd.prog 53 #[.slice a len cap, .int .i64 (k : Int)] w fun e w' => ∃ a1 c1 a2 c2, e = .returned (.tuple #[.slice a1 L.length c1, .slice a2 R.length c2]) ∧ EntsAt w' a1 L.length c1 L ∧ EntsAt w' a2 R.length c2 R ∧ Below w.heap.size w w' := by
  have b1 := (Below.refl w.heap.size w).alloc (Nat.le_refl _) (.cells #[.int .i64 (k : Int)] 3 (0, 0))
  have Kk := hid (Blk.new (w := w) (n := w.heap.size) rfl #[.int .i64 (k : Int)] 3)
  have Hb := hid b1
  have hbz := b1.size
  have Hbs := hid (show w.heap.size + 1 = (w.alloc (.cells #[.int .i64 (k : Int)] 3 (0, 0))).heap.size by simp only [World.size_alloc])
  clear b1 
  have HE := hid (hE.below Hb.out)
  have hlen := hE.length
  rw [List.length_append] at hlen
  clear hE
  go_enter Tryd.func53, Tryd.ntmps53
  go_wp2_with fail
  refine (first_any a len cap L R k w.heap.size _ HE.out hmx hL hR hkk Kk.out).mono ?_
  rintro e w1 ⟨rfl, b1⟩
  have HB1 := hid (Below.on Hb.out b1)
  have HE1 := hid (HE.out.below b1)
  clear b1
  obtain ⟨i, hi⟩ : ∃ i : Nat, i = L.length := ⟨_, rfl⟩
  have hfin : ∀ W : World, EntsAt W a len cap (L ++ R) → EntsAt W a i cap L ∧ EntsAt W (cutE a i cap) (len - i) (cap - i) R := fun W h => by rw [hi]; exact ⟨h.head, h.tail⟩
  have HFN := hid hfin
  have hil : i ≤ len := by omega
  have hRl : R.length = len - i := by omega
  clear hfin
  by_cases hr : R = []
  · skip
    have hie : L.length = len := by rw [hr] at hlen; simpa using hlen
    rw [if_pos hr]
    have hIE := hid hie
    have HI := hid hi
    have HR := hid hRl
    have HLN := hid hlen
    have hcap := HE1.out.le
    clear hi hlen hRl hie hr
    obtain rfl : i = len := by have := HI.out; have := hIE.out; omega
    go_wp2_with fail
    refine wp_region_flow 8 (List.range 8) [] [] (by kernel_rfl) (by kernel_rfl) ?_
    apply Exists.intro
    refine ⟨fun w0 hb0 hF0 => ?_, ?_⟩
    · skip
      simp only [pick, List.range, List.range.loop, List.getElem?_toArray, List.getElem?_cons_succ, List.getElem?_cons_zero, Option.toList_some, List.cons_append, List.nil_append]
      repeat (first | (go_big_quiet_want; refine quiet_cute_h _ _ rfl a i cap i _ rfl rfl (by omega) (by omega) ?_; go_big_quiet_on; simp only [Act.put, List.setIfInBounds_toArray, List.set_cons_zero, List.set_cons_succ]) | (go_big_quiet_want; refine quiet_cute_l _ _ rfl a i cap i _ rfl rfl (by omega) (by omega) ?_; go_big_quiet_on; simp only [Act.put, List.setIfInBounds_toArray, List.set_cons_zero, List.set_cons_succ]) | go_big_quiet_step (fail))
      exact wpQuiet_nil rfl
    refine AlChk.nil ?_
    refine Walk.fin fun w6 hw6 _ _ => ?_
    simp only [List.drop_succ_cons, List.drop_zero]
    have Hw6 := hid hw6
    have HBw6 := hid (Below.on HB1.out hw6)
    have hsw6 := HBw6.out.size
    clear hw6
    go_wp2_with fail
    go_returns
    have h := HFN.out _ (HE1.out.below Hw6.out)
    exact ⟨a, cap, cutE a i cap, cap - i, by rw [← HI.out, HR.out]; rfl, by rw [← HI.out]; exact h.1, by rw [HR.out]; exact h.2, HBw6.out⟩
  · skip
    rw [if_neg hr]
    rw [← hi]
    have HI := hid hi
    have HR := hid hRl
    have HLN := hid hlen
    have hcap := HE1.out.le
    clear hi hlen hRl hr
    go_wp2_with fail
    refine wp_region_flow 8 (List.range 8) [] [] (by kernel_rfl) (by kernel_rfl) ?_
    apply Exists.intro
    refine ⟨fun w0 hb0 hF0 => ?_, ?_⟩
    · skip
      simp only [pick, List.range, List.range.loop, List.getElem?_toArray, List.getElem?_cons_succ, List.getElem?_cons_zero, Option.toList_some, List.cons_append, List.nil_append]
      repeat (first | (go_big_quiet_want; refine quiet_cute_h _ _ rfl a len cap i _ rfl rfl (by omega) (by omega) ?_; go_big_quiet_on; simp only [Act.put, List.setIfInBounds_toArray, List.set_cons_zero, List.set_cons_succ]) | (go_big_quiet_want; refine quiet_cute_l _ _ rfl a len cap i _ rfl rfl (by omega) (by omega) ?_; go_big_quiet_on; simp only [Act.put, List.setIfInBounds_toArray, List.set_cons_zero, List.set_cons_succ]) | go_big_quiet_step (fail))
      exact wpQuiet_nil rfl
    refine AlChk.nil ?_
    refine Walk.fin fun w6 hw6 _ _ => ?_
    simp only [List.drop_succ_cons, List.drop_zero]
    have Hw6 := hid hw6
    have HBw6 := hid (Below.on HB1.out hw6)
    have hsw6 := HBw6.out.size
    clear hw6
    go_wp2_with fail
    go_returns
    have h := HFN.out _ (HE1.out.below Hw6.out)
    exact ⟨a, cap, cutE a i cap, cap - i, by rw [← HI.out, HR.out]; rfl, by rw [← HI.out]; exact h.1, by rw [HR.out]; exact h.2, HBw6.out⟩
set_option maxHeartbeats 4000000 in
theorem node_empty (fa : Option Addr) (fn fc g : Nat) (a : Option Addr) (len cap : Nat) (es : List (List Int × List Int)) (k : Nat) (w : World) (hE : EntsAt w a len cap es) (hg : Blk w g (dcs (empN 257)) 23) (tab : ShaTab w) (h0 : len = 0) (hk : k ≤ 256) :
    Calls Tryd.prog 50 #[.agg #[.slice fa fn fc, .slice (some ⟨g, 0, none⟩) 257 257], .slice a len cap, .int .i64 (k : Nat)] w fun e w' => e = .returned (.agg ((nodeT k es).map (Value.int .u8)).toArray) ∧ Below w.heap.size w w' := by
  have b1 := (Below.refl w.heap.size w).alloc (Nat.le_refl _) (.cells #[.slice fa fn fc, .slice (some ⟨g, 0, none⟩) 257 257] 76 (0, 0))
  have b2 := b1.alloc b1.size (.cells (byteCells 32 []) 23 (0, 0))
  have Kx := hid ((Blk.new (w := w) (n := w.heap.size) rfl #[.slice fa fn fc, .slice (some ⟨g, 0, none⟩) 257 257] 76).old (.cells (byteCells 32 []) 23 (0, 0)))
  have Kr := hid (Blk.new (w := (w.alloc (.cells #[.slice fa fn fc, .slice (some ⟨g, 0, none⟩) 257 257] 76 (0, 0)))) (n := w.heap.size + 1) (by simp only [World.size_alloc]) (byteCells 32 []) 23)
  have Hb := hid b2
  have hbz := b2.size
  have Hbs := hid (show w.heap.size + 1 + 1 = ((w.alloc (.cells #[.slice fa fn fc, .slice (some ⟨g, 0, none⟩) 257 257] 76 (0, 0))).alloc (.cells (byteCells 32 []) 23 (0, 0))).heap.size by simp only [World.size_alloc])
  have Htab := hid tab
  clear b1 b2 tab 
  have HE := hid (hE.below Hb.out)
  have HG := hid (hg.below Hb.out)
  have hlen := hE.length
  clear hE hg
  obtain rfl := List.eq_nil_of_length_eq_zero (show es.length = 0 by omega)
  have Hrg := hid (by have h := dig_rng HG.out (empN_each 257) (j := k) (by rw [empN_length]; omega); rw [empN_get (by omega)] at h; exact h)
  have hXX := nodeT_nil k
  have HX := hid (Dg.emptyL k)
  generalize hX1 : emptyL k = X at *
  subst h0
  go_enter Tryd.func50, Tryd.ntmps50
  have cx1 : ((w.alloc (.cells #[.slice fa fn fc, .slice (some ⟨g, 0, none⟩) 257 257] 76 (0, 0))).alloc (.cells (byteCells 32 []) 23 (0, 0))).cell? ⟨w.heap.size, 1, none⟩ = some (.slice (some ⟨g, 0, none⟩) 257 257) := by rw [Kx.out.cell]; rfl
  have HXX := hid hXX
  clear hXX
  go_wp2_with (first
     | (refine wpList_index_digs rfl 27 _ _ rfl Tryd.underlying27 size_digest g 0 257 257 rfl _ _ rfl k rfl (by omega) ?_)
     | (refine wpList_load_mid rfl 23 _ rfl g (0 + k * 32) rfl _ _ Hrg.out Tryd.underlying23 rfl (by rw [List.length_map, HX.out.len]; exact size_digest) ?_)
     | (
      refine wpList_store_blk rfl 23 _ _ rfl (w.heap.size + 1) (X.map (Value.int .u8)).toArray rfl rfl _ 23 Kr.out 32 size_digest zsize HX.out.size (ints_one _ _) ?_
      intro w99 hb99 hk99
      have HB99 := hid (hb99.below Hb.out Hb.out.size (by omega))
      have HK99 := hid hk99
      clear hb99 hk99))
  exact bodyPost_ret (v := .agg (X.map (Value.int .u8)).toArray) (results_blk Tryd.results50 _ (w.heap.size + 1) rfl _ 23 HK99.out _ Tryd.underlying23 rfl 32 size_digest HX.out.size) rfl ⟨by first | rfl | rw [HXX.out], HB99.out⟩
set_option maxHeartbeats 4000000 in
theorem node_place (fa : Option Addr) (fn fc g : Nat) (a : Option Addr) (len cap : Nat) (es : List (List Int × List Int)) (w : World) (hE : EntsAt w a len cap es) (hg : Blk w g (dcs (empN 257)) 23) (tab : ShaTab w) (h0 : 0 < len) :
    Calls Tryd.prog 50 #[.agg #[.slice fa fn fc, .slice (some ⟨g, 0, none⟩) 257 257], .slice a len cap, .int .i64 (0 : Nat)] w fun e w' => e = .returned (.agg ((nodeT 0 es).map (Value.int .u8)).toArray) ∧ Below w.heap.size w w' := by
  have b1 := (Below.refl w.heap.size w).alloc (Nat.le_refl _) (.cells #[.slice fa fn fc, .slice (some ⟨g, 0, none⟩) 257 257] 76 (0, 0))
  have b2 := b1.alloc b1.size (.cells (byteCells 32 []) 23 (0, 0))
  have Kx := hid ((Blk.new (w := w) (n := w.heap.size) rfl #[.slice fa fn fc, .slice (some ⟨g, 0, none⟩) 257 257] 76).old (.cells (byteCells 32 []) 23 (0, 0)))
  have Kr := hid (Blk.new (w := (w.alloc (.cells #[.slice fa fn fc, .slice (some ⟨g, 0, none⟩) 257 257] 76 (0, 0)))) (n := w.heap.size + 1) (by simp only [World.size_alloc]) (byteCells 32 []) 23)
  have Hb := hid b2
  have hbz := b2.size
  have Hbs := hid (show w.heap.size + 1 + 1 = ((w.alloc (.cells #[.slice fa fn fc, .slice (some ⟨g, 0, none⟩) 257 257] 76 (0, 0))).alloc (.cells (byteCells 32 []) 23 (0, 0))).heap.size by simp only [World.size_alloc])
  have Htab := hid tab
  clear b1 b2 tab 
  have HE := hid (hE.below Hb.out)
  have HG := hid (hg.below Hb.out)
  have hlen := hE.length
  clear hE hg
  obtain ⟨⟨d, c⟩, es, rfl⟩ : ∃ z l, es = z :: l := by
    cases es with
    | nil => simp at hlen; omega
    | cons z l => exact ⟨z, l, rfl⟩
  obtain ⟨x, o, rfl, hx, hc⟩ := HE.out.at_ (by omega)
  have hRg := hid (hc 0 (by omega))
  have hd : Dg d ∧ Dg c := HE.out.each (d, c) (by simp)
  have HDd := hid hd.1
  have HDc := hid hd.2
  have CL := hid (fun (W : World) (t : ShaTab W) => leaf_any d c W HDd.out HDc.out t)
  have HX := hid (Dg.leafE d c)
  have HXX := hid (show nodeT 0 ((d, c) :: es) = leafE d c from rfl)
  rw [List.getD_cons_zero] at hRg
  generalize leafE d c = X at *
  have hl0 : ¬ (len : Int) = 0 := by omega
  have hl1 : ((len : Int) == 0) = false := by simp; omega
  clear hc hd
  go_enter Tryd.func50, Tryd.ntmps50
  go_wp2_with (first
     | (refine wpList_index_k rfl 36 _ _ rfl Tryd.underlying36 size_entry x o len cap rfl _ _ rfl 0 rfl (by omega) ?_)
     | (refine wpList_load_mid rfl 25 _ rfl x (o + 0 * 64) rfl _ _ hRg.out Tryd.underlying25 rfl (by rw [List.length_map]; exact ent_size64 HDd.out HDc.out) ?_))
  refine (CL.out _ (Htab.out.below Hb.out)).mono ?_
  rintro e w1 ⟨rfl, bw1⟩
  have HBw1 := hid (Below.on Hb.out bw1)
  have hsw1 := HBw1.out.size
  have Kxw1 := hid (Kx.out.below bw1)
  have Krw1 := hid (Kr.out.below bw1)
  clear bw1
  go_wp2_with (
      refine wpList_store_blk rfl 23 _ _ rfl (w.heap.size + 1) (X.map (Value.int .u8)).toArray rfl rfl _ 23 Krw1.out 32 size_digest zsize HX.out.size (ints_one _ _) ?_
      intro w99 hb99 hk99
      have HB99 := hid (hb99.below HBw1.out HBw1.out.size (by omega))
      have HK99 := hid hk99
      clear hb99 hk99)
  exact bodyPost_ret (v := .agg (X.map (Value.int .u8)).toArray) (results_blk Tryd.results50 _ (w.heap.size + 1) rfl _ 23 HK99.out _ Tryd.underlying23 rfl 32 size_digest HX.out.size) rfl ⟨by first | rfl | rw [HXX.out], HB99.out⟩
theorem Dg.nodeT : ∀ (k : Nat) (es : List (List Int × List Int)), (∀ x ∈ es, Dg x.1 ∧ Dg x.2) → Dg (nodeT k es)
  | 0, [], _ => Dg.emptyL 0
  | 0, _ :: _, _ => Dg.leafE _ _
  | _ + 1, _, _ => Dg.nodeL _ _
set_option maxHeartbeats 4000000 in
theorem node_two (fa : Option Addr) (fn fc g : Nat) (a : Option Addr) (len cap : Nat) (es : List (List Int × List Int)) (k : Nat) (w : World) (hE : EntsAt w a len cap es) (hg : Blk w g (dcs (empN 257)) 23) (tab : ShaTab w) (h0 : 0 < len) (hmx : len ≤ 256) (hk : k < 256) (hes : SplitT (k + 1) es)
    (ih : ∀ (a : Option Addr) (len cap : Nat) (es : List (List Int × List Int)) (W : World), SplitT k es → EntsAt W a len cap es → len ≤ 256 → Blk W g (dcs (empN 257)) 23 → ShaTab W → Calls Tryd.prog 50 #[.agg #[.slice fa fn fc, .slice (some ⟨g, 0, none⟩) 257 257], .slice a len cap, .int .i64 (k : Nat)] W fun e w' => e = .returned (.agg ((nodeT k es).map (Value.int .u8)).toArray) ∧ Below W.heap.size W w') :
    Calls Tryd.prog 50 #[.agg #[.slice fa fn fc, .slice (some ⟨g, 0, none⟩) 257 257], .slice a len cap, .int .i64 ((k + 1) : Nat)] w fun e w' => e = .returned (.agg ((nodeT (k + 1) es).map (Value.int .u8)).toArray) ∧ Below w.heap.size w w' := by
  have b1 := (Below.refl w.heap.size w).alloc (Nat.le_refl _) (.cells #[.slice fa fn fc, .slice (some ⟨g, 0, none⟩) 257 257] 76 (0, 0))
  have b2 := b1.alloc b1.size (.cells (byteCells 32 []) 23 (0, 0))
  have Kx := hid ((Blk.new (w := w) (n := w.heap.size) rfl #[.slice fa fn fc, .slice (some ⟨g, 0, none⟩) 257 257] 76).old (.cells (byteCells 32 []) 23 (0, 0)))
  have Kr := hid (Blk.new (w := (w.alloc (.cells #[.slice fa fn fc, .slice (some ⟨g, 0, none⟩) 257 257] 76 (0, 0)))) (n := w.heap.size + 1) (by simp only [World.size_alloc]) (byteCells 32 []) 23)
  have Hb := hid b2
  have hbz := b2.size
  have Hbs := hid (show w.heap.size + 1 + 1 = ((w.alloc (.cells #[.slice fa fn fc, .slice (some ⟨g, 0, none⟩) 257 257] 76 (0, 0))).alloc (.cells (byteCells 32 []) 23 (0, 0))).heap.size by simp only [World.size_alloc])
  have Htab := hid tab
  clear b1 b2 tab 
  have HE := hid (hE.below Hb.out)
  have HG := hid (hg.below Hb.out)
  have hlen := hE.length
  clear hE hg
  have hl0 : ¬ (len : Int) = 0 := by omega
  have hl1 : ((len : Int) == 0) = false := by simp; omega
  have hk0 : ¬ ((k + 1 : Nat) : Int) = 0 := by omega
  have hk1 : (((k + 1 : Nat) : Int) == 0) = false := by simp; omega
  have hk2 : wrap64 (((k + 1 : Nat) : Int) - 1) = (k : Int) := by unfold wrap64; omega
  have HES := hid hes
  have HI := hid ih
  have CN := hid (fun (W : World) (t : ShaTab W) => lonode_any (nodeT k (es.filter fun x => !rightB k x)) (nodeT k (es.filter (rightB k))) W (Dg.nodeT k _ (fun x hx => HE.out.each x (List.mem_filter.1 hx).1)) (Dg.nodeT k _ (fun x hx => HE.out.each x (List.mem_filter.1 hx).1)) t)
  have hXX : nodeT (k + 1) es = nodeL (nodeT k (es.filter fun x => !rightB k x)) (nodeT k (es.filter (rightB k))) := rfl
  have HX := hid (Dg.nodeL (nodeT k (es.filter fun x => !rightB k x)) (nodeT k (es.filter (rightB k))))
  have HXX := hid hXX
  rw [hes.1] at HE
  have hL : ∀ x ∈ (es.filter fun x => !rightB k x), rightB k x = false := fun x hx => by simpa using (List.mem_filter.1 hx).2
  have hR : ∀ x ∈ es.filter (rightB k), rightB k x = true := fun x hx => (List.mem_filter.1 hx).2
  have hSL := hes.2.1
  have hSR := hes.2.2
  have CH := hid (fun (W : World) (h : EntsAt W a len cap ((es.filter fun x => !rightB k x) ++ es.filter (rightB k))) => halves_any a len cap _ _ k W h hmx hL hR (by omega))
  have HSL := hid hSL
  have HSR := hid hSR
  have hsum := HE.out.length
  rw [List.length_append] at hsum
  generalize (es.filter fun x => !rightB k x) = L at *
  generalize es.filter (rightB k) = R at *
  generalize hNL : nodeT k L = NL at *
  generalize hNR : nodeT k R = NR at *
  generalize nodeL NL NR = X at *
  have HNL := hid hNL
  have HNR := hid hNR
  clear hes ih hXX hL hR hSL hSR hNL hNR HES
  go_enter Tryd.func50, Tryd.ntmps50
  go_wp2_with fail
  refine (CH.out _ HE.out).mono ?_
  rintro e w1 ⟨a1, c1, a2, c2, rfl, e1, e2, b1⟩
  have HE1 := hid e1
  have HE2 := hid e2
  have HG1 := hid (HG.out.below b1)
  have HBw1 := hid (Below.on Hb.out b1)
  have hsw1 := HBw1.out.size
  have Kxw1 := hid (Kx.out.below b1)
  have Krw1 := hid (Kr.out.below b1)
  clear b1 e1 e2
  go_wp2_with fail
  refine wp_region_flow 11 (List.range 11) [] [] (by kernel_rfl) (by kernel_rfl) ?_
  apply Exists.intro
  refine ⟨fun w0 hb0 hF0 => ?_, ?_⟩
  · skip
    have x0 : ∀ w', (∃ x : Ext w0, w' = x.at_) → ∃ T, Blk w' (w.heap.size) #[.slice fa fn fc, .slice (some ⟨g, 0, none⟩) 257 257] T := fun w' ⟨x, hx⟩ => ⟨_, hx ▸ (Kxw1.out.below hb0).below x.same⟩
    have c0 := fun e : Ext w0 => (HNL.out ▸ HI.out a1 L.length c1 L e.at_ HSL.out (HE1.out.below (Below.on hb0 e.same)) (by omega) (HG1.out.below (Below.on hb0 e.same)) (Htab.out.below (Below.on HBw1.out (Below.on hb0 e.same))))
    have c1 := fun e : Ext w0 => (HNR.out ▸ HI.out a2 R.length c2 R e.at_ HSR.out (HE2.out.below (Below.on hb0 e.same)) (by omega) (HG1.out.below (Below.on hb0 e.same)) (Htab.out.below (Below.on HBw1.out (Below.on hb0 e.same))))
    have c2 := fun e : Ext w0 => CN.out e.at_ (Htab.out.below (Below.on HBw1.out (Below.on hb0 e.same)))
    simp only [pick, List.range, List.range.loop, List.getElem?_toArray, List.getElem?_cons_succ, List.getElem?_cons_zero, Option.toList_some, List.cons_append, List.nil_append]
    repeat (first | (go_big_quiet_want; refine quiet_load_blk 76 _ rfl (w.heap.size) rfl _ x0 _ Tryd.underlying76 rfl 2 size_forest rfl ?_; go_big_quiet_on; simp only [Act.put, List.setIfInBounds_toArray, List.set_cons_zero, List.set_cons_succ]) | go_big_quiet_step (first | (go_at_call 50; with_reducible exact Calls.ext (c0 _)) | (go_at_call 50; with_reducible exact Calls.ext (c1 _)) | (go_at_call 17; with_reducible exact Calls.ext (c2 _))))
    exact wpQuiet_nil rfl
  refine AlChk.nil ?_
  refine Walk.fin fun w2 hw2 _ _ => ?_
  simp only [List.drop_succ_cons, List.drop_zero]
  have HBw2 := hid (Below.on HBw1.out hw2)
  have hsw2 := HBw2.out.size
  have Kxw2 := hid (Kxw1.out.below hw2)
  have Krw2 := hid (Krw1.out.below hw2)
  clear hw2
  go_wp2_with (
      refine wpList_store_blk rfl 23 _ _ rfl (w.heap.size + 1) (X.map (Value.int .u8)).toArray rfl rfl _ 23 Krw2.out 32 size_digest zsize HX.out.size (ints_one _ _) ?_
      intro w99 hb99 hk99
      have HB99 := hid (hb99.below HBw2.out HBw2.out.size (by omega))
      have HK99 := hid hk99
      clear hb99 hk99)
  exact bodyPost_ret (v := .agg (X.map (Value.int .u8)).toArray) (results_blk Tryd.results50 _ (w.heap.size + 1) rfl _ 23 HK99.out _ Tryd.underlying23 rfl 32 size_digest HX.out.size) rfl ⟨by first | rfl | rw [HXX.out], HB99.out⟩
/-- The node of a level above all entries of a row, which may be halved. -/
theorem node_all (fa : Option Addr) (fn fc g : Nat) : ∀ (k : Nat), k ≤ 256 → ∀ (a : Option Addr) (len cap : Nat) (es : List (List Int × List Int)) (W : World), SplitT k es → EntsAt W a len cap es → len ≤ 256 → Blk W g (dcs (empN 257)) 23 → ShaTab W →
    Calls Tryd.prog 50 #[.agg #[.slice fa fn fc, .slice (some ⟨g, 0, none⟩) 257 257], .slice a len cap, .int .i64 (k : Nat)] W fun e w' => e = .returned (.agg ((nodeT k es).map (Value.int .u8)).toArray) ∧ Below W.heap.size W w'
  | 0, _, a, len, cap, es, W, _, hE, _, hg, tab => by
    rcases Nat.eq_zero_or_pos len with h | h
    · exact node_empty fa fn fc g a len cap es 0 W hE hg tab h (by omega)
    · exact node_place fa fn fc g a len cap es W hE hg tab h
  | k + 1, hk, a, len, cap, es, W, hs, hE, hmx, hg, tab => by
    rcases Nat.eq_zero_or_pos len with h | h
    · exact node_empty fa fn fc g a len cap es (k + 1) W hE hg tab h hk
    · exact node_two fa fn fc g a len cap es k W hE hg tab h hmx (by omega) hs (node_all fa fn fc g k (by omega))
end Go.Proofs.YthaicocfbmpnmaaDoor
namespace Go.Proofs.YthaicocfbmpnmaaDoor
set_option maxRecDepth 100000
open Go.ChangeShapes Go.WideShapes Go.ChangeAt Go.RowKit
open Go.Shelf (Ren)
open Go.Sort (HoldsK)
def sortRen : Ren := ⟨fun | 6 => 92 | 15 => 89 | 14 => 100 | 28 => 95 | 29 => 96 | 20 => 101 | 21 => 102 | 22 => 103 | 23 => 104 | 24 => 105 | 25 => 106 | 26 => 107 | 27 => 108 | 46 => 109 | 47 => 110 | 48 => 111 | 49 => 112 | 50 => 113 | 57 => 114 | n => n, fun | 22 => 36 | 24 => 25 | 25 => 123 | 3 => 3 | 39 => 129 | 0 => 0 | 53 => 105 | 55 => 108 | 4 => 4 | 46 => 145 | 45 => 144 | 50 => 149 | 5 => 5 | 9 => 9 | 66 => 151 | 70 => 155 | 76 => 157 | 77 => 158 | n => n, fun | n => n⟩
theorem sortLays : SlLaysF0.n6 Tryd.prog sortRen where
  mixed := by kernel_rfl
  f6 := ⟨ "slices.SortFunc[[]planchet/ptree.Entry,planchet/ptree.Entry]", by decide, Tryd.func92.trans (congrArg some (by kernel_rfl))⟩
  f14 := ⟨ "slices.pdqsortCmpFunc[planchet/ptree.Entry]", by decide, Tryd.func100.trans (congrArg some (by kernel_rfl))⟩
  f15 := Tryd.func89.trans (congrArg some (by kernel_rfl))
  f20 := ⟨ "slices.insertionSortCmpFunc[planchet/ptree.Entry]", by decide, Tryd.func101.trans (congrArg some (by kernel_rfl))⟩
  f21 := ⟨ "slices.heapSortCmpFunc[planchet/ptree.Entry]", by decide, Tryd.func102.trans (congrArg some (by kernel_rfl))⟩
  f22 := ⟨ "slices.breakPatternsCmpFunc[planchet/ptree.Entry]", by decide, Tryd.func103.trans (congrArg some (by kernel_rfl))⟩
  f23 := ⟨ "slices.choosePivotCmpFunc[planchet/ptree.Entry]", by decide, Tryd.func104.trans (congrArg some (by kernel_rfl))⟩
  f24 := ⟨ "slices.reverseRangeCmpFunc[planchet/ptree.Entry]", by decide, Tryd.func105.trans (congrArg some (by kernel_rfl))⟩
  f25 := ⟨ "slices.partialInsertionSortCmpFunc[planchet/ptree.Entry]", by decide, Tryd.func106.trans (congrArg some (by kernel_rfl))⟩
  f26 := ⟨ "slices.partitionEqualCmpFunc[planchet/ptree.Entry]", by decide, Tryd.func107.trans (congrArg some (by kernel_rfl))⟩
  f27 := ⟨ "slices.partitionCmpFunc[planchet/ptree.Entry]", by decide, Tryd.func108.trans (congrArg some (by kernel_rfl))⟩
  f28 := Tryd.func95.trans (congrArg some (by kernel_rfl))
  f29 := Tryd.func96.trans (congrArg some (by kernel_rfl))
  f46 := ⟨ "slices.siftDownCmpFunc[planchet/ptree.Entry]", by decide, Tryd.func109.trans (congrArg some (by kernel_rfl))⟩
  f47 := Tryd.func110.trans (congrArg some (by kernel_rfl))
  f48 := Tryd.func111.trans (congrArg some (by kernel_rfl))
  f49 := ⟨ "slices.medianAdjacentCmpFunc[planchet/ptree.Entry]", by decide, Tryd.func112.trans (congrArg some (by kernel_rfl))⟩
  f50 := ⟨ "slices.medianCmpFunc[planchet/ptree.Entry]", by decide, Tryd.func113.trans (congrArg some (by kernel_rfl))⟩
  f57 := ⟨ "slices.order2CmpFunc[planchet/ptree.Entry]", by decide, Tryd.func114.trans (congrArg some (by kernel_rfl))⟩
  t0 := Tryd.underlying0
  a0 := Tryd.isAgg0
  z0 := Tryd.sizeOf0
  v0 := Tryd.zeroValue0
  t3 := Tryd.underlying3
  a3 := Tryd.isAgg3
  z3 := Tryd.sizeOf3
  v3 := Tryd.zeroValue3
  t4 := Tryd.underlying4
  a4 := Tryd.isAgg4
  z4 := Tryd.sizeOf4
  v4 := Tryd.zeroValue4
  t5 := Tryd.underlying5
  a5 := Tryd.isAgg5
  z5 := Tryd.sizeOf5
  v5 := Tryd.zeroValue5
  t9 := Tryd.underlying9
  a9 := Tryd.isAgg9
  z9 := Tryd.sizeOf9
  v9 := Tryd.zeroValue9
  t22 := Tryd.underlying36
  a22 := Tryd.isAgg36
  z22 := Tryd.sizeOf36
  v22 := Tryd.zeroValue36
  t25 := Tryd.underlying123
  a25 := Tryd.isAgg123
  z25 := Tryd.sizeOf123
  v25 := Tryd.zeroValue123
  t39 := Tryd.underlying129
  a39 := Tryd.isAgg129
  z39 := Tryd.sizeOf129
  v39 := Tryd.zeroValue129
  t45 := Tryd.underlying144
  a45 := Tryd.isAgg144
  z45 := Tryd.sizeOf144
  v45 := Tryd.zeroValue144
  t46 := Tryd.underlying145
  a46 := Tryd.isAgg145
  z46 := Tryd.sizeOf145
  v46 := Tryd.zeroValue145
  t50 := Tryd.underlying149
  a50 := Tryd.isAgg149
  z50 := Tryd.sizeOf149
  v50 := Tryd.zeroValue149
  t53 := Tryd.underlying105
  a53 := Tryd.isAgg105
  z53 := Tryd.sizeOf105
  v53 := Tryd.zeroValue105
  t55 := Tryd.underlying108
  a55 := Tryd.isAgg108
  z55 := Tryd.sizeOf108
  v55 := Tryd.zeroValue108
  t66 := Tryd.underlying151
  a66 := Tryd.isAgg151
  z66 := Tryd.sizeOf151
  v66 := Tryd.zeroValue151
  t70 := Tryd.underlying155
  a70 := Tryd.isAgg155
  z70 := Tryd.sizeOf155
  v70 := Tryd.zeroValue155
  t76 := Tryd.underlying157
  a76 := Tryd.isAgg157
  z76 := Tryd.sizeOf157
  v76 := Tryd.zeroValue157
  t77 := Tryd.underlying158
  a77 := Tryd.isAgg158
  z77 := Tryd.sizeOf158
  v77 := Tryd.zeroValue158
/-- An entry's cells. -/
def encE (x : EntD) : List Value := (entL x.1.1 x.1.2).map (Value.int .u8)
theorem encE_length (x : EntD) : (encE x).length = 64 := by unfold encE; rw [List.length_map, ent_len x.2.1 x.2.2]
theorem encE_one (x : EntD) : ∀ v ∈ encE x, v.oneCell' = true := fun v hv => by
  obtain ⟨y, _, rfl⟩ := List.mem_map.1 hv
  rfl
/-- How two entries are compared. -/
def cmpE (x y : EntD) : Int := cmpN (numL x.1.1) (numL y.1.1)
theorem cmpE_lt (x y : EntD) : ltOf cmpE x y = decide (numL x.1.1 < numL y.1.1) := by
  unfold ltOf cmpE cmpN
  by_cases h1 : numL x.1.1 < numL y.1.1
  · simp [h1]
  · by_cases h2 : numL y.1.1 < numL x.1.1 <;> simp [h1, h2]
theorem cmpE_order : Go.Sort.SWO (ltOf cmpE) where
  irrefl x := by rw [cmpE_lt]; simp
  trans x y z h1 h2 := by rw [cmpE_lt] at *; simp at *; omega
  ntrans x y z h1 h2 := by rw [cmpE_lt] at *; simp at *; omega
theorem cmpE_calls (blk off size : Nat) (w : World) : CmpLays Tryd.prog 81 #[] encE 64 cmpE blk off size w :=
  fun _ _ _ _ x y => less_any x.1.1 x.1.2 y.1.1 y.1.2 _ x.2.1 y.2.1
theorem flatE_snoc_at {es : List EntD} {j k : Nat} (hj : j < es.length) (hk : k < 64) : ((flatE (es.map Subtype.val)).map (Value.int .u8))[j * 64 + k]? = some (encE es[j])[k]! := by
  have he : ∀ x ∈ es.map Subtype.val, Dg x.1 ∧ Dg x.2 := fun x hx => by
    obtain ⟨y, _, rfl⟩ := List.mem_map.1 hx
    exact y.2
  have e0 : (es.map Subtype.val).getD j ([], []) = (es[j]).1 := by rw [List.getD_eq_getElem?_getD, List.getElem?_map, List.getElem?_eq_getElem hj]; rfl
  have hl : k < (encE es[j]).length := by rw [encE_length]; exact hk
  rw [List.getElem?_map, flatE_at he j k (by rw [List.length_map]; exact hj) hk, e0, ← List.getElem?_map, getElem!_pos (encE es[j]) k hl]
  exact List.getElem?_eq_getElem hl
/-- A row of the call's own is laid as the sort wants it. -/
theorem OwnE.holds {w : World} {base : Nat} {es : List EntD} {g n c : Nat} (h : OwnE w base (.slice (some ⟨g, 0, none⟩) n c) (es.map Subtype.val)) : n = es.length ∧ g < w.heap.size ∧ HoldsK encE 64 w g 0 es.toArray := by
  obtain ⟨⟨h1, ⟨h2, _⟩ | ⟨g', cap, cur, hv, hg, hh, hle, hmx, hsz, htk⟩⟩, h3⟩ := h
  · cases h2
  · cases hv
    have hb : Blk w g cur 25 := hh
    refine ⟨by rw [List.length_map], hb.lt, fun j hj => ?_⟩
    rw [Go.Sort.size_flatK] at hj
    have hs : es.toArray.size = es.length := by simp
    rw [hs] at hj
    refine ⟨?_, hb.free _⟩
    rw [hb.cell, Nat.zero_add, Go.Sort.get_flatK _ _ _ _ (by rw [hs]; exact hj)]
    have hjd : j / 64 < es.length := by omega
    have h5 := flatE_snoc_at (es := es) hjd (Nat.mod_lt j (show 0 < 64 by omega))
    rw [show j / 64 * 64 + j % 64 = j by omega] at h5
    rw [List.length_map] at htk
    have h6 : (cur.toList.take (es.length * 64))[j]? = some (encE es[j / 64])[j % 64]! := by rw [htk]; exact h5
    rw [List.getElem?_take_of_lt hj] at h6
    rw [show es.toArray[j / 64]! = es[j / 64] by simp [hjd]]
    simpa using h6
theorem holds_ents {w : World} {g c : Nat} {d : Array EntD} (h : HoldsK encE 64 w g 0 d) (hg : g < w.heap.size) (hc : d.size ≤ c) : EntsAt w (some ⟨g, 0, none⟩) d.size c (d.toList.map Subtype.val) := by
  refine ⟨by simp, hc, fun x hx => ?_, .inr ⟨g, 0, rfl, hg, fun j hj k v hv => ?_⟩⟩
  · obtain ⟨y, _, rfl⟩ := List.mem_map.1 hx
    exact y.2
  · have hjl : j < d.toList.length := by simpa using hj
    have e0 : (d.toList.map Subtype.val).getD j ([], []) = (d.toList[j]).1 := by rw [List.getD_eq_getElem?_getD, List.getElem?_map, List.getElem?_eq_getElem hjl]; rfl
    rw [e0] at hv
    have hk : k < (encE d.toList[j]).length := (List.getElem?_eq_some_iff.1 hv).1
    rw [encE_length] at hk
    have h1 := (HoldsK.cell h hj hk).1
    rw [h1]
    have hv2 : (encE d.toList[j])[k]? = some v := hv
    rw [show d[j]! = d.toList[j] by simp [hj], getElem!_pos (encE d.toList[j]) k (by rw [encE_length]; exact hk), ← hv2]
    exact (List.getElem?_eq_getElem _).symm
theorem sort_below {w0 w : World} {B g n : Nat} {d : Array EntD} {os : Array Obj} (h : Below B w0 w) (hB : B ≤ g) (hw : B ≤ w.heap.size) : Below B w0 (sortWorldK encE 64 w g 0 n d os) :=
  h.trans ⟨rfl, rfl, rfl, size_sortWorldK_c encE 64 w g 0 n d os, fun k hk => by
    show ((w.heap.modify g _) ++ os)[k]? = _
    rw [Array.getElem?_append_left (by rw [Array.size_modify]; omega), Array.getElem?_modify, if_neg (by omega)]⟩
set_option maxHeartbeats 4000000 in
theorem collect_all (ad : Option Addr) (len cap : Nat) (es : List EntD) (pb : Nat) (w : World) (hE : EntsAt w ad len cap (es.map Subtype.val)) (hmx : len ≤ 300) (hk : Blk w pb #[.slice ad len cap] 36) :
    Calls Tryd.prog 91 #[.func (.func 93) #[] #[.pointer (some ⟨pb, 0, none⟩)]] w fun e w' => ∃ v, e = .returned v ∧ OwnE w' w.heap.size v (es.map Subtype.val) ∧ Below w.heap.size w w' := by
  have HE := hid hE
  have HK := hid hk
  clear hE hk
  go_enter Tryd.func91, Tryd.ntmps91
  go_wp2_with fail
  refine (appendSeq_all ad len cap es pb _ HE.out hmx HK.out).mono ?_
  rintro e w1 ⟨v, rfl, o1, b1⟩
  have HO := hid o1
  have HB := hid b1
  clear o1 b1
  go_wp2_with fail
  go_returns
  exact ⟨v, rfl, HO.out, HB.out⟩
set_option maxHeartbeats 4000000 in
theorem sorted_any (ad : Option Addr) (len cap : Nat) (es : List EntD) (pb : Nat) (w : World) (hE : EntsAt w ad len cap (es.map Subtype.val)) (hmx : len ≤ 300) (hk : Blk w pb #[.slice ad len cap] 36) :
    Calls Tryd.prog 79 #[.func (.func 93) #[] #[.pointer (some ⟨pb, 0, none⟩)], .func (.func 81) #[] #[]] w fun e w' => ∃ (a' : Option Addr) (c' : Nat) (fs : List (List Int × List Int)), e = .returned (.slice a' len c') ∧ (∀ x o, a' = some ⟨x, o, none⟩ → w.heap.size ≤ x) ∧ EntsAt w' a' len c' fs ∧ (es.map Subtype.val).Perm fs ∧ fs.Pairwise (fun x y => numL x.1 ≤ numL y.1) ∧ Below w.heap.size w w' := by
  have HE := hid hE
  have HK := hid hk
  have hlen := hE.length
  rw [List.length_map] at hlen
  clear hE hk
  go_enter Tryd.func79, Tryd.ntmps79
  go_wp2_with fail
  refine (collect_all ad len cap es pb _ HE.out hmx HK.out).mono ?_
  rintro e w1 ⟨v, rfl, o1, b1⟩
  have HB1 := hid b1
  have HO1 := hid o1
  have hb1 := b1.size
  obtain ⟨a1, c1, rfl, e1⟩ := o1.ents
  have HE1 := hid e1
  rw [List.length_map, hlen] at HE1 HO1 ⊢
  clear o1 b1 e1
  dsimp only
  by_cases h0 : len = 0
  · skip
    subst h0
    obtain rfl := List.eq_nil_of_length_eq_zero hlen
    have hn := fun W : World => AnyF.slices_SortFunc_none sortLays a1 c1 (.func (.func 81) #[] #[]) W
    have hn : ∀ W : World, Calls Tryd.prog 92 #[.slice a1 0 c1, .func (.func 81) #[] #[]] W (fun e w' => e = .returned (.tuple #[]) ∧ w' = W) := hn
    have HN := hid hn
    clear hn
    go_wp2_with fail
    refine (HN.out _).mono ?_
    rintro e w2 ⟨rfl, rfl⟩
    go_wp2_with fail
    go_returns
    exact ⟨a1, c1, [], rfl, fun x o hx => (HO1.out.lt x (by rw [hx]; rfl)).1, HE1.out, .refl _, List.Pairwise.nil, HB1.out⟩
  · skip
    obtain ⟨g, o, rfl, -, -⟩ := HE1.out.at_ (by omega)
    have ho := HO1.out
    obtain rfl : o = 0 := by
      obtain ⟨⟨_, ⟨h2, _⟩ | ⟨g', cap', cur, hv, _⟩⟩, _⟩ := ho
      · cases h2
      · cases hv; rfl
    obtain ⟨hn1, hg1, hh1⟩ := ho.holds
    have hsz : es.toArray.size = len := by simp [hlen]
    have hcon0 := AnyQ.slices_SortFunc sortLays 64 Tryd.isAgg25 Tryd.sizeOf25 encE encE_length encE_one cmpE cmpE_order 81 #[] g 0 c1 es.toArray w1 (enters_of Tryd.func81 (by kernel_rfl) rfl) (cmpE_calls g 0 _ w1) hh1 hg1 (by rw [hsz]; omega)
    rw [hsz] at hcon0
    have hcon : Calls Tryd.prog 92 #[.slice (some ⟨g, 0, none⟩) len c1, .func (.func 81) #[] #[]] w1 _ := hcon0
    have HC := hid hcon
    have HH1 := hid hh1
    have hgw := (HO1.out.lt g rfl).1
    have hle := HE1.out.le
    have HSZ := hid hsz
    have HLN := hid hlen
    clear hcon hcon0 ho hh1 hn1 hsz hlen
    go_wp2_with fail
    refine HC.out.mono ?_
    rintro e w2 ⟨rfl, d', n, os, hp, hs, rfl⟩
    have hsz := HSZ.out
    obtain ⟨hp1, _, hp3⟩ := hp
    rw [hsz] at hp1
    have hd' : HoldsK encE 64 (sortWorldK encE 64 w1 g 0 n d' os) g 0 d' := holdsK_sortWorldK_c encE 64 w1 g 0 es.toArray d' n os HH1.out hg1 (by rw [hp1, hsz])
    have hg2 := Nat.lt_of_lt_of_le hg1 (size_sortWorldK_c encE 64 w1 g 0 n d' os)
    have hb2 := sort_below (n := n) (d := d') (os := os) HB1.out hgw hb1
    have he2 := holds_ents hd' hg2 (by rw [hp1]; exact hle)
    rw [hp1] at he2
    rw [Array.extract_eq_self_of_le (Nat.le_of_eq hp1), Array.extract_eq_self_of_le (Nat.le_of_eq hsz)] at hp3
    have hpm : (es.map Subtype.val).Perm (d'.toList.map Subtype.val) := (hp3.map Subtype.val).symm
    have hso : (d'.toList.map Subtype.val).Pairwise (fun x y => numL x.1 ≤ numL y.1) := by
      rw [List.pairwise_map]
      refine List.pairwise_iff_getElem.2 (fun i j hi hj hij => ?_)
      have h := hs i j (Nat.zero_le _) hij (by rw [← hp1]; simpa using hj)
      rw [cmpE_lt] at h
      have h := of_decide_eq_false h
      rw [show d'[j]! = d'.toList[j] by simp at hj; simp [hj], show d'[i]! = d'.toList[i] by simp at hi; simp [hi]] at h
      omega
    have HE2 := hid he2
    have HB2 := hid hb2
    have HM := hid hpm
    have HO := hid hso
    clear he2 hb2 hpm hso hp3 hd' hs hsz hp1
    generalize sortWorldK encE 64 w1 g 0 n d' os = w3 at *
    dsimp only
    go_wp2_with fail
    go_returns
    exact ⟨_, c1, _, rfl, fun x o hx => by cases hx; exact hgw, HE2.out, HM.out, HO.out, HB2.out⟩
end Go.Proofs.YthaicocfbmpnmaaDoor
namespace Go.Proofs.YthaicocfbmpnmaaDoor
set_option maxRecDepth 100000
open Go.ChangeShapes Go.WideShapes Go.ChangeAt Go.RowKit
theorem grow_all (a : Option Addr) (len cap : Nat) (es : List (List Int × List Int)) (w : World) (hE : EntsAt w a len cap es) (hmx : len ≤ 256) (hnf : (es.map Prod.fst).Nodup) (tab : ShaTab w) :
    Calls Tryd.prog 49 #[.slice a len cap] w fun e w' => ∃ g a' c' fs, e = .returned (.tuple #[.agg #[.slice a' len c', .slice (some ⟨g, 0, none⟩) 257 257], .int .i64 0]) ∧ EntsAt w' a' len c' fs ∧ es.Perm fs ∧ fs.Pairwise (fun x y => numL x.1 ≤ numL y.1) ∧ Below w.heap.size w w' ∧ Blk w' g (dcs (empN 257)) 23 := by
  obtain ⟨es, rfl⟩ := ents_of hE.each
  exact grow_good a len cap _ w hE hmx hnf tab (fun pb W hk h => sorted_any a len cap es pb W h (by omega) hk)
/-- What a grown row comes to. -/
theorem grown_node {es fs : List (List Int × List Int)} (he : ∀ x ∈ es, Dg x.1 ∧ Dg x.2) (hnf : (es.map Prod.fst).Nodup) (hp : es.Perm fs) (hs : fs.Pairwise (fun x y => numL x.1 ≤ numL y.1)) : SplitT 256 fs ∧ nodeT 256 fs = nodeT 256 es :=
  ⟨split_all (fun x hx => (he x (hp.mem_iff.2 hx)).1) hs, (nodeT_perm 256 (apart_of (fun x hx => (he x hx).1) (List.pairwise_map.1 hnf)) hp).symm⟩
set_option maxHeartbeats 4000000 in
theorem root_good (a : Option Addr) (len cap : Nat) (es : List (List Int × List Int)) (w : World) (hE : EntsAt w a len cap es) (hmx : len ≤ 256) (tab : ShaTab w) (hnf : (es.map Prod.fst).Nodup) :
    Calls Tryd.prog 22 #[.slice a len cap] w fun e w' => e = .returned (.tuple #[.agg ((nodeT 256 es).map (Value.int .u8)).toArray, .int .i64 0]) ∧ Below w.heap.size w w' := by
  have b1 := (Below.refl w.heap.size w).alloc (Nat.le_refl _) (.cells (byteCells 32 []) 23 (0, 0))
  have Kr := hid (Blk.new (w := w) (n := w.heap.size) rfl (byteCells 32 []) 23)
  have Hb := hid b1
  have hbz := b1.size
  have Hbs := hid (show w.heap.size + 1 = (w.alloc (.cells (byteCells 32 []) 23 (0, 0))).heap.size by simp only [World.size_alloc])
  have Htab := hid tab
  clear b1 tab 
  have HE := hid (hE.below Hb.out)
  clear hE
  go_enter Tryd.func22, Tryd.ntmps22
  go_wp2_with fail
  refine (grow_all a len cap es _ HE.out hmx hnf (Htab.out.below Hb.out)).mono ?_
  rintro e w1 ⟨g, a1, c1, fs, rfl, e1, p1, s1, b1, kg⟩
  have hgn := grown_node HE.out.each hnf p1 s1
  have HSP := hid hgn.1
  have HND := hid hgn.2
  have HE1 := hid e1
  have HG1 := hid kg
  have HX := hid (Dg.nodeT 256 es HE.out.each)
  clear e1 p1 s1 kg hgn hnf
  have Hb1 := hid (Below.on Hb.out b1)
  have Kr1 := hid (Kr.out.below b1)
  have hs1 := Hb1.out.size
  have hr1 := Kr1.out.lt
  clear b1
  have Krw21 := hid (Kr1.out.old (.cells #[.slice a1 len c1, .slice (some ⟨g, 0, none⟩) 257 257] 76 (0, 0)))
  have hlrw21 := Kr1.out.lt
  have Kxw21 := hid (Blk.new (w := w1) rfl #[.slice a1 len c1, .slice (some ⟨g, 0, none⟩) 257 257] 76)
  have HBw21 := hid (Hb1.out.alloc Hb1.out.size (.cells #[.slice a1 len c1, .slice (some ⟨g, 0, none⟩) 257 257] 76 (0, 0)))
  have hsw21 := HBw21.out.size
  have hfw21 : w.heap.size ≤ w1.heap.size := Hb1.out.size
  have cx0 : (w1.alloc (.cells #[.slice a1 len c1, .slice (some ⟨g, 0, none⟩) 257 257] 76 (0, 0))).cell? ⟨w1.heap.size, 0, none⟩ = some (.slice a1 len c1) := by rw [Kxw21.out.cell]; rfl
  go_wp2_with (refine wpList_load_blk rfl 76 _ rfl (w1.heap.size) rfl _ 76 Kxw21.out _ Tryd.underlying76 rfl 2 size_forest rfl ?_)
  refine (node_all a1 len c1 g 256 (Nat.le_refl _) a1 len c1 fs _ HSP.out (HE1.out.below ((Below.refl _ _).alloc (Nat.le_refl _) _)) hmx (HG1.out.below ((Below.refl _ _).alloc (Nat.le_refl _) _)) (Htab.out.below HBw21.out)).mono ?_
  rintro e w22 ⟨rfl, bw22⟩
  have HBw22 := hid (Below.on HBw21.out bw22)
  have hsw22 := HBw22.out.size
  have Krw22 := hid (Krw21.out.below bw22)
  have Kxw22 := hid (Kxw21.out.below bw22)
  clear bw22
  rw [HND.out]
  generalize hX1 : nodeT 256 es = X at *
  go_wp2_with (
      refine wpList_store_blk rfl 23 _ _ rfl (w.heap.size) (X.map (Value.int .u8)).toArray rfl rfl _ 23 Krw22.out 32 size_digest zsize HX.out.size (ints_one _ _) ?_
      intro w9 hb9 hk9
      have HB9 := hid (hb9.below HBw22.out HBw22.out.size (by omega))
      have HK9 := hid hk9
      clear hb9 hk9)
  exact bodyPost_ret (v := .tuple #[.agg (X.map (Value.int .u8)).toArray, .int .i64 0]) (results_blk_tmp Tryd.results22 _ (w.heap.size) rfl _ rfl _ 23 HK9.out _ Tryd.underlying23 rfl 32 size_digest HX.out.size) rfl ⟨by first | rfl | rw [hX1], HB9.out⟩
set_option maxHeartbeats 4000000 in
theorem root_dup (a : Option Addr) (len cap : Nat) (es : List (List Int × List Int)) (w : World) (hE : EntsAt w a len cap es) (hmx : len ≤ 256) (tab : ShaTab w) (hnf : ¬ (es.map Prod.fst).Nodup) :
    Calls Tryd.prog 22 #[.slice a len cap] w fun e w' => e = .returned (.tuple #[.agg (zD.map (Value.int .u8)).toArray, .int .i64 5]) ∧ Below w.heap.size w w' := by
  have b1 := (Below.refl w.heap.size w).alloc (Nat.le_refl _) (.cells (byteCells 32 []) 23 (0, 0))
  have Kr := hid (Blk.new (w := w) (n := w.heap.size) rfl (byteCells 32 []) 23)
  have Hb := hid b1
  have hbz := b1.size
  have Hbs := hid (show w.heap.size + 1 = (w.alloc (.cells (byteCells 32 []) 23 (0, 0))).heap.size by simp only [World.size_alloc])
  have Htab := hid tab
  clear b1 tab 
  have HE := hid (hE.below Hb.out)
  clear hE
  go_enter Tryd.func22, Tryd.ntmps22
  go_wp2_with fail
  refine (grow_dup a len cap es _ HE.out hmx hnf).mono ?_
  rintro e w1 ⟨rfl, b1⟩
  have Hb1 := hid (Below.on Hb.out b1)
  have Kr1 := hid (Kr.out.below b1)
  have hs1 := Hb1.out.size
  have hr1 := Kr1.out.lt
  clear b1
  have Krw21 := hid (Kr1.out.old (.cells #[.slice none 0 0, .slice none 0 0] 76 (0, 0)))
  have hlrw21 := Kr1.out.lt
  have Kxw21 := hid (Blk.new (w := w1) rfl #[.slice none 0 0, .slice none 0 0] 76)
  have HBw21 := hid (Hb1.out.alloc Hb1.out.size (.cells #[.slice none 0 0, .slice none 0 0] 76 (0, 0)))
  have hsw21 := HBw21.out.size
  have hfw21 : w.heap.size ≤ w1.heap.size := Hb1.out.size
  have cx0 : (w1.alloc (.cells #[.slice none 0 0, .slice none 0 0] 76 (0, 0))).cell? ⟨w1.heap.size, 0, none⟩ = some (.slice none 0 0) := by rw [Kxw21.out.cell]; rfl
  go_wp2_with (
      refine wpList_store_blk rfl 23 _ _ rfl (w.heap.size) (zD.map (Value.int .u8)).toArray rfl rfl _ 23 Krw21.out 32 size_digest zsize Dg.zero.size (ints_one _ _) ?_
      intro w9 hb9 hk9
      have HB9 := hid (hb9.below HBw21.out HBw21.out.size (by omega))
      have HK9 := hid hk9
      clear hb9 hk9)
  exact bodyPost_ret (v := .tuple #[.agg (zD.map (Value.int .u8)).toArray, .int .i64 5]) (results_blk_tmp Tryd.results22 _ (w.heap.size) rfl _ rfl _ 23 HK9.out _ Tryd.underlying23 rfl 32 size_digest Dg.zero.size) rfl ⟨rfl, HB9.out⟩
end Go.Proofs.YthaicocfbmpnmaaDoor
namespace Go.Proofs.YthaicocfbmpnmaaDoor
set_option maxRecDepth 100000
open Go.ChangeShapes Go.WideShapes Go.ChangeAt Go.RowKit
/-- A row of pairs of digests of the call's own, of whatever type. -/
structure OwnS (T : TypeId) (w : World) (base : Nat) (v : Value) (es : List (List Int × List Int)) : Prop where
  row : w.ownsRow base T 64 v es.length ((flatE es).map (Value.int .u8))
  each : ∀ x ∈ es, Dg x.1 ∧ Dg x.2
section
variable {T L : TypeId} {w w' : World} {base : Nat} {v : Value} {es : List (List Int × List Int)}
/-- One pair more. -/
theorem run_append_s (hu : Tryd.prog.underlying L = some (.slice T)) (hin : (Tryd.prog.info? T).map (fun i => (i.zero, i.size, i.bytes)) = some (some (.agg ((entL zD zD).map (Value.int .u8)).toArray), 64, 64)) (ty : TypeId) (hown : OwnS T w base v es) {b : Nat} {x : List Int × List Int} {U : TypeId} (hk : Blk w b ((entL x.1 x.2).map (Value.int .u8)).toArray U) (hx : Dg x.1 ∧ Dg x.2) (hb : es.length ≤ 1000000000000) (hbase : base ≤ w.heap.size) :
    ∃ v' w', (Builtin.append_ #[L, L] ty #[v, .slice (some ⟨b, 0, none⟩) 1 1]).run Tryd.prog w = .ok v' w' ∧ OwnS T w' base v' (es ++ [x]) ∧ w.grownBy w' v.ownBlock := by
  obtain ⟨i0, hi, hz0, hz1, hz2⟩ := info_parts hin
  obtain ⟨v', w', h1, h2, h3, _⟩ := run_append_own (P := Tryd.prog) w base L ty T i0 (.agg ((entL zD zD).map (Value.int .u8)).toArray) 64 64 hu hi hz0 hz1 hz2 (two_size Dg.zero Dg.zero) (by omega) v es.length _ hown.row ⟨b, 0, none⟩ 1 1 ((entL x.1 x.2).map (Value.int .u8)) (by rw [List.length_map, ent_len hx.1 hx.2, Nat.one_mul]) (news_blk hk) (fun u hu => by
    simp only [List.mem_map] at hu
    obtain ⟨_, _, rfl⟩ := hu
    rfl) (by unfold maxLen; omega) (by omega) hbase
  refine ⟨v', w', h1, ⟨?_, ?_⟩, h3⟩
  · rw [flatE_snoc, List.map_append, List.length_append]
    exact h2
  · intro d hd
    rcases List.mem_append.1 hd with h | h
    · exact hown.each d h
    · simp only [List.mem_singleton] at h
      rw [h]; exact hx
end
/-- An entry's place, and what stands there. -/
def leafP (x : List Int × List Int) : List Int × List Int := (x.1, leafE x.1 x.2)
theorem range_front {a b : List Int} (_ha : Dg a) {w : World} {x o : Nat} (h : w.rangeAt x o ((entL a b).map (Value.int .u8))) : w.rangeAt x o (a.map (Value.int .u8)) := fun j v hv => h j v (by
  have hj : j < a.length := by have := (List.getElem?_eq_some_iff.1 hv).1; simpa using this
  rw [entL, List.map_append, List.getElem?_append_left (by rw [List.length_map]; exact hj)]
  exact hv)
theorem range_back {a b : List Int} (ha : Dg a) {w : World} {x o : Nat} (h : w.rangeAt x o ((entL a b).map (Value.int .u8))) : w.rangeAt x (o + 32) (b.map (Value.int .u8)) := fun j v hv => by
  rw [show o + 32 + j = o + (32 + j) by omega]
  refine h (32 + j) v ?_
  rw [entL, List.map_append, List.getElem?_append_right (by rw [List.length_map, ha.len]; omega), List.length_map, ha.len, Nat.add_sub_cancel_left]
  exact hv
end Go.Proofs.YthaicocfbmpnmaaDoor
namespace Go.Proofs.YthaicocfbmpnmaaDoor
set_option maxRecDepth 100000
open Go.ChangeShapes Go.WideShapes Go.ChangeAt Go.RowKit
/-- The place beside one. -/
def besideL (d : List Int) : List Int := d.set 31 (if d.getD 31 0 % 2 = 0 then d.getD 31 0 + 1 else d.getD 31 0 - 1)
/-- What stands at a place. -/
def findP (S : List (List Int × List Int)) (p : List Int) : List Int × Bool := match S.find? fun y => decide (y.1 = p) with | some y => (y.2, true) | none => (zD, false)
end Go.Proofs.YthaicocfbmpnmaaDoor
namespace Go.Proofs.YthaicocfbmpnmaaDoor
set_option maxRecDepth 100000
open Go.ChangeShapes Go.WideShapes Go.ChangeAt Go.RowKit
/-- What stands beside a place, or the empty node. -/
def otherP (S : List (List Int × List Int)) (E d : List Int) : List Int := if (findP S (besideL d)).2 = true then (findP S (besideL d)).1 else E
/-- The next row, one place on. -/
def upStep (S : List (List Int × List Int)) (E : List Int) (R : List (List Int × List Int)) (s : List Int × List Int) : List (List Int × List Int) :=
  if (findP R (halfL s.1)).2 = true then R else R ++ [(halfL s.1, if s.1.getD 31 0 % 2 = 0 then nodeL s.2 (otherP S E s.1) else nodeL (otherP S E s.1) s.2)]
def upRow (S : List (List Int × List Int)) (E : List Int) (l : List (List Int × List Int)) : List (List Int × List Int) := l.foldl (upStep S E) []
/-- The next row. -/
def upL (S : List (List Int × List Int)) (E : List Int) : List (List Int × List Int) := upRow S E S
end Go.Proofs.YthaicocfbmpnmaaDoor
namespace Go.Proofs.YthaicocfbmpnmaaDoor
set_option maxRecDepth 100000
open Go.ChangeShapes Go.WideShapes Go.ChangeAt Go.RowKit
/-- The row of a level. -/
def upN (es : List (List Int × List Int)) : Nat → List (List Int × List Int)
  | 0 => es.map leafP
  | k + 1 => upL (upN es k) (emptyL k)
/-- The reference's root. -/
def rootR (es : List (List Int × List Int)) : List Int := if (upN es 256).length = 0 then emptyL 256 else ((upN es 256).getD 0 ([], [])).2
end Go.Proofs.YthaicocfbmpnmaaDoor
namespace Go.Proofs.YthaicocfbmpnmaaDoor
set_option maxRecDepth 100000
open Go.ChangeShapes Go.WideShapes Go.ChangeAt Go.RowKit
/-- The index of an entry. -/
def idxE (es : List (List Int × List Int)) (i : Nat) : List Int := (es.getD i ([], [])).1
end Go.Proofs.YthaicocfbmpnmaaDoor
namespace Go.Proofs.YthaicocfbmpnmaaDoor
set_option maxRecDepth 100000
open Go.ChangeShapes Go.WideShapes Go.ChangeAt Go.RowKit
theorem bit_mod (n k : Nat) : n.testBit k = decide (n / 2 ^ k % 2 = 1) := Nat.testBit_eq_decide_div_mod_eq
/-- The entries below a place of a level. -/
def underT (es : List EntT) (k : Nat) (p : List Int) : List EntT := es.filter fun x => decide (halfK k x.1 = p)
/-- A row of a level: the places above entries, each with its node. -/
structure RowT (es : List EntT) (k : Nat) (R : List EntT) : Prop where
  from_ : ∀ y ∈ R, ∃ x ∈ es, y.1 = halfK k x.1
  node : ∀ y ∈ R, y.2 = nodeT k (underT es k y.1)
def AllT (es : List EntT) (k : Nat) (R : List EntT) : Prop := ∀ x ∈ es, ∃ y ∈ R, y.1 = halfK k x.1
end Go.Proofs.YthaicocfbmpnmaaDoor
namespace Go.Proofs.YthaicocfbmpnmaaDoor
set_option maxRecDepth 100000
open Go.ChangeShapes Go.WideShapes Go.ChangeAt Go.RowKit
end Go.Proofs.YthaicocfbmpnmaaDoor
namespace Go.Proofs.YthaicocfbmpnmaaDoor
set_option maxRecDepth 100000
open Go.ChangeShapes Go.WideShapes Go.ChangeAt Go.RowKit
set_option maxHeartbeats 4000000 in
theorem entry_cells {H : Type} {enc : TypeId × Value → H} {W : World} {fuel : Nat} {cs : List Value} {x : DataW H × List MemPlace} (hf : DataW.trod enc Tryd.prog W 0 (fun _ => true) true fuel 25 cs = some x) :
    ∃ y : List Int × List Int, (Dg y.1 ∧ Dg y.2) ∧ cs = (entL y.1 y.2).map (Value.int .u8) := by
  obtain ⟨f0, f1, hu, t0, t1, o0, o1⟩ : ∃ f0 f1 : Field, Tryd.prog.underlying 25 = some (.struct #[f0, f1]) ∧ f0.type = 23 ∧ f1.type = 23 ∧ f0.offset = 0 ∧ f1.offset = 32 := ⟨_, _, Tryd.underlying25, rfl, rfl, rfl, rfl⟩
  have c32 : Tryd.prog.cellsOf 23 = 32 := by kernel_rfl
  have c64 : Tryd.prog.cellsOf 25 = 64 := by kernel_rfl
  have c1 : Tryd.prog.cellsOf 5 = 1 := by kernel_rfl
  obtain ⟨y0, y1, n, _, hl, q0, q1⟩ := trod_struct2 hu hf
  rw [t0, o0, c32] at q0
  rw [t1, o1, c32] at q1
  obtain ⟨d0, k0, e0⟩ := digest_cells Tryd.underlying23 Tryd.underlying5 c32 c1 q0
  obtain ⟨d1, k1, e1⟩ := digest_cells Tryd.underlying23 Tryd.underlying5 c32 c1 q1
  refine ⟨(d0, d1), ⟨k0, k1⟩, ?_⟩
  rw [c64] at hl
  unfold entL
  rw [List.map_append, ← e0, ← e1]
  have h3 : cs = cs.take 32 ++ (cs.drop 32).take 32 := by
    rw [List.take_of_length_le (l := cs.drop 32) (by rw [List.length_drop]; omega), List.take_append_drop]
  simpa using h3
set_option maxHeartbeats 4000000 in
theorem open_ents {H : Type} {enc : TypeId × Value → H} {W : World} {base : Nat} {v : Value} {d : DataW H} {p : List MemPlace} (hv : Value.okWide Tryd.prog W .any base 36 v) (h : DataW.Trod enc Tryd.prog W 0 (fun _ => true) true 36 v d p) :
    ∃ (a : Option Addr) (len cap : Nat) (es : List (List Int × List Int)), v = .slice a len cap ∧ EntsAt W a len cap es := by
  have ce : Tryd.prog.cellsOf 25 = 64 := by kernel_rfl
  obtain ⟨a, len, cap, rfl⟩ := okWide_slice Tryd.underlying36 hv
  obtain ⟨fuel, hf⟩ := h
  rcases Go.Deep.open_slice Tryd.underlying36 hf with ⟨hcs, _⟩ | ⟨x, l, c, m, n, D, Pl, hcs, _, hl, hm, hmm, _, hall⟩
  · simp [Value.cells] at hcs
    obtain ⟨rfl, rfl, rfl⟩ := hcs
    exact ⟨none, 0, 0, [], rfl, ⟨rfl, Nat.le_refl _, by simp, .inl rfl⟩⟩
  · simp [Value.cells] at hcs
    obtain ⟨rfl, rfl, rfl⟩ := hcs
    obtain ⟨b, off, s⟩ := x
    simp only [if_true] at hmm
    have hall' : ∀ i, i < cap → ∃ y : List Int × List Int, (Dg y.1 ∧ Dg y.2) ∧ W.cells? 0 ((⟨b, off, s⟩ : Addr).add (i * 64)) 64 = some ((entL y.1 y.2).map (Value.int .u8)) := fun i hi => by
      obtain ⟨cs', h1, h2⟩ := hall i (by omega)
      rw [ce] at h1
      obtain ⟨y, h3, rfl⟩ := entry_cells h2
      exact ⟨y, h3, h1⟩
    let f : Nat → List Int × List Int := fun i => if h : i < cap then Classical.choose (hall' i h) else ([], [])
    have hf : ∀ i, i < cap → (Dg (f i).1 ∧ Dg (f i).2) ∧ W.cells? 0 ((⟨b, off, s⟩ : Addr).add (i * 64)) 64 = some ((entL (f i).1 (f i).2).map (Value.int .u8)) := fun i hi => by
      simp only [f, hi, dif_pos]
      exact Classical.choose_spec (hall' i hi)
    have hel : ∀ i, i < cap → (entL (f i).1 (f i).2).length = 64 := fun i hi => ent_len (hf i hi).1.1 (hf i hi).1.2
    refine ⟨_, len, cap, (List.range len).map f, rfl, ⟨by simp, hl, fun y hy => ?_, ?_⟩⟩
    · simp only [List.mem_map, List.mem_range] at hy
      obtain ⟨i, hi, rfl⟩ := hy
      exact (hf i (by omega)).1
    · by_cases hz : len = 0
      · exact .inl hz
      have h0 := (World.cells?_some (hf 0 (by omega)).2).2.2 0 (by omega)
      have hl0 := hel 0 (by omega)
      rw [List.getElem?_map, List.getElem?_eq_getElem (by omega)] at h0
      have hs : s = none := by
        have := World.cell?_spot h0
        simpa [Addr.add] using this
      subst hs
      have hx : b < W.heap.size := by
        rw [Addr.add_mid, Addr.add_mid] at h0
        exact World.block_lt_of_cell? W _ h0
      refine .inr ⟨b, off, rfl, hx, fun i hi k v hv => ?_⟩
      have hc := (World.cells?_some (hf i (by omega)).2).2.2
      have hli := hel i (by omega)
      have e : ((List.range len).map f).getD i ([], []) = f i := by simp [hi]
      rw [e] at hv
      have hk : k < 64 := by
        have := (List.getElem?_eq_some_iff.1 hv).1
        simp only [List.length_map, hli] at this
        exact this
      have := hc k hk
      rw [Addr.add_mid, Addr.add_mid] at this
      rw [this]
      exact hv
end Go.Proofs.YthaicocfbmpnmaaDoor
namespace Go.Proofs.YthaicocfbmpnmaaDoor
set_option maxRecDepth 100000
open Go.ChangeShapes Go.WideShapes Go.ChangeAt Go.RowKit
open Go.Shelf (Ren)
open Go.Sort (HoldsK)
def revRen : Ren := ⟨fun | 35 => 54 | n => n, fun | 22 => 27 | 23 => 23 | 3 => 3 | 4 => 4 | 0 => 0 | n => n, fun | n => n⟩
theorem revLays : SlLaysE0.n35 Tryd.prog revRen where
  mixed := by kernel_rfl
  f35 := ⟨ "slices.Reverse[[]planchet/api.Digest,planchet/api.Digest]", by decide, Tryd.func54.trans (congrArg some (by kernel_rfl))⟩
  t0 := Tryd.underlying0
  a0 := Tryd.isAgg0
  z0 := Tryd.sizeOf0
  v0 := Tryd.zeroValue0
  t3 := Tryd.underlying3
  a3 := Tryd.isAgg3
  z3 := Tryd.sizeOf3
  v3 := Tryd.zeroValue3
  t4 := Tryd.underlying4
  a4 := Tryd.isAgg4
  z4 := Tryd.sizeOf4
  v4 := Tryd.zeroValue4
  t22 := Tryd.underlying27
  a22 := Tryd.isAgg27
  z22 := Tryd.sizeOf27
  v22 := Tryd.zeroValue27
/-- A digest. -/
abbrev DigD := {d : List Int // Dg d}
instance : Inhabited DigD := ⟨⟨zD, Dg.zero⟩⟩
theorem digs_of {ds : List (List Int)} (h : ∀ d ∈ ds, Dg d) : ∃ l : List DigD, l.map Subtype.val = ds := ⟨ds.pmap Subtype.mk h, by simp [List.map_pmap]⟩
def encD (x : DigD) : List Value := x.1.map (Value.int .u8)
theorem encD_length (x : DigD) : (encD x).length = 32 := by unfold encD; rw [List.length_map, x.2.len]
theorem encD_one (x : DigD) : ∀ v ∈ encD x, v.oneCell' = true := fun v hv => by
  obtain ⟨y, _, rfl⟩ := List.mem_map.1 hv
  rfl
/-- The cells of a row of digests, one by one. -/
theorem flatD_at (l : List DigD) {j : Nat} (hj : j < l.length * 32) : (((l.map Subtype.val).flatten).map (Value.int .u8))[j]? = some (Go.Sort.flatK encD 32 l.toArray)[j]! := by
  have hs : l.toArray.size = l.length := by simp
  rw [Go.Sort.get_flatK _ _ _ _ (by rw [hs]; exact hj)]
  have hjd : j / 32 < l.length := by omega
  have hd : ∀ d ∈ l.map Subtype.val, d.length = 32 := fun d hd => by
    obtain ⟨y, _, rfl⟩ := List.mem_map.1 hd
    exact y.2.len
  have h1 := flat_at hd (j / 32) (j % 32) (by rw [List.length_map]; exact hjd) (Nat.mod_lt j (by omega))
  rw [show j / 32 * 32 + j % 32 = j by omega] at h1
  have e0 : (l.map Subtype.val).getD (j / 32) [] = (l[j / 32]).1 := by rw [List.getD_eq_getElem?_getD, List.getElem?_map, List.getElem?_eq_getElem hjd]; rfl
  have hk : j % 32 < (encD l[j / 32]).length := by rw [encD_length]; omega
  rw [List.getElem?_map, h1, e0, ← List.getElem?_map, show l.toArray[j / 32]! = l[j / 32] by simp [hjd], getElem!_pos (encD l[j / 32]) _ hk]
  exact List.getElem?_eq_getElem hk
theorem flatD_is (l : List DigD) : (Go.Sort.flatK encD 32 l.toArray).toList = ((l.map Subtype.val).flatten).map (Value.int .u8) := by
  have hd : ∀ d ∈ l.map Subtype.val, d.length = 32 := fun d hd => by
    obtain ⟨y, _, rfl⟩ := List.mem_map.1 hd
    exact y.2.len
  have hz : (Go.Sort.flatK encD 32 l.toArray).size = l.length * 32 := by rw [Go.Sort.size_flatK]; simp
  have hz2 : (((l.map Subtype.val).flatten).map (Value.int .u8)).length = l.length * 32 := by rw [List.length_map, flat_length hd, List.length_map]
  apply List.ext_getElem? 
  intro j
  by_cases hj : j < l.length * 32
  · rw [flatD_at l hj, Array.getElem?_toList, getElem!_pos _ j (by rw [hz]; exact hj)]
    exact Array.getElem?_eq_getElem _
  · rw [List.getElem?_eq_none (by rw [Array.length_toList, hz]; omega), List.getElem?_eq_none (by omega)]
/-- A row of the call's own is laid as the shelf wants it. -/
theorem OwnD.holds {w : World} {base : Nat} {l : List DigD} {g n c : Nat} {e : TypeId} (h : OwnD w base e (.slice (some ⟨g, 0, none⟩) n c) (l.map Subtype.val)) : n = l.length ∧ HoldsK encD 32 w g 0 l.toArray := by
  obtain ⟨⟨h1, ⟨h2, _⟩ | ⟨g', cap, cur, hv, hg, hh, hle, hmx, hsz, htk⟩⟩, h3⟩ := h
  · cases h2
  · cases hv
    have hb : Blk w g cur e := hh
    refine ⟨by rw [List.length_map], fun j hj => ?_⟩
    rw [Go.Sort.size_flatK] at hj
    have hs : l.toArray.size = l.length := by simp
    rw [hs] at hj
    refine ⟨?_, hb.free _⟩
    rw [hb.cell, Nat.zero_add]
    have h5 := flatD_at l hj
    rw [List.length_map] at htk
    rw [← htk, List.getElem?_take_of_lt hj] at h5
    simpa using h5
/-- Another row of the same length is laid there. -/
theorem OwnD.put {w : World} {base m : Nat} {l l2 : List DigD} {g n c : Nat} {e : TypeId} (h : OwnD w base e (.slice (some ⟨g, 0, none⟩) n c) (l.map Subtype.val)) (hl : l2.length = l.length) :
    OwnD (Go.Sort.putRowK encD 32 (Go.Sort.ahead w m) g 0 l2.toArray) base e (.slice (some ⟨g, 0, none⟩) n c) (l2.map Subtype.val) ∧ But g w (Go.Sort.putRowK encD 32 (Go.Sort.ahead w m) g 0 l2.toArray) := by
  obtain ⟨⟨h1, ⟨h2, _⟩ | ⟨g', cap, cur, hv, hg, hh, hle, hmx, hsz, htk⟩⟩, h3⟩ := h
  · cases h2
  · cases hv
    have hd2 : ∀ d ∈ l2.map Subtype.val, Dg d := fun d hd => by
      obtain ⟨y, _, rfl⟩ := List.mem_map.1 hd
      exact y.2
    have hF : (Go.Sort.flatK encD 32 l2.toArray).size = l2.length * 32 := by rw [Go.Sort.size_flatK]; simp
    rw [List.length_map] at hle
    have hle2 := Nat.mul_le_mul_right 32 hle
    refine ⟨⟨⟨by rw [List.length_map, flat_length (fun d hd => (hd2 d hd).len)], .inr ⟨g, c, Go.Sort.putCells id 0 (Go.Sort.flatK encD 32 l2.toArray) cur, by rw [List.length_map, List.length_map, hl], hg, ?_, by rw [List.length_map, hl]; exact hle, hmx, ?_, ?_⟩⟩, hd2⟩, ⟨rfl, rfl, rfl, ?_, fun k hk hne => ?_⟩⟩
    · show (w.heap.modify g _)[g]? = _
      rw [Array.getElem?_modify, if_pos rfl, hh]
      rfl
    · unfold Go.Sort.putCells
      rw [Array.size_mapIdx, hsz]
    · rw [List.length_map, hl, ← flatD_is l2]
      apply List.ext_getElem?
      intro j
      by_cases hj : j < l.length * 32
      · rw [List.getElem?_take_of_lt hj, Array.getElem?_toList, Array.getElem?_toList]
        unfold Go.Sort.putCells
        rw [Array.getElem?_mapIdx, Array.getElem?_eq_getElem (xs := cur) (by omega), Option.map_some, if_pos (by rw [hF]; omega), Nat.sub_zero, getElem!_pos _ j (by rw [hF]; omega)]
        exact (Array.getElem?_eq_getElem _).symm
      · rw [List.getElem?_eq_none (by rw [List.length_take]; omega), List.getElem?_eq_none (by rw [Array.length_toList, hF]; omega)]
    · show _ ≤ (w.heap.modify g _).size
      rw [Array.size_modify]
      exact Nat.le_refl _
    · show (w.heap.modify g _)[k]? = _
      rw [Array.getElem?_modify, if_neg (fun e => hne e.symm)]
/-- A row of the call's own is turned round. -/
theorem reverse_any (a : Option Addr) (n c base : Nat) (ds : List (List Int)) (w : World) (h : OwnD w base 23 (.slice a n c) ds) (hmx : ds.length ≤ 1000) :
    Calls Tryd.prog 54 #[.slice a n c] w fun e w' => e = .returned (.tuple #[]) ∧ OwnD w' base 23 (.slice a n c) ds.reverse ∧ FlowB.ButIn (Value.slice a n c).ownBlock.toList w w' := by
  obtain ⟨l, rfl⟩ := digs_of h.each
  by_cases hz : n = 0
  · subst hz
    obtain ⟨a', cap, hv, hd, -⟩ := h.digs
    injection hv with _ hn _
    rw [List.length_map] at hn
    obtain rfl := List.eq_nil_of_length_eq_zero hn.symm
    refine (AnyQ.slices_Reverse_empty revLays a c w : Calls Tryd.prog 54 #[.slice a 0 c] w _).mono ?_
    rintro e w' ⟨rfl, rfl⟩
    exact ⟨rfl, h, ⟨rfl, rfl, rfl, Nat.le_refl _, fun _ _ _ => rfl⟩⟩
  · obtain ⟨a', cap, hv, hd, ha⟩ := h.digs
    injection hv with ha' hn hc
    subst ha' hc
    obtain ⟨g, o, rfl, -⟩ := hd.at_ (by omega)
    rcases ha with ha | ⟨g', ha, -⟩
    · cases ha
    · cases ha
      obtain ⟨hnl, hh⟩ := h.holds
      have hs : l.toArray.size = n := by simp [hnl]
      have hq := AnyQ.slices_Reverse revLays 32 Tryd.isAgg23 Tryd.sizeOf23 encD encD_length encD_one g 0 c l.toArray w hh (by rw [hs]; rw [List.length_map] at hmx; omega)
      rw [hs] at hq
      refine (hq : Calls Tryd.prog 54 #[.slice (some ⟨g, 0, none⟩) n c] w _).mono ?_
      rintro e w' ⟨rfl, m, rfl⟩
      have hp := h.put (m := m) (l2 := l.reverse) (by rw [List.length_reverse])
      rw [← List.map_reverse, show l.toArray.reverse = l.reverse.toArray by simp]
      exact ⟨rfl, hp.1, FlowB.ButIn.of_but hp.2 (by simp [Value.ownBlock])⟩
end Go.Proofs.YthaicocfbmpnmaaDoor
namespace Go.Proofs.YthaicocfbmpnmaaDoor
set_option maxRecDepth 100000
open Go.ChangeShapes Go.WideShapes Go.ChangeAt Go.RowKit
set_option maxHeartbeats 4000000 in
theorem halves_at (a : Option Addr) (len cap : Nat) (L R : List (List Int × List Int)) (k : Nat) (w : World) (hE : EntsAt w a len cap (L ++ R)) (hmx : len ≤ 256) (hL : ∀ x ∈ L, rightB k x = false) (hR : ∀ x ∈ R, rightB k x = true) (hkk : k < 256) :
    Calls Tryd.prog 53 #[.slice a len cap, .int .i64 (k : Int)] w fun e w' => ∃ a1 c1 a2 c2, e = .returned (.tuple #[.slice a1 L.length c1, .slice a2 R.length c2]) ∧ (∀ W : World, EntsAt W a len cap (L ++ R) → EntsAt W a1 L.length c1 L ∧ EntsAt W a2 R.length c2 R) ∧ Below w.heap.size w w' := by
  have b1 := (Below.refl w.heap.size w).alloc (Nat.le_refl _) (.cells #[.int .i64 (k : Int)] 3 (0, 0))
  have Kk := hid (Blk.new (w := w) (n := w.heap.size) rfl #[.int .i64 (k : Int)] 3)
  have Hb := hid b1
  have hbz := b1.size
  have Hbs := hid (show w.heap.size + 1 = (w.alloc (.cells #[.int .i64 (k : Int)] 3 (0, 0))).heap.size by simp only [World.size_alloc])
  clear b1 
  have HE := hid (hE.below Hb.out)
  have hlen := hE.length
  rw [List.length_append] at hlen
  clear hE
  go_enter Tryd.func53, Tryd.ntmps53
  go_wp2_with fail
  refine (first_any a len cap L R k w.heap.size _ HE.out hmx hL hR hkk Kk.out).mono ?_
  rintro e w1 ⟨rfl, b1⟩
  have HB1 := hid (Below.on Hb.out b1)
  have HE1 := hid (HE.out.below b1)
  clear b1
  obtain ⟨i, hi⟩ : ∃ i : Nat, i = L.length := ⟨_, rfl⟩
  have hfin : ∀ W : World, EntsAt W a len cap (L ++ R) → EntsAt W a i cap L ∧ EntsAt W (cutE a i cap) (len - i) (cap - i) R := fun W h => by rw [hi]; exact ⟨h.head, h.tail⟩
  have HFN := hid hfin
  have hil : i ≤ len := by omega
  have hRl : R.length = len - i := by omega
  clear hfin
  by_cases hr : R = []
  · skip
    have hie : L.length = len := by rw [hr] at hlen; simpa using hlen
    rw [if_pos hr]
    have hIE := hid hie
    have HI := hid hi
    have HR := hid hRl
    have HLN := hid hlen
    have hcap := HE1.out.le
    clear hi hlen hRl hie hr
    obtain rfl : i = len := by have := HI.out; have := hIE.out; omega
    go_wp2_with fail
    refine wp_region_flow 8 (List.range 8) [] [] (by kernel_rfl) (by kernel_rfl) ?_
    apply Exists.intro
    refine ⟨fun w0 hb0 hF0 => ?_, ?_⟩
    · skip
      simp only [pick, List.range, List.range.loop, List.getElem?_toArray, List.getElem?_cons_succ, List.getElem?_cons_zero, Option.toList_some, List.cons_append, List.nil_append]
      repeat (first | (go_big_quiet_want; refine quiet_cute_h _ _ rfl a i cap i _ rfl rfl (by omega) (by omega) ?_; go_big_quiet_on; simp only [Act.put, List.setIfInBounds_toArray, List.set_cons_zero, List.set_cons_succ]) | (go_big_quiet_want; refine quiet_cute_l _ _ rfl a i cap i _ rfl rfl (by omega) (by omega) ?_; go_big_quiet_on; simp only [Act.put, List.setIfInBounds_toArray, List.set_cons_zero, List.set_cons_succ]) | go_big_quiet_step (fail))
      exact wpQuiet_nil rfl
    refine AlChk.nil ?_
    refine Walk.fin fun w6 hw6 _ _ => ?_
    simp only [List.drop_succ_cons, List.drop_zero]
    have Hw6 := hid hw6
    have HBw6 := hid (Below.on HB1.out hw6)
    have hsw6 := HBw6.out.size
    clear hw6
    go_wp2_with fail
    go_returns
    exact ⟨a, cap, cutE a i cap, cap - i, by rw [← HI.out, HR.out]; rfl, fun W hW => ⟨by rw [← HI.out]; exact (HFN.out W hW).1, by rw [HR.out]; exact (HFN.out W hW).2⟩, HBw6.out⟩
  · skip
    rw [if_neg hr]
    rw [← hi]
    have HI := hid hi
    have HR := hid hRl
    have HLN := hid hlen
    have hcap := HE1.out.le
    clear hi hlen hRl hr
    go_wp2_with fail
    refine wp_region_flow 8 (List.range 8) [] [] (by kernel_rfl) (by kernel_rfl) ?_
    apply Exists.intro
    refine ⟨fun w0 hb0 hF0 => ?_, ?_⟩
    · skip
      simp only [pick, List.range, List.range.loop, List.getElem?_toArray, List.getElem?_cons_succ, List.getElem?_cons_zero, Option.toList_some, List.cons_append, List.nil_append]
      repeat (first | (go_big_quiet_want; refine quiet_cute_h _ _ rfl a len cap i _ rfl rfl (by omega) (by omega) ?_; go_big_quiet_on; simp only [Act.put, List.setIfInBounds_toArray, List.set_cons_zero, List.set_cons_succ]) | (go_big_quiet_want; refine quiet_cute_l _ _ rfl a len cap i _ rfl rfl (by omega) (by omega) ?_; go_big_quiet_on; simp only [Act.put, List.setIfInBounds_toArray, List.set_cons_zero, List.set_cons_succ]) | go_big_quiet_step (fail))
      exact wpQuiet_nil rfl
    refine AlChk.nil ?_
    refine Walk.fin fun w6 hw6 _ _ => ?_
    simp only [List.drop_succ_cons, List.drop_zero]
    have Hw6 := hid hw6
    have HBw6 := hid (Below.on HB1.out hw6)
    have hsw6 := HBw6.out.size
    clear hw6
    go_wp2_with fail
    go_returns
    exact ⟨a, cap, cutE a i cap, cap - i, by rw [← HI.out, HR.out]; rfl, fun W hW => ⟨by rw [← HI.out]; exact (HFN.out W hW).1, by rw [HR.out]; exact (HFN.out W hW).2⟩, HBw6.out⟩
end Go.Proofs.YthaicocfbmpnmaaDoor
namespace Go.Proofs.YthaicocfbmpnmaaDoor
set_option maxRecDepth 100000
open Go.ChangeShapes Go.WideShapes Go.ChangeAt Go.RowKit
/-- An entry is on an index's side at a level. -/
def sideB (k : Nat) (i : List Int) (x : EntT) : Bool := decide (bitL x.1 k = bitL i k)
/-- The entries on an index's way, so many levels down. -/
def pathD (es : List EntT) (i : List Int) : Nat → List EntT
  | 0 => es
  | j + 1 => (pathD es i j).filter (sideB (255 - j) i)
/-- Those on the other side. -/
def offD (es : List EntT) (i : List Int) (j : Nat) : List EntT := (pathD es i j).filter fun x => !sideB (255 - j) i x
/-- The sibling of a level. -/
def sibK (es : List EntT) (i : List Int) (k : Nat) : List Int := nodeT k (offD es i (255 - k))
/-- The node of a level above the place. -/
def wayK (es : List EntT) (i : List Int) (k : Nat) : List Int := nodeT k (pathD es i (256 - k))
theorem pathD_sub (es : List EntT) (i : List Int) (j : Nat) : ∀ x ∈ pathD es i j, x ∈ es := by
  induction j with
  | zero => exact fun x hx => hx
  | succ j ih => exact fun x hx => ih x (List.mem_filter.1 hx).1
theorem side_right {k : Nat} {i : List Int} (h : bitL i k = 1) : sideB k i = rightB k := by
  funext x
  unfold sideB rightB
  rw [h]
theorem side_left {k : Nat} {i : List Int} (h : bitL i k = 0) : sideB k i = fun x => !rightB k x := by
  funext x
  unfold sideB rightB
  rw [h]
  rcases bitL_01 x.1 k with e | e <;> rw [e] <;> rfl
theorem way_step (es : List EntT) (i : List Int) {k : Nat} (hk : k < 256) : wayK es i (k + 1) = stepL i k (wayK es i k) (sibK es i k) := by
  unfold wayK sibK offD
  rw [show 256 - (k + 1) = 255 - k by omega, show 256 - k = (255 - k) + 1 by omega, pathD, show 255 - (255 - k) = k by omega, nodeT]
  unfold stepL
  rcases bitL_01 i k with e | e
  · rw [if_pos e, side_left e]
    congr 3
    funext x
    rw [Bool.not_not]
  · rw [if_neg (by omega), side_right e]
/-- How many of a list's first places are known. -/
theorem knN_count (d : List Int) (k : Nat) : ((List.range k).filter (knB d)).length = knN d k := by
  induction k with
  | zero => rfl
  | succ k ih =>
    rw [List.range_succ, List.filter_append, List.length_append, ih, knN]
    congr 1
    cases h : knB d k <;> simp [h]
theorem filter_range_get (d : List Int) {n k : Nat} (hk : k < n) (h : knB d k = true) : ((List.range n).filter (knB d))[knN d k]? = some k := by
  obtain ⟨m, rfl⟩ : ∃ m, n = (k + 1) + m := ⟨n - (k + 1), by omega⟩
  rw [List.range_add, List.filter_append, List.range_succ, List.filter_append]
  rw [List.getElem?_append_left (by rw [List.length_append, knN_count]; simp [h])]
  rw [List.getElem?_append_right (by rw [knN_count]; exact Nat.le_refl _), knN_count, Nat.sub_self]
  simp [h]
/-- What a proof of an index holds: where a sibling isn't the empty node it is known; the known ones, from level 0 on. -/
structure ProofT (es : List EntT) (i d : List Int) (ns : List (List Int)) : Prop where
  known : ∀ k, k < 256 → knB d k = decide (sibK es i k ≠ emptyL k)
  nodes : ns = ((List.range 256).filter (knB d)).map (sibK es i)
theorem ProofT.sib {es : List EntT} {i d : List Int} {ns : List (List Int)} (h : ProofT es i d ns) {k : Nat} (hk : k < 256) : sibL d ns k = sibK es i k := by
  unfold sibL
  have h1 := h.known k hk
  cases hb : knB d k with
  | true =>
    rw [if_pos rfl, h.nodes, List.getD_eq_getElem?_getD, List.getElem?_map, filter_range_get d hk hb]
    rfl
  | false =>
    rw [hb] at h1
    have h2 : sibK es i k = emptyL k := Decidable.byContradiction fun hn => by
      rw [decide_eq_true hn] at h1
      cases h1
    rw [h2]
    rfl
/-- The number of nodes is that of the known places. -/
theorem ProofT.count {es : List EntT} {i d : List Int} {ns : List (List Int)} (h : ProofT es i d ns) : knN d 256 = ns.length := by
  rw [h.nodes, List.length_map, knN_count]
theorem ProofT.climb {es : List EntT} {i d : List Int} {ns : List (List Int)} (h : ProofT es i d ns) : ∀ k, k ≤ 256 → climbK d i ns (wayK es i 0) k = wayK es i k
  | 0, _ => rfl
  | k + 1, hk => by
    rw [climbK, h.climb k (by omega), h.sib (by omega), way_step es i (by omega)]
/-- A proof leads from the place's node to the root. -/
theorem ProofT.leads {es : List EntT} {i d : List Int} {ns : List (List Int)} (h : ProofT es i d ns) : climbK d i ns (wayK es i 0) 256 = nodeT 256 es := by
  rw [h.climb 256 (Nat.le_refl _)]
  rfl
theorem mem_path (es : List EntT) (i : List Int) (x : EntT) : ∀ j, j ≤ 256 → (x ∈ pathD es i j ↔ x ∈ es ∧ ∀ k, 256 - j ≤ k → k < 256 → bitL x.1 k = bitL i k)
  | 0, _ => by
    refine ⟨fun h => ⟨h, fun k h1 h2 => by omega⟩, fun h => h.1⟩
  | j + 1, hj => by
    rw [pathD, List.mem_filter, mem_path es i x j (by omega)]
    unfold sideB
    rw [decide_eq_true_eq]
    constructor
    · rintro ⟨⟨h1, h2⟩, h3⟩
      refine ⟨h1, fun k h4 h5 => ?_⟩
      rcases Nat.eq_or_lt_of_le h4 with h6 | h6
      · rw [show 255 - j = k by omega] at h3; exact h3
      · exact h2 k (by omega) h5
    · rintro ⟨h1, h2⟩
      exact ⟨⟨h1, fun k h4 h5 => h2 k (by omega) h5⟩, h2 (255 - j) (by omega) (by omega)⟩
theorem bits_same {a b : List Int} (ha : Dg a) (hb : Dg b) (h : ∀ k, k < 256 → bitL a k = bitL b k) : a = b := by
  apply num_inj ha hb
  apply Nat.eq_of_testBit_eq
  intro k
  rw [bit_mod, bit_mod]
  by_cases hk : k < 256
  · have h1 := h k hk
    rw [bit_num ha hk, bit_num hb hk] at h1
    congr 2
    omega
  · rw [Nat.div_eq_of_lt (Nat.lt_of_lt_of_le (num_small ha) (Nat.pow_le_pow_right (by omega) (by omega))), Nat.div_eq_of_lt (Nat.lt_of_lt_of_le (num_small hb) (Nat.pow_le_pow_right (by omega) (by omega)))]
/-- The place's own node: that of its entry. -/
theorem way_there {es : List EntT} (he : ∀ x ∈ es, Dg x.1) (hn : (es.map Prod.fst).Nodup) {x : EntT} (hx : x ∈ es) : wayK es x.1 0 = leafE x.1 x.2 := by
  unfold wayK
  have hm : ∀ y, y ∈ pathD es x.1 256 ↔ y = x := fun y => by
    rw [mem_path es x.1 y 256 (Nat.le_refl _)]
    constructor
    · rintro ⟨h1, h2⟩
      have h3 := bits_same (he y h1) (he x hx) (fun k hk => h2 k (by omega) hk)
      have hnd := List.pairwise_map.1 hn
      exact Decidable.byContradiction fun hne => by
        obtain ⟨a, ha, rfl⟩ := List.mem_iff_getElem.1 h1
        obtain ⟨b, hb, rfl⟩ := List.mem_iff_getElem.1 hx
        rw [List.pairwise_iff_getElem] at hnd
        rcases Nat.lt_trichotomy a b with h | h | h
        · exact hnd a b ha hb h h3
        · subst h; exact hne rfl
        · exact hnd b a hb ha h h3.symm
    · rintro rfl
      exact ⟨hx, fun _ _ _ => rfl⟩
  show nodeT 0 (pathD es x.1 256) = _
  cases hp : pathD es x.1 256 with
  | nil => exact absurd ((hm x).2 rfl) (by rw [hp]; simp)
  | cons y l =>
    have : y = x := (hm y).1 (by rw [hp]; simp)
    rw [this]
    rfl
theorem way_none {es : List EntT} (he : ∀ x ∈ es, Dg x.1) {i : List Int} (hi : Dg i) (h : ∀ x ∈ es, x.1 ≠ i) : wayK es i 0 = emptyL 0 := by
  show nodeT 0 (pathD es i 256) = _
  have : pathD es i 256 = [] := by
    apply List.eq_nil_iff_forall_not_mem.2
    intro x hx
    obtain ⟨h1, h2⟩ := (mem_path es i x 256 (Nat.le_refl _)).1 hx
    exact h x h1 (bits_same (he x h1) hi (fun k hk => h2 k (by omega) hk))
  rw [this]
  rfl
end Go.Proofs.YthaicocfbmpnmaaDoor
namespace Go.Proofs.YthaicocfbmpnmaaDoor
set_option maxRecDepth 100000
open Go.ChangeShapes Go.WideShapes Go.ChangeAt Go.RowKit
theorem path_perm {es fs : List EntT} (h : es.Perm fs) (i : List Int) (j : Nat) : (pathD es i j).Perm (pathD fs i j) := by
  induction j with
  | zero => exact h
  | succ j ih => exact ih.filter _
theorem side_eq (k : Nat) (i : List Int) : sideB k i = fun x => rightB k x == decide (bitL i k = 1) := by
  rcases bitL_01 i k with e | e
  · rw [side_left e, e]
    funext x
    cases rightB k x <;> rfl
  · rw [side_right e, e]
    funext x
    cases rightB k x <;> rfl
theorem off_eq (k : Nat) (i : List Int) : (fun x => !sideB k i x) = fun x => rightB k x == !decide (bitL i k = 1) := by
  rw [side_eq]
  funext x
  show (!(rightB k x == decide (bitL i k = 1))) = _
  cases rightB k x <;> cases decide (bitL i k = 1) <;> rfl
theorem path_apart {es : List EntT} (h : ApartT 256 es) (i : List Int) : ∀ j, j ≤ 256 → ApartT (256 - j) (pathD es i j)
  | 0, _ => h
  | j + 1, hj => by
    have h1 := path_apart h i j (by omega)
    rw [show 256 - j = (255 - j) + 1 by omega] at h1
    rw [pathD, side_eq, show 256 - (j + 1) = 255 - j by omega]
    exact h1.part _
theorem sibK_perm {es fs : List EntT} (h : ApartT 256 es) (p : es.Perm fs) (i : List Int) {k : Nat} (hk : k < 256) : sibK es i k = sibK fs i k := by
  unfold sibK offD
  refine nodeT_perm k ?_ ((path_perm p i _).filter _)
  have h1 := path_apart h i (255 - k) (by omega)
  rw [show 256 - (255 - k) = k + 1 by omega] at h1
  rw [show 255 - (255 - k) = k by omega, off_eq]
  exact h1.part _
theorem ProofT.perm {es fs : List EntT} {i d : List Int} {ns : List (List Int)} (h : ProofT fs i d ns) (ha : ApartT 256 es) (p : es.Perm fs) : ProofT es i d ns := by
  refine ⟨fun k hk => by rw [h.known k hk, sibK_perm ha p i hk], ?_⟩
  rw [h.nodes]
  refine List.map_congr_left fun k hk => ?_
  rw [sibK_perm ha p i (List.mem_range.1 (List.mem_filter.1 hk).1)]
theorem byte_sum : ∀ x : Fin 256, ((x.val : Nat) : Int) = ((x.val : Nat) : Int) / 2 ^ 0 % 2 + ((x.val : Nat) : Int) / 2 ^ 1 % 2 * 2 + ((x.val : Nat) : Int) / 2 ^ 2 % 2 * 4 + ((x.val : Nat) : Int) / 2 ^ 3 % 2 * 8 + ((x.val : Nat) : Int) / 2 ^ 4 % 2 * 16 + ((x.val : Nat) : Int) / 2 ^ 5 % 2 * 32 + ((x.val : Nat) : Int) / 2 ^ 6 % 2 * 64 + ((x.val : Nat) : Int) / 2 ^ 7 % 2 * 128 := by decide +kernel
/-- Two proofs of one index hold the same places. -/
theorem ProofT.same {es : List EntT} {i d e : List Int} {ns ms : List (List Int)} (h : ProofT es i d ns) (g : ProofT es i e ms) (hd : Dg d) (he : Dg e) : d = e ∧ ns = ms := by
  have hb : ∀ k, k < 256 → knB d k = knB e k := fun k hk => by rw [h.known k hk, g.known k hk]
  constructor
  · apply List.ext_getElem (by rw [hd.len, he.len])
    intro m h1 h2
    have hm : m < 32 := by rw [hd.len] at h1; exact h1
    have e1 := dg_at hd m
    have e2 := dg_at he m
    have hk : ∀ r, r < 8 → (d.getD m 0 / 2 ^ r % 2 = 1 ↔ e.getD m 0 / 2 ^ r % 2 = 1) := fun r hr => by
      have := hb (m * 8 + r) (by omega)
      unfold knB at this
      rw [show (m * 8 + r) / 8 = m by omega, show (m * 8 + r) % 8 = r by omega] at this
      exact decide_eq_decide.1 this
    have g1 : d.getD m 0 = d[m] := by rw [List.getD_eq_getElem?_getD, List.getElem?_eq_getElem h1]; rfl
    have g2 : e.getD m 0 = e[m] := by rw [List.getD_eq_getElem?_getD, List.getElem?_eq_getElem h2]; rfl
    rw [← g1, ← g2]
    generalize d.getD m 0 = x at *
    generalize e.getD m 0 = y at *
    have s1 := byte_sum ⟨x.toNat, by omega⟩
    have s2 := byte_sum ⟨y.toNat, by omega⟩
    simp only at s1 s2
    rw [show ((x.toNat : Nat) : Int) = x by omega] at s1
    rw [show ((y.toNat : Nat) : Int) = y by omega] at s2
    have hb : ∀ r, r < 8 → x / 2 ^ r % 2 = y / 2 ^ r % 2 := fun r hr => by
      have := hk r hr
      generalize x / 2 ^ r = p at *
      generalize y / 2 ^ r = q at *
      omega
    rw [s1, s2, hb 0 (by omega), hb 1 (by omega), hb 2 (by omega), hb 3 (by omega), hb 4 (by omega), hb 5 (by omega), hb 6 (by omega), hb 7 (by omega)]
  · rw [h.nodes, g.nodes]
    congr 1
    exact List.filter_congr fun k hk => hb k (List.mem_range.1 hk)
/-- A place's bit is set. -/
def setK (d : List Int) (k : Nat) : List Int := d.set (k / 8) (bits .or .u8 (d.getD (k / 8) 0) (2 ^ (k % 8)))
theorem or_bits : ∀ (x : Fin 256) (r s : Fin 8), bits .or .u8 ((x.val : Nat) : Int) (2 ^ r.val) / 2 ^ s.val % 2 = (if s = r then 1 else ((x.val : Nat) : Int) / 2 ^ s.val % 2) := by decide +kernel
theorem or_small : ∀ (x : Fin 256) (r : Fin 8), 0 ≤ bits .or .u8 ((x.val : Nat) : Int) (2 ^ r.val) ∧ bits .or .u8 ((x.val : Nat) : Int) (2 ^ r.val) < 256 := by decide +kernel
theorem Dg.setK {d : List Int} (h : Dg d) (k : Nat) : Dg (setK d k) := ⟨by unfold Go.Proofs.YthaicocfbmpnmaaDoor.setK; rw [List.length_set, h.len], fun x hx => by
  have h1 := dg_at h (k / 8)
  rcases List.mem_or_eq_of_mem_set hx with hx | rfl
  · exact h.small x hx
  · have := or_small ⟨(d.getD (k / 8) 0).toNat, by omega⟩ ⟨k % 8, by omega⟩
    simp only at this
    rwa [show (((d.getD (k / 8) 0).toNat : Nat) : Int) = d.getD (k / 8) 0 by omega] at this⟩
theorem knB_set {d : List Int} (h : Dg d) {k m : Nat} (hk : k < 256) : knB (setK d k) m = (decide (m = k) || knB d m) := by
  have h1 := dg_at h (k / 8)
  unfold knB setK
  by_cases he : m / 8 = k / 8
  · rw [he, List.getD_eq_getElem?_getD (l := d.set _ _), List.getElem?_set_self (by rw [h.len]; omega), Option.getD_some]
    have := or_bits ⟨(d.getD (k / 8) 0).toNat, by omega⟩ ⟨k % 8, by omega⟩ ⟨m % 8, by omega⟩
    simp only [Fin.mk.injEq] at this
    rw [show (((d.getD (k / 8) 0).toNat : Nat) : Int) = d.getD (k / 8) 0 by omega] at this
    rw [this]
    by_cases hr : m % 8 = k % 8
    · rw [if_pos hr, show decide (m = k) = true from decide_eq_true (by omega)]
      rfl
    · rw [if_neg hr, show decide (m = k) = false from decide_eq_false (by omega)]
      rfl
  · rw [List.getD_eq_getElem?_getD (l := d.set _ _), List.getElem?_set_ne (fun e => he e.symm), ← List.getD_eq_getElem?_getD, show decide (m = k) = false from decide_eq_false (fun e => he (by rw [e]))]
    rfl
end Go.Proofs.YthaicocfbmpnmaaDoor
namespace Go.Proofs.YthaicocfbmpnmaaDoor
set_option maxRecDepth 100000
open Go.ChangeShapes Go.WideShapes Go.ChangeAt Go.RowKit
set_option maxHeartbeats 4000000 in
theorem prove_dup (a : Option Addr) (len cap : Nat) (es : List (List Int × List Int)) (i : List Int) (w : World) (hE : EntsAt w a len cap es) (hmx : len ≤ 256) (hnf : ¬ (es.map Prod.fst).Nodup) :
    Calls Tryd.prog 26 #[.slice a len cap, .agg (i.map (Value.int .u8)).toArray] w fun e w' => e = .returned (.tuple #[.agg #[.int .u8 0, .int .u8 0, .int .u8 0, .int .u8 0, .int .u8 0, .int .u8 0, .int .u8 0, .int .u8 0, .int .u8 0, .int .u8 0, .int .u8 0, .int .u8 0, .int .u8 0, .int .u8 0, .int .u8 0, .int .u8 0, .int .u8 0, .int .u8 0, .int .u8 0, .int .u8 0, .int .u8 0, .int .u8 0, .int .u8 0, .int .u8 0, .int .u8 0, .int .u8 0, .int .u8 0, .int .u8 0, .int .u8 0, .int .u8 0, .int .u8 0, .int .u8 0, .slice none 0 0], .int .i64 5]) ∧ Below w.heap.size w w' := by
  have b1 := (Below.refl w.heap.size w).alloc (Nat.le_refl _) (.cells (i.map (Value.int .u8)).toArray 23 (0, 0))
  have b2 := b1.alloc b1.size (.cells #[.int .u8 0, .int .u8 0, .int .u8 0, .int .u8 0, .int .u8 0, .int .u8 0, .int .u8 0, .int .u8 0, .int .u8 0, .int .u8 0, .int .u8 0, .int .u8 0, .int .u8 0, .int .u8 0, .int .u8 0, .int .u8 0, .int .u8 0, .int .u8 0, .int .u8 0, .int .u8 0, .int .u8 0, .int .u8 0, .int .u8 0, .int .u8 0, .int .u8 0, .int .u8 0, .int .u8 0, .int .u8 0, .int .u8 0, .int .u8 0, .int .u8 0, .int .u8 0, .slice none 0 0] 46 (0, 0))
  have Ki := hid ((Blk.new (w := w) (n := w.heap.size) rfl (i.map (Value.int .u8)).toArray 23).old (.cells #[.int .u8 0, .int .u8 0, .int .u8 0, .int .u8 0, .int .u8 0, .int .u8 0, .int .u8 0, .int .u8 0, .int .u8 0, .int .u8 0, .int .u8 0, .int .u8 0, .int .u8 0, .int .u8 0, .int .u8 0, .int .u8 0, .int .u8 0, .int .u8 0, .int .u8 0, .int .u8 0, .int .u8 0, .int .u8 0, .int .u8 0, .int .u8 0, .int .u8 0, .int .u8 0, .int .u8 0, .int .u8 0, .int .u8 0, .int .u8 0, .int .u8 0, .int .u8 0, .slice none 0 0] 46 (0, 0)))
  have Kp := hid (Blk.new (w := (w.alloc (.cells (i.map (Value.int .u8)).toArray 23 (0, 0)))) (n := w.heap.size + 1) (by simp only [World.size_alloc]) #[.int .u8 0, .int .u8 0, .int .u8 0, .int .u8 0, .int .u8 0, .int .u8 0, .int .u8 0, .int .u8 0, .int .u8 0, .int .u8 0, .int .u8 0, .int .u8 0, .int .u8 0, .int .u8 0, .int .u8 0, .int .u8 0, .int .u8 0, .int .u8 0, .int .u8 0, .int .u8 0, .int .u8 0, .int .u8 0, .int .u8 0, .int .u8 0, .int .u8 0, .int .u8 0, .int .u8 0, .int .u8 0, .int .u8 0, .int .u8 0, .int .u8 0, .int .u8 0, .slice none 0 0] 46)
  have Hb := hid b2
  have hbz := b2.size
  have Hbs := hid (show w.heap.size + 1 + 1 = ((w.alloc (.cells (i.map (Value.int .u8)).toArray 23 (0, 0))).alloc (.cells #[.int .u8 0, .int .u8 0, .int .u8 0, .int .u8 0, .int .u8 0, .int .u8 0, .int .u8 0, .int .u8 0, .int .u8 0, .int .u8 0, .int .u8 0, .int .u8 0, .int .u8 0, .int .u8 0, .int .u8 0, .int .u8 0, .int .u8 0, .int .u8 0, .int .u8 0, .int .u8 0, .int .u8 0, .int .u8 0, .int .u8 0, .int .u8 0, .int .u8 0, .int .u8 0, .int .u8 0, .int .u8 0, .int .u8 0, .int .u8 0, .int .u8 0, .int .u8 0, .slice none 0 0] 46 (0, 0))).heap.size by simp only [World.size_alloc])
  clear b1 b2 
  have HE := hid (hE.below Hb.out)
  clear hE
  go_enter Tryd.func26, Tryd.ntmps26
  go_wp2_with fail
  refine (grow_dup a len cap es _ HE.out hmx hnf).mono ?_
  rintro e w1 ⟨rfl, b1⟩
  have Hb1 := hid (Below.on Hb.out b1)
  have Ki1 := hid (Ki.out.below b1)
  have Kp1 := hid (Kp.out.below b1)
  have hs1 := Hb1.out.size
  have hp1 := Kp1.out.lt
  clear b1
  have Kiw21 := hid (Ki1.out.old (.cells #[.slice none 0 0, .slice none 0 0] 76 (0, 0)))
  have hliw21 := Ki1.out.lt
  have Kpw21 := hid (Kp1.out.old (.cells #[.slice none 0 0, .slice none 0 0] 76 (0, 0)))
  have hlpw21 := Kp1.out.lt
  have Kxw21 := hid (Blk.new (w := w1) rfl #[.slice none 0 0, .slice none 0 0] 76)
  have HBw21 := hid (Hb1.out.alloc Hb1.out.size (.cells #[.slice none 0 0, .slice none 0 0] 76 (0, 0)))
  have hsw21 := HBw21.out.size
  have hfw21 : w.heap.size ≤ w1.heap.size := Hb1.out.size
  have cx0 : (w1.alloc (.cells #[.slice none 0 0, .slice none 0 0] 76 (0, 0))).cell? ⟨w1.heap.size, 0, none⟩ = some (.slice none 0 0) := by rw [Kxw21.out.cell]; rfl
  go_wp2_with (
      refine wpList_store_blk rfl 46 _ _ rfl (w.heap.size + 1) #[.int .u8 0, .int .u8 0, .int .u8 0, .int .u8 0, .int .u8 0, .int .u8 0, .int .u8 0, .int .u8 0, .int .u8 0, .int .u8 0, .int .u8 0, .int .u8 0, .int .u8 0, .int .u8 0, .int .u8 0, .int .u8 0, .int .u8 0, .int .u8 0, .int .u8 0, .int .u8 0, .int .u8 0, .int .u8 0, .int .u8 0, .int .u8 0, .int .u8 0, .int .u8 0, .int .u8 0, .int .u8 0, .int .u8 0, .int .u8 0, .int .u8 0, .int .u8 0, .slice none 0 0] rfl rfl _ 46 Kpw21.out 33 size_proof rfl rfl (by decide +kernel) ?_
      intro w9 hb9 hk9
      have HB9 := hid (hb9.below HBw21.out HBw21.out.size (by omega))
      have HK9 := hid hk9
      clear hb9 hk9)
  exact bodyPost_ret (v := .tuple #[.agg #[.int .u8 0, .int .u8 0, .int .u8 0, .int .u8 0, .int .u8 0, .int .u8 0, .int .u8 0, .int .u8 0, .int .u8 0, .int .u8 0, .int .u8 0, .int .u8 0, .int .u8 0, .int .u8 0, .int .u8 0, .int .u8 0, .int .u8 0, .int .u8 0, .int .u8 0, .int .u8 0, .int .u8 0, .int .u8 0, .int .u8 0, .int .u8 0, .int .u8 0, .int .u8 0, .int .u8 0, .int .u8 0, .int .u8 0, .int .u8 0, .int .u8 0, .int .u8 0, .slice none 0 0], .int .i64 5]) (results_blk_tmp Tryd.results26 _ (w.heap.size + 1) rfl _ rfl _ 46 HK9.out _ Tryd.underlying46 rfl 33 size_proof rfl) rfl ⟨rfl, HB9.out⟩
end Go.Proofs.YthaicocfbmpnmaaDoor
namespace Go.Proofs.YthaicocfbmpnmaaDoor
set_option maxRecDepth 100000
open Go.ChangeShapes Go.WideShapes Go.ChangeAt Go.RowKit
/-- The places known after so many levels. -/
def dK (es : List EntT) (i : List Int) : Nat → List Int
  | 0 => zD
  | j + 1 => if sibK es i (255 - j) = emptyL (255 - j) then dK es i j else setK (dK es i j) (255 - j)
/-- The nodes found, in their order. -/
def nK (es : List EntT) (i : List Int) : Nat → List (List Int)
  | 0 => []
  | j + 1 => if sibK es i (255 - j) = emptyL (255 - j) then nK es i j else nK es i j ++ [sibK es i (255 - j)]
theorem Dg.dK (es : List EntT) (i : List Int) : ∀ j, Dg (dK es i j)
  | 0 => Dg.zero
  | j + 1 => by
    rw [Go.Proofs.YthaicocfbmpnmaaDoor.dK]
    split
    · exact Dg.dK es i j
    · exact (Dg.dK es i j).setK _
theorem Dg.sibK {es : List EntT} (he : ∀ x ∈ es, Dg x.1 ∧ Dg x.2) (i : List Int) (k : Nat) : Dg (sibK es i k) := by
  unfold Go.Proofs.YthaicocfbmpnmaaDoor.sibK offD
  exact Dg.nodeT _ _ fun x hx => he x (pathD_sub es i _ x (List.mem_filter.1 hx).1)
theorem nK_len (es : List EntT) (i : List Int) (j : Nat) : (nK es i j).length ≤ j := by
  induction j with
  | zero => exact Nat.le_refl _
  | succ j ih =>
    rw [nK]
    split
    · omega
    · rw [List.length_append, List.length_singleton]; omega
theorem knB_none (k : Nat) : knB zD k = false := by
  unfold knB
  have h : zD.getD (k / 8) 0 = 0 := by
    unfold zD
    rw [List.getD_eq_getElem?_getD, List.getElem?_replicate]
    split <;> rfl
  rw [h, Int.zero_ediv]
  rfl
theorem dK_known (es : List EntT) (i : List Int) : ∀ j, j ≤ 256 → ∀ k, k < 256 → knB (dK es i j) k = (decide (256 - j ≤ k) && decide (sibK es i k ≠ emptyL k))
  | 0, _, k, hk => by
    rw [dK, knB_none, show decide (256 - 0 ≤ k) = false from decide_eq_false (by omega)]
    rfl
  | j + 1, hj, k, hk => by
    have ih := dK_known es i j (by omega) k hk
    rw [dK]
    split
    · rename_i h
      rw [ih]
      by_cases he : k = 255 - j
      · rw [he, show decide (256 - j ≤ 255 - j) = false from decide_eq_false (by omega), h, show decide (emptyL (255 - j) ≠ emptyL (255 - j)) = false from decide_eq_false (fun h => h rfl), Bool.false_and, Bool.and_false]
      · rw [show decide (256 - (j + 1) ≤ k) = decide (256 - j ≤ k) from decide_eq_decide.2 (by omega)]
    · rename_i h
      rw [knB_set (Dg.dK es i j) (by omega), ih]
      by_cases he : k = 255 - j
      · rw [he, decide_eq_true (rfl : 255 - j = 255 - j), show decide (256 - (j + 1) ≤ 255 - j) = true from decide_eq_true (by omega), decide_eq_true h]
        rfl
      · rw [decide_eq_false he, show decide (256 - (j + 1) ≤ k) = decide (256 - j ≤ k) from decide_eq_decide.2 (by omega), Bool.false_or]
theorem nK_rev (es : List EntT) (i : List Int) : ∀ j, j ≤ 256 → (nK es i j).reverse = ((List.range' (256 - j) j).filter fun k => decide (sibK es i k ≠ emptyL k)).map (sibK es i)
  | 0, _ => rfl
  | j + 1, hj => by
    have ih := nK_rev es i j (by omega)
    rw [nK, List.range'_succ, show 256 - (j + 1) = 255 - j by omega, show 255 - j + 1 = 256 - j by omega]
    split
    · rename_i h
      rw [List.filter_cons_of_neg (by rw [decide_eq_true_eq]; exact fun hn => hn h), ih]
    · rename_i h
      rw [List.filter_cons_of_pos (by rw [decide_eq_true_eq]; exact h), List.map_cons, List.reverse_append, ih]
      rfl
/-- At the end it is a proof. -/
theorem proof_of (es : List EntT) (i : List Int) : ProofT es i (dK es i 256) (nK es i 256).reverse := by
  have hk : ∀ k, k < 256 → knB (dK es i 256) k = decide (sibK es i k ≠ emptyL k) := fun k hk => by
    rw [dK_known es i 256 (Nat.le_refl _) k hk, show decide (256 - 256 ≤ k) = true from decide_eq_true (by omega), Bool.true_and]
  refine ⟨hk, ?_⟩
  rw [nK_rev es i 256 (Nat.le_refl _), Nat.sub_self, ← List.range_eq_range']
  refine congrArg (List.map (sibK es i)) ?_
  exact List.filter_congr fun k h => (hk k (List.mem_range.1 h)).symm
end Go.Proofs.YthaicocfbmpnmaaDoor
namespace Go.Proofs.YthaicocfbmpnmaaDoor
set_option maxRecDepth 100000
open Go.ChangeShapes Go.WideShapes Go.ChangeAt Go.RowKit
theorem split_path {es : List EntT} (h : SplitT 256 es) (i : List Int) : ∀ j, j ≤ 256 → SplitT (256 - j) (pathD es i j)
  | 0, _ => h
  | j + 1, hj => by
    have h1 := split_path h i j (by omega)
    rw [show 256 - j = (255 - j) + 1 by omega, SplitT] at h1
    rw [pathD, show 256 - (j + 1) = 255 - j by omega]
    rcases bitL_01 i (255 - j) with e | e
    · rw [side_left e]; exact h1.2.1
    · rw [side_right e]; exact h1.2.2
theorem off_left {es : List EntT} {i : List Int} {j : Nat} (hj : j < 256) (h : bitL i (255 - j) = 0) : pathD es i (j + 1) = ((pathD es i j).filter fun x => !rightB (255 - j) x) ∧ sibK es i (255 - j) = nodeT (255 - j) ((pathD es i j).filter (rightB (255 - j))) := by
  refine ⟨by rw [pathD, side_left h], ?_⟩
  unfold sibK offD
  rw [show 255 - (255 - j) = j by omega, side_left h]
  congr 2
  funext x
  rw [Bool.not_not]
theorem off_right {es : List EntT} {i : List Int} {j : Nat} (hj : j < 256) (h : bitL i (255 - j) = 1) : pathD es i (j + 1) = (pathD es i j).filter (rightB (255 - j)) ∧ sibK es i (255 - j) = nodeT (255 - j) ((pathD es i j).filter fun x => !rightB (255 - j) x) := by
  refine ⟨by rw [pathD, side_right h], ?_⟩
  unfold sibK offD
  rw [show 255 - (255 - j) = j by omega, side_right h]
theorem OwnD.keptB {w w' : World} {b base : Nat} {e : TypeId} {v : Value} {ds : List (List Int)} (hb : But b w w') (h : OwnD w base e v ds) (hne : b < base) : OwnD w' base e v ds := by
  have hl := h.lt
  obtain ⟨⟨h1, h2⟩, h3⟩ := h
  refine ⟨⟨h1, h2.imp id ?_⟩, h3⟩
  rintro ⟨g, cap, cur, rfl, hg, hh, hle⟩
  exact ⟨g, cap, cur, rfl, hg, (hb.block g (hl g rfl).2 (by omega)).trans hh, hle⟩
theorem own_one {w : World} {base : Nat} {e : TypeId} {v : Value} {ds : List (List Int)} (h : OwnD w base e v ds) : v.oneCell' = true ∧ v.cells = #[v] := by
  obtain ⟨a, cap, rfl, -, -⟩ := h.digs
  exact ⟨rfl, rfl⟩
theorem prC_set {d : List Int} {v : Value} {o : Nat} {x : Int} (ho : o < d.length) : (prC d v).toArray.setIfInBounds o (.int .u8 x) = (prC (d.set o x) v).toArray := by
  unfold prC
  rw [List.setIfInBounds_toArray, List.set_append_left _ _ (by rw [List.length_map]; exact ho), List.map_set]
theorem prC_put {d : List Int} {v u : Value} (ho : d.length = 32) : (prC d v).toArray.setIfInBounds 32 u = (prC d u).toArray := by
  unfold prC
  rw [List.setIfInBounds_toArray, List.set_append_right _ _ (by rw [List.length_map]; omega), List.length_map, ho]
  rfl
theorem prC_at {d : List Int} {v : Value} {o : Nat} (hd : Dg d) (ho : o < 32) : (prC d v).toArray[o]? = some (.int .u8 (d.getD o 0)) := by
  unfold prC
  rw [List.getElem?_toArray, List.getElem?_append_left (by rw [List.length_map, hd.len]; exact ho), List.getElem?_map, List.getD_eq_getElem?_getD, List.getElem?_eq_getElem (by rw [hd.len]; exact ho)]
  rfl
theorem pow_small (k : Nat) : (2 : Int) ^ (k % 8) % 256 = 2 ^ (k % 8) := by
  rcases (show k % 8 = 0 ∨ k % 8 = 1 ∨ k % 8 = 2 ∨ k % 8 = 3 ∨ k % 8 = 4 ∨ k % 8 = 5 ∨ k % 8 = 6 ∨ k % 8 = 7 by omega) with e | e | e | e | e | e | e | e <;> rw [e] <;> rfl
theorem prC_bit {d : List Int} {v : Value} {k : Nat} {x : Int} (hd : Dg d) (hk : k < 256) (hx : x = d.getD (k / 8) 0) : (prC d v).toArray.setIfInBounds (k / 8) (.int .u8 (bits .or .u8 x (2 ^ (k % 8) % 256))) = (prC (setK d k) v).toArray := by
  rw [pow_small, hx, prC_set (by rw [hd.len]; omega)]
  rfl
theorem prC_zero : (prC zD (.slice none 0 0)).toArray = #[.int .u8 0, .int .u8 0, .int .u8 0, .int .u8 0, .int .u8 0, .int .u8 0, .int .u8 0, .int .u8 0, .int .u8 0, .int .u8 0, .int .u8 0, .int .u8 0, .int .u8 0, .int .u8 0, .int .u8 0, .int .u8 0, .int .u8 0, .int .u8 0, .int .u8 0, .int .u8 0, .int .u8 0, .int .u8 0, .int .u8 0, .int .u8 0, .int .u8 0, .int .u8 0, .int .u8 0, .int .u8 0, .int .u8 0, .int .u8 0, .int .u8 0, .int .u8 0, .slice none 0 0] := by kernel_rfl
set_option maxHeartbeats 4000000 in
theorem prove_good (a : Option Addr) (len cap : Nat) (es : List (List Int × List Int)) (i : List Int) (w : World) (hE : EntsAt w a len cap es) (hmx : len ≤ 256) (hnf : (es.map Prod.fst).Nodup) (hi : Dg i) (tab : ShaTab w) :
    Calls Tryd.prog 26 #[.slice a len cap, .agg (i.map (Value.int .u8)).toArray] w fun e w' => ∃ d v ns, e = .returned (.tuple #[.agg (prC d v).toArray, .int .i64 0]) ∧ Dg d ∧ OwnD w' w.heap.size 23 v ns ∧ ProofT es i d ns ∧ Below w.heap.size w w' := by
  have b1 := (Below.refl w.heap.size w).alloc (Nat.le_refl _) (.cells (i.map (Value.int .u8)).toArray 23 (0, 0))
  have b2 := b1.alloc b1.size (.cells #[.int .u8 0, .int .u8 0, .int .u8 0, .int .u8 0, .int .u8 0, .int .u8 0, .int .u8 0, .int .u8 0, .int .u8 0, .int .u8 0, .int .u8 0, .int .u8 0, .int .u8 0, .int .u8 0, .int .u8 0, .int .u8 0, .int .u8 0, .int .u8 0, .int .u8 0, .int .u8 0, .int .u8 0, .int .u8 0, .int .u8 0, .int .u8 0, .int .u8 0, .int .u8 0, .int .u8 0, .int .u8 0, .int .u8 0, .int .u8 0, .int .u8 0, .int .u8 0, .slice none 0 0] 46 (0, 0))
  have Ki := hid ((Blk.new (w := w) (n := w.heap.size) rfl (i.map (Value.int .u8)).toArray 23).old (.cells #[.int .u8 0, .int .u8 0, .int .u8 0, .int .u8 0, .int .u8 0, .int .u8 0, .int .u8 0, .int .u8 0, .int .u8 0, .int .u8 0, .int .u8 0, .int .u8 0, .int .u8 0, .int .u8 0, .int .u8 0, .int .u8 0, .int .u8 0, .int .u8 0, .int .u8 0, .int .u8 0, .int .u8 0, .int .u8 0, .int .u8 0, .int .u8 0, .int .u8 0, .int .u8 0, .int .u8 0, .int .u8 0, .int .u8 0, .int .u8 0, .int .u8 0, .int .u8 0, .slice none 0 0] 46 (0, 0)))
  have Kp := hid (Blk.new (w := (w.alloc (.cells (i.map (Value.int .u8)).toArray 23 (0, 0)))) (n := w.heap.size + 1) (by simp only [World.size_alloc]) #[.int .u8 0, .int .u8 0, .int .u8 0, .int .u8 0, .int .u8 0, .int .u8 0, .int .u8 0, .int .u8 0, .int .u8 0, .int .u8 0, .int .u8 0, .int .u8 0, .int .u8 0, .int .u8 0, .int .u8 0, .int .u8 0, .int .u8 0, .int .u8 0, .int .u8 0, .int .u8 0, .int .u8 0, .int .u8 0, .int .u8 0, .int .u8 0, .int .u8 0, .int .u8 0, .int .u8 0, .int .u8 0, .int .u8 0, .int .u8 0, .int .u8 0, .int .u8 0, .slice none 0 0] 46)
  have Hb := hid b2
  have hbz := b2.size
  have Hbs := hid (show w.heap.size + 1 + 1 = ((w.alloc (.cells (i.map (Value.int .u8)).toArray 23 (0, 0))).alloc (.cells #[.int .u8 0, .int .u8 0, .int .u8 0, .int .u8 0, .int .u8 0, .int .u8 0, .int .u8 0, .int .u8 0, .int .u8 0, .int .u8 0, .int .u8 0, .int .u8 0, .int .u8 0, .int .u8 0, .int .u8 0, .int .u8 0, .int .u8 0, .int .u8 0, .int .u8 0, .int .u8 0, .int .u8 0, .int .u8 0, .int .u8 0, .int .u8 0, .int .u8 0, .int .u8 0, .int .u8 0, .int .u8 0, .int .u8 0, .int .u8 0, .int .u8 0, .int .u8 0, .slice none 0 0] 46 (0, 0))).heap.size by simp only [World.size_alloc])
  have Htab := hid tab
  clear b1 b2 tab 
  have HE := hid (hE.below Hb.out)
  clear hE
  go_enter Tryd.func26, Tryd.ntmps26
  go_wp2_with fail
  refine (grow_all a len cap es _ HE.out hmx hnf (Htab.out.below Hb.out)).mono ?_
  rintro e w1 ⟨g, a1, c1, fs, rfl, e1, p1, s1, b1, kg⟩
  have hgn := grown_node HE.out.each hnf p1 s1
  have HSP := hid hgn.1
  have HPM := hid p1
  have HE1 := hid e1
  have HG1 := hid kg
  have Hb1 := hid (Below.on Hb.out b1)
  have Ki1 := hid (Ki.out.below b1)
  have Kp1 := hid (Kp.out.below b1)
  have hs1 := Hb1.out.size
  have hp1 := Kp1.out.lt
  clear e1 p1 s1 kg hgn b1
  have Kiw21 := hid (Ki1.out.old (.cells #[.slice a1 len c1, .slice (some ⟨g, 0, none⟩) 257 257] 76 (0, 0)))
  have hliw21 := Ki1.out.lt
  have Kpw21 := hid (Kp1.out.old (.cells #[.slice a1 len c1, .slice (some ⟨g, 0, none⟩) 257 257] 76 (0, 0)))
  have hlpw21 := Kp1.out.lt
  have Kxw21 := hid (Blk.new (w := w1) rfl #[.slice a1 len c1, .slice (some ⟨g, 0, none⟩) 257 257] 76)
  have HBw21 := hid (Hb1.out.alloc Hb1.out.size (.cells #[.slice a1 len c1, .slice (some ⟨g, 0, none⟩) 257 257] 76 (0, 0)))
  have hsw21 := HBw21.out.size
  have hfw21 : w.heap.size ≤ w1.heap.size := Hb1.out.size
  have Kiw22 := hid (Kiw21.out.old (.cells #[.int .u8 0, .int .u8 0, .int .u8 0, .int .u8 0, .int .u8 0, .int .u8 0, .int .u8 0, .int .u8 0, .int .u8 0, .int .u8 0, .int .u8 0, .int .u8 0, .int .u8 0, .int .u8 0, .int .u8 0, .int .u8 0, .int .u8 0, .int .u8 0, .int .u8 0, .int .u8 0, .int .u8 0, .int .u8 0, .int .u8 0, .int .u8 0, .int .u8 0, .int .u8 0, .int .u8 0, .int .u8 0, .int .u8 0, .int .u8 0, .int .u8 0, .int .u8 0, .slice none 0 0] 46 (0, 0)))
  have hliw22 := Kiw21.out.lt
  have Kpw22 := hid (Kpw21.out.old (.cells #[.int .u8 0, .int .u8 0, .int .u8 0, .int .u8 0, .int .u8 0, .int .u8 0, .int .u8 0, .int .u8 0, .int .u8 0, .int .u8 0, .int .u8 0, .int .u8 0, .int .u8 0, .int .u8 0, .int .u8 0, .int .u8 0, .int .u8 0, .int .u8 0, .int .u8 0, .int .u8 0, .int .u8 0, .int .u8 0, .int .u8 0, .int .u8 0, .int .u8 0, .int .u8 0, .int .u8 0, .int .u8 0, .int .u8 0, .int .u8 0, .int .u8 0, .int .u8 0, .slice none 0 0] 46 (0, 0)))
  have hlpw22 := Kpw21.out.lt
  have Kxw22 := hid (Kxw21.out.old (.cells #[.int .u8 0, .int .u8 0, .int .u8 0, .int .u8 0, .int .u8 0, .int .u8 0, .int .u8 0, .int .u8 0, .int .u8 0, .int .u8 0, .int .u8 0, .int .u8 0, .int .u8 0, .int .u8 0, .int .u8 0, .int .u8 0, .int .u8 0, .int .u8 0, .int .u8 0, .int .u8 0, .int .u8 0, .int .u8 0, .int .u8 0, .int .u8 0, .int .u8 0, .int .u8 0, .int .u8 0, .int .u8 0, .int .u8 0, .int .u8 0, .int .u8 0, .int .u8 0, .slice none 0 0] 46 (0, 0)))
  have hlxw22 := Kxw21.out.lt
  have Kqw22 := hid (Blk.new (w := (w1.alloc (.cells #[.slice a1 len c1, .slice (some ⟨g, 0, none⟩) 257 257] 76 (0, 0)))) rfl #[.int .u8 0, .int .u8 0, .int .u8 0, .int .u8 0, .int .u8 0, .int .u8 0, .int .u8 0, .int .u8 0, .int .u8 0, .int .u8 0, .int .u8 0, .int .u8 0, .int .u8 0, .int .u8 0, .int .u8 0, .int .u8 0, .int .u8 0, .int .u8 0, .int .u8 0, .int .u8 0, .int .u8 0, .int .u8 0, .int .u8 0, .int .u8 0, .int .u8 0, .int .u8 0, .int .u8 0, .int .u8 0, .int .u8 0, .int .u8 0, .int .u8 0, .int .u8 0, .slice none 0 0] 46)
  have HBw22 := hid (HBw21.out.alloc HBw21.out.size (.cells #[.int .u8 0, .int .u8 0, .int .u8 0, .int .u8 0, .int .u8 0, .int .u8 0, .int .u8 0, .int .u8 0, .int .u8 0, .int .u8 0, .int .u8 0, .int .u8 0, .int .u8 0, .int .u8 0, .int .u8 0, .int .u8 0, .int .u8 0, .int .u8 0, .int .u8 0, .int .u8 0, .int .u8 0, .int .u8 0, .int .u8 0, .int .u8 0, .int .u8 0, .int .u8 0, .int .u8 0, .int .u8 0, .int .u8 0, .int .u8 0, .int .u8 0, .int .u8 0, .slice none 0 0] 46 (0, 0)))
  have hsw22 := HBw22.out.size
  have hfw22 : w.heap.size ≤ (w1.alloc (.cells #[.slice a1 len c1, .slice (some ⟨g, 0, none⟩) 257 257] 76 (0, 0))).heap.size := HBw21.out.size
  have cx0 : ((w1.alloc (.cells #[.slice a1 len c1, .slice (some ⟨g, 0, none⟩) 257 257] 76 (0, 0))).alloc (.cells #[.int .u8 0, .int .u8 0, .int .u8 0, .int .u8 0, .int .u8 0, .int .u8 0, .int .u8 0, .int .u8 0, .int .u8 0, .int .u8 0, .int .u8 0, .int .u8 0, .int .u8 0, .int .u8 0, .int .u8 0, .int .u8 0, .int .u8 0, .int .u8 0, .int .u8 0, .int .u8 0, .int .u8 0, .int .u8 0, .int .u8 0, .int .u8 0, .int .u8 0, .int .u8 0, .int .u8 0, .int .u8 0, .int .u8 0, .int .u8 0, .int .u8 0, .int .u8 0, .slice none 0 0] 46 (0, 0))).cell? ⟨w1.heap.size, 0, none⟩ = some (.slice a1 len c1) := by rw [Kxw22.out.cell]; rfl
  go_wp2_with fail
  have KQ := hid (show Blk ((w1.alloc (.cells #[.slice a1 len c1, .slice (some ⟨g, 0, none⟩) 257 257] 76 (0, 0))).alloc (.cells #[.int .u8 0, .int .u8 0, .int .u8 0, .int .u8 0, .int .u8 0, .int .u8 0, .int .u8 0, .int .u8 0, .int .u8 0, .int .u8 0, .int .u8 0, .int .u8 0, .int .u8 0, .int .u8 0, .int .u8 0, .int .u8 0, .int .u8 0, .int .u8 0, .int .u8 0, .int .u8 0, .int .u8 0, .int .u8 0, .int .u8 0, .int .u8 0, .int .u8 0, .int .u8 0, .int .u8 0, .int .u8 0, .int .u8 0, .int .u8 0, .int .u8 0, .int .u8 0, .slice none 0 0] 46 (0, 0))) (w1.heap.size + 1) #[.int .u8 0, .int .u8 0, .int .u8 0, .int .u8 0, .int .u8 0, .int .u8 0, .int .u8 0, .int .u8 0, .int .u8 0, .int .u8 0, .int .u8 0, .int .u8 0, .int .u8 0, .int .u8 0, .int .u8 0, .int .u8 0, .int .u8 0, .int .u8 0, .int .u8 0, .int .u8 0, .int .u8 0, .int .u8 0, .int .u8 0, .int .u8 0, .int .u8 0, .int .u8 0, .int .u8 0, .int .u8 0, .int .u8 0, .int .u8 0, .int .u8 0, .int .u8 0, .slice none 0 0] 46 by have h := Kqw22.out; simp only [World.size_alloc] at h; exact h)
  go_loopw [9, 10] (fun bv kv wr => ∃ j : Nat, j ≤ 256 ∧ kv = .int .i64 (255 - (j : Int)) ∧ (∃ aj nj cj, bv = .slice aj nj cj ∧ nj ≤ 256 ∧ ∀ W : World, EntsAt W a1 len c1 fs → EntsAt W aj nj cj (pathD fs i j)) ∧ (∃ v, OwnD wr (w1.heap.size + 1 + 1) 23 v (nK fs i j) ∧ Blk wr (w1.heap.size + 1) (prC (dK fs i j) v).toArray 46) ∧ Blk wr w.heap.size (i.map (Value.int .u8)).toArray 23 ∧ Blk wr (w.heap.size + 1) #[.int .u8 0, .int .u8 0, .int .u8 0, .int .u8 0, .int .u8 0, .int .u8 0, .int .u8 0, .int .u8 0, .int .u8 0, .int .u8 0, .int .u8 0, .int .u8 0, .int .u8 0, .int .u8 0, .int .u8 0, .int .u8 0, .int .u8 0, .int .u8 0, .int .u8 0, .int .u8 0, .int .u8 0, .int .u8 0, .int .u8 0, .int .u8 0, .int .u8 0, .int .u8 0, .int .u8 0, .int .u8 0, .int .u8 0, .int .u8 0, .int .u8 0, .int .u8 0, .slice none 0 0] 46 ∧ Blk wr w1.heap.size #[.slice a1 len c1, .slice (some ⟨g, 0, none⟩) 257 257] 76 ∧ Below w1.heap.size w1 wr) (fun _ kv _ => (intOf kv + 1).toNat)
  case atStart => exact ⟨0, Nat.zero_le _, rfl, ⟨a1, len, c1, rfl, hmx, fun _ h => h⟩, ⟨.slice none 0 0, OwnD.nil _ _ _, by rw [show dK fs i 0 = zD from rfl, prC_zero]; exact KQ.out⟩, Kiw22.out, Kpw22.out, Kxw22.out, ((Below.refl w1.heap.size w1).alloc (Nat.le_refl _) _).alloc (by simp only [World.size_alloc]; omega) _⟩
  case round =>
    obtain ⟨j, hj, rfl, ⟨aj, nj, cj, rfl, hnj, hej⟩, ⟨v, ho, kq⟩, ki, kp, kx, bel⟩ := hrel
    have HEJ := hid hej
    have HOv := hid ho
    have Kqwr := hid kq
    have Kiwr := hid ki
    have Kpwr := hid kp
    have Kxwr := hid kx
    have HBwr := hid bel
    have hsr := kq.lt
    clear hej ho kq ki kp kx bel
    by_cases hlt : j < 256
    · skip
      have hcI : ¬ (255 - (j : Int)) < 0 := by omega
      have hcJ : (0 : Int) ≤ 255 - (j : Int) := by omega
      have hkk : (255 - (j : Int)) = ((255 - j : Nat) : Int) := by omega
      rw [hkk]
      clear hkk
      go_wp2_with fail
      have hsp := split_path HSP.out i j hj
      rw [show 256 - j = (255 - j) + 1 by omega, SplitT] at hsp
      have hpe := hsp.1
      have HSL := hid hsp.2.1
      have HSR := hid hsp.2.2
      clear hsp
      refine (halves_at aj nj cj _ _ (255 - j) _ (hpe ▸ HEJ.out _ (HE1.out.below HBwr.out)) hnj (fun x hx => by have := (List.mem_filter.1 hx).2; simpa using this) (fun x hx => (List.mem_filter.1 hx).2) (by omega)).mono ?_
      rintro e w3 ⟨x1, d1, x2, d2, rfl, h3, b3⟩
      have hn1 : ∃ n1, n1 = ((pathD fs i j).filter fun x => !rightB (255 - j) x).length := ⟨_, rfl⟩
      have hn2 : ∃ n2, n2 = ((pathD fs i j).filter (rightB (255 - j))).length := ⟨_, rfl⟩
      obtain ⟨n1, hn1⟩ := hn1
      obtain ⟨n2, hn2⟩ := hn2
      have hlp := (HEJ.out _ (HE1.out.below HBwr.out)).length
      have hl1 : n1 ≤ 256 := by rw [hn1]; exact Nat.le_trans (List.length_filter_le _ _) (by omega)
      have hl2 : n2 ≤ 256 := by rw [hn2]; exact Nat.le_trans (List.length_filter_le _ _) (by omega)
      rw [← hn1, ← hn2] at h3 ⊢
      have HLR := hid (fun (W : World) (h : EntsAt W a1 len c1 fs) => h3 W (hpe ▸ HEJ.out W h))
      have HBw3 := hid (Below.on HBwr.out b3)
      have Kiw3 := hid (Kiwr.out.below b3)
      have Kpw3 := hid (Kpwr.out.below b3)
      have Kxw3 := hid (Kxwr.out.below b3)
      have Kqw3 := hid (Kqwr.out.below b3)
      have HOw3 := hid (HOv.out.below b3)
      have hsw3 := b3.size
      clear h3 b3 hn1 hn2 hlp hpe
      go_wp2_with (refine wpList_load_blk rfl 23 _ rfl (w.heap.size) rfl _ 23 Kiw3.out _ Tryd.underlying23 rfl 32 size_digest hi.size ?_)
      refine (bit_in i (255 - j) _ hi (by omega)).mono ?_
      rintro e w4 ⟨rfl, b4⟩
      have HBw4 := hid (Below.on HBw3.out b4)
      have Kiw4 := hid (Kiw3.out.below b4)
      have Kpw4 := hid (Kpw3.out.below b4)
      have Kxw4 := hid (Kxw3.out.below b4)
      have Kqw4 := hid (Kqw3.out.below b4)
      have HOw4 := hid (HOw3.out.below b4)
      have hsw4 := b4.size
      clear b4
      rcases bitL_01 i (255 - j) with hq | hq
      · have hof := off_left (es := fs) (i := i) hlt hq
        have HPT := hid hof.1
        have HSB := hid hof.2
        rw [hq]
        clear hof hq
        go_wp2_with (refine wpList_load_blk rfl 76 _ rfl (w1.heap.size) rfl _ 76 Kxw4.out _ Tryd.underlying76 rfl 2 size_forest rfl ?_)
        refine (node_all a1 len c1 g (255 - j) (by omega) x2 n2 d2 _ _ HSR.out (HLR.out _ (HE1.out.below HBw4.out)).2 (by omega) (HG1.out.below HBw4.out) (Htab.out.below (Below.on Hb1.out HBw4.out))).mono ?_
        rintro e w5 ⟨rfl, b5⟩
        rw [← HSB.out]
        have HBw5 := hid (Below.on HBw4.out b5)
        have hsw5 := HBw5.out.size
        have Kiw5 := hid (Kiw4.out.below b5)
        have Kpw5 := hid (Kpw4.out.below b5)
        have Kxw5 := hid (Kxw4.out.below b5)
        have Kqw5 := hid (Kqw4.out.below b5)
        have HOw5 := hid (HOw4.out.below b5)
        have hb5 := b5.size
        clear b5
        have hes := HE1.out.each
        have HS := hid (Dg.sibK hes i (255 - j))
        have HN := hid (Dg.emptyL (255 - j))
        have HDK := hid (show dK fs i (j + 1) = if sibK fs i (255 - j) = emptyL (255 - j) then dK fs i j else setK (dK fs i j) (255 - j) from rfl)
        have HNK := hid (show nK fs i (j + 1) = if sibK fs i (255 - j) = emptyL (255 - j) then nK fs i j else nK fs i j ++ [sibK fs i (255 - j)] from rfl)
        have HDg := hid (Dg.dK fs i j)
        have hnl := nK_len fs i j
        have hrg := dig_rng HG1.out (empN_each 257) (j := 255 - j) (by rw [empN_length]; omega)
        rw [empN_get (by omega)] at hrg
        have HRG := hid hrg
        have hgl := HG1.out.lt
        have hkn : ∃ kk : Nat, kk = 255 - j := ⟨_, rfl⟩
        obtain ⟨kk, hkn⟩ := hkn
        have HKK := hid hkn
        rw [← hkn] at HS HN HDK HNK HRG ⊢
        have hk6 : kk < 257 := by omega
        have hk7 : kk < 256 := by omega
        clear hes hrg hkn
        generalize sibK fs i kk = Sb at *
        generalize emptyL kk = En at *
        generalize dK fs i j = dk at *
        generalize nK fs i j = nk at *
        go_wp2_with (
              refine wpList_store_blk rfl 23 _ _ rfl (w5.heap.size) (Sb.map (Value.int .u8)).toArray rfl rfl _ 23 (Blk.new rfl (byteCells 32 []) _) 32 size_digest zsize HS.out.size (ints_one _ _) ?_
              intro w51 hbw51 hkw51
              have hw51 := hbw51.below ((Below.refl w5.heap.size w5).alloc (Nat.le_refl _) _) (by simp only [World.size_alloc]; omega) (Nat.le_refl _)
              have HBw51 := hid (Below.on HBw5.out hw51)
              have hsw51 := HBw51.out.size
              have Kiw51 := hid (Kiw5.out.below hw51)
              have hliw51 := Kiw5.out.lt
              have Kpw51 := hid (Kpw5.out.below hw51)
              have hlpw51 := Kpw5.out.lt
              have Kxw51 := hid (Kxw5.out.below hw51)
              have hlxw51 := Kxw5.out.lt
              have Kqw51 := hid (Kqw5.out.below hw51)
              have hlqw51 := Kqw5.out.lt
              have Ktw51 := hid hkw51
              have hfw51 : w1.heap.size ≤ w5.heap.size := HBw5.out.size
              have HOw51 := hid (HOw5.out.below hw51)
              clear hbw51 hkw51 hw51)
        simp only [Act.put]
        have hqq := fun W : World => neD Sb En HS.out.len HN.out.len W
        by_cases hde : Sb = En
        · skip
          rw [decide_eq_true hde] at hqq
          have HQ := hid hqq
          have HDE := hid hde
          clear hqq hde
          refine wp_region_flow 7 (List.range 7) [] [] (by kernel_rfl) (by kernel_rfl) ?_
          apply Exists.intro
          refine ⟨fun w0 hb0 hF0 => ?_, ?_⟩
          · skip
            have x0 : ∀ w', (∃ x : Ext w0, w' = x.at_) → ∃ T, Blk w' (w5.heap.size) (Sb.map (Value.int .u8)).toArray T := fun w' ⟨x, hx⟩ => ⟨_, hx ▸ (Ktw51.out.below hb0).below x.same⟩
            have y0 : ∀ w', (∃ x : Ext w0, w' = x.at_) → w'.cell? ⟨w1.heap.size, 1, none⟩ = some (.slice (some ⟨g, 0, none⟩) 257 257) := fun w' ⟨x, hx⟩ => by rw [hx, ((Kxw51.out.below hb0).below x.same).cell]; rfl
            have xe : ∀ w', (∃ x : Ext w0, w' = x.at_) → w'.rangeAt g (0 + kk * 32) (En.map (Value.int .u8)) := fun w' ⟨y, hy⟩ => hy ▸ rangeAt_belowB HRG.out hgl (Below.on (Below.on HBw51.out hb0) y.same)
            simp only [pick, List.range, List.range.loop, List.getElem?_toArray, List.getElem?_cons_succ, List.getElem?_cons_zero, Option.toList_some, List.cons_append, List.nil_append]
            repeat (first | (go_big_quiet_want; refine quiet_load_blk 23 _ rfl (w5.heap.size) rfl _ x0 _ Tryd.underlying23 rfl 32 size_digest HS.out.size ?_; go_big_quiet_on; simp only [Act.put, List.setIfInBounds_toArray, List.set_cons_zero, List.set_cons_succ]) | (go_big_quiet_want; refine quiet_load_one 27 _ rfl ⟨w1.heap.size, 1, none⟩ rfl _ y0 _ Tryd.underlying27 rfl ?_; go_big_quiet_on; simp only [Act.put, List.setIfInBounds_toArray, List.set_cons_zero, List.set_cons_succ]) | (go_big_quiet_want; refine quiet_index_k 27 _ _ rfl Tryd.underlying27 size_digest g 0 257 257 rfl _ _ rfl kk rfl hk6 ?_; go_big_quiet_on; simp only [Act.put, List.setIfInBounds_toArray, List.set_cons_zero, List.set_cons_succ]) | (go_big_quiet_want; refine quiet_load_mid 23 _ rfl g (0 + kk * 32) rfl _ xe _ Tryd.underlying23 rfl (by rw [List.length_map, HN.out.len]; exact size_digest) ?_; go_big_quiet_on; simp only [Act.put, List.setIfInBounds_toArray, List.set_cons_zero, List.set_cons_succ]) | (go_big_quiet_want; refine quiet_cmp _ _ rfl _ _ _ rfl rfl HQ.out ?_; go_big_quiet_on; simp only [Act.put, List.setIfInBounds_toArray, List.set_cons_zero, List.set_cons_succ]) | go_big_quiet_step (fail))
            exact wpQuiet_nil rfl
          refine AlChk.nil ?_
          refine Walk.fin fun w52 hw52 _ _ => ?_
          simp only [List.drop_succ_cons, List.drop_zero]
          have HBw52 := hid (Below.on HBw51.out hw52)
          have hsw52 := HBw52.out.size
          have Kiw52 := hid (Kiw51.out.below hw52)
          have Kpw52 := hid (Kpw51.out.below hw52)
          have Kxw52 := hid (Kxw51.out.below hw52)
          have Kqw52 := hid (Kqw51.out.below hw52)
          have Ktw52 := hid (Ktw51.out.below hw52)
          have HOw52 := hid (HOw51.out.below hw52)
          clear hw52
          go_wp2_with fail
          rw [if_pos HDE.out] at HDK HNK
          exact ⟨⟨j + 1, by omega, by have := HKK.out; first | rfl | (congr 1; omega), ⟨_, _, _, rfl, by assumption, fun W hW => HPT.out ▸ (HLR.out W hW).1⟩, ⟨v, by rw [HNK.out]; exact HOw52.out, by rw [HDK.out]; exact Kqw52.out⟩, Kiw52.out, Kpw52.out, Kxw52.out, HBw52.out⟩, by have := HKK.out; simp [intOf]; omega⟩
        · skip
          rw [decide_eq_false hde] at hqq
          have HQ := hid hqq
          have HDE := hid hde
          clear hqq hde
          refine wp_region_flow 7 (List.range 7) [] [] (by kernel_rfl) (by kernel_rfl) ?_
          apply Exists.intro
          refine ⟨fun w0 hb0 hF0 => ?_, ?_⟩
          · skip
            have x0 : ∀ w', (∃ x : Ext w0, w' = x.at_) → ∃ T, Blk w' (w5.heap.size) (Sb.map (Value.int .u8)).toArray T := fun w' ⟨x, hx⟩ => ⟨_, hx ▸ (Ktw51.out.below hb0).below x.same⟩
            have y0 : ∀ w', (∃ x : Ext w0, w' = x.at_) → w'.cell? ⟨w1.heap.size, 1, none⟩ = some (.slice (some ⟨g, 0, none⟩) 257 257) := fun w' ⟨x, hx⟩ => by rw [hx, ((Kxw51.out.below hb0).below x.same).cell]; rfl
            have xe : ∀ w', (∃ x : Ext w0, w' = x.at_) → w'.rangeAt g (0 + kk * 32) (En.map (Value.int .u8)) := fun w' ⟨y, hy⟩ => hy ▸ rangeAt_belowB HRG.out hgl (Below.on (Below.on HBw51.out hb0) y.same)
            simp only [pick, List.range, List.range.loop, List.getElem?_toArray, List.getElem?_cons_succ, List.getElem?_cons_zero, Option.toList_some, List.cons_append, List.nil_append]
            repeat (first | (go_big_quiet_want; refine quiet_load_blk 23 _ rfl (w5.heap.size) rfl _ x0 _ Tryd.underlying23 rfl 32 size_digest HS.out.size ?_; go_big_quiet_on; simp only [Act.put, List.setIfInBounds_toArray, List.set_cons_zero, List.set_cons_succ]) | (go_big_quiet_want; refine quiet_load_one 27 _ rfl ⟨w1.heap.size, 1, none⟩ rfl _ y0 _ Tryd.underlying27 rfl ?_; go_big_quiet_on; simp only [Act.put, List.setIfInBounds_toArray, List.set_cons_zero, List.set_cons_succ]) | (go_big_quiet_want; refine quiet_index_k 27 _ _ rfl Tryd.underlying27 size_digest g 0 257 257 rfl _ _ rfl kk rfl hk6 ?_; go_big_quiet_on; simp only [Act.put, List.setIfInBounds_toArray, List.set_cons_zero, List.set_cons_succ]) | (go_big_quiet_want; refine quiet_load_mid 23 _ rfl g (0 + kk * 32) rfl _ xe _ Tryd.underlying23 rfl (by rw [List.length_map, HN.out.len]; exact size_digest) ?_; go_big_quiet_on; simp only [Act.put, List.setIfInBounds_toArray, List.set_cons_zero, List.set_cons_succ]) | (go_big_quiet_want; refine quiet_cmp _ _ rfl _ _ _ rfl rfl HQ.out ?_; go_big_quiet_on; simp only [Act.put, List.setIfInBounds_toArray, List.set_cons_zero, List.set_cons_succ]) | go_big_quiet_step (fail))
            exact wpQuiet_nil rfl
          refine AlChk.nil ?_
          refine Walk.fin fun w52 hw52 _ _ => ?_
          simp only [List.drop_succ_cons, List.drop_zero]
          have HBw52 := hid (Below.on HBw51.out hw52)
          have hsw52 := HBw52.out.size
          have Kiw52 := hid (Kiw51.out.below hw52)
          have Kpw52 := hid (Kpw51.out.below hw52)
          have Kxw52 := hid (Kxw51.out.below hw52)
          have Kqw52 := hid (Kqw51.out.below hw52)
          have Ktw52 := hid (Ktw51.out.below hw52)
          have HOw52 := hid (HOw51.out.below hw52)
          clear hw52
          have hdl := HDg.out.len
          have hcl := prC_at (v := v) HDg.out (show kk / 8 < 32 by omega)
          have hxx := dg_at HDg.out (kk / 8)
          obtain ⟨x, hx⟩ : ∃ x, x = dk.getD (kk / 8) 0 := ⟨_, rfl⟩
          rw [← hx] at hcl hxx
          have HCL := hid hcl
          have HXK := hid hx
          clear hcl hx
          go_wp2_with fail
          refine wp_region_flow 11 (List.range 11) [] [] (by kernel_rfl) (by kernel_rfl) ?_
          apply Exists.intro
          refine ⟨fun w0 hb0 hF0 => ?_, ?_⟩
          · skip
            have y0 : ∀ w', (∃ x : Ext w0, w' = x.at_) → w'.cell? ⟨w1.heap.size + 1, kk / 8, none⟩ = some (.int .u8 x) := fun w' ⟨e, he⟩ => by rw [he, ((Kqw52.out.below hb0).below e.same).cell]; exact HCL.out
            simp only [pick, List.range, List.range.loop, List.getElem?_toArray, List.getElem?_cons_succ, List.getElem?_cons_zero, Option.toList_some, List.cons_append, List.nil_append]
            repeat (first | (go_big_quiet_want; refine quiet_load_one 5 _ rfl ⟨w1.heap.size + 1, kk / 8, none⟩ rfl _ y0 _ Tryd.underlying5 rfl ?_; go_big_quiet_on; simp only [Act.put, List.setIfInBounds_toArray, List.set_cons_zero, List.set_cons_succ]) | go_big_quiet_step (fail))
            exact wpQuiet_nil rfl
          refine AlChk.nil ?_
          refine Walk.fin fun w53 hw53 _ _ => ?_
          simp only [List.drop_succ_cons, List.drop_zero]
          have HBw53 := hid (Below.on HBw52.out hw53)
          have hsw53 := HBw53.out.size
          have Kiw53 := hid (Kiw52.out.below hw53)
          have Kpw53 := hid (Kpw52.out.below hw53)
          have Kxw53 := hid (Kxw52.out.below hw53)
          have Kqw53 := hid (Kqw52.out.below hw53)
          have Ktw53 := hid (Ktw52.out.below hw53)
          have HOw53 := hid (HOw52.out.below hw53)
          clear hw53
          go_wp2_with (first
             | (
                refine wpList_store_cell rfl 5 _ _ rfl (w1.heap.size + 1) (kk / 8) (.int .u8 (bits .or .u8 x (2 ^ (kk % 8) % 256))) rfl rfl rfl rfl (prC dk v).toArray 46 Kqw53.out (by rw [prC_size HDg.out]; omega) (by kernel_rfl) ?_
                rw [prC_bit HDg.out hk7 HXK.out]
                intro w80 hbw80 hkw80
                have HBw80 := hid (hbw80.below HBw53.out HBw53.out.size (by omega))
                have hsw80 := HBw80.out.size
                have HOw80 := hid (OwnD.keptB hbw80 HOw53.out (by omega))
                have Kiw80 := hid (hbw80.blk Kiw53.out (by have := Kiw53.out.lt; omega))
                have Kpw80 := hid (hbw80.blk Kpw53.out (by have := Kpw53.out.lt; omega))
                have Kxw80 := hid (hbw80.blk Kxw53.out (by have := Kxw53.out.lt; omega))
                have Ktw80 := hid (hbw80.blk Ktw53.out (by have := Ktw53.out.lt; omega))
                have Kqw80 := hid hkw80
                have hsz80 : w1.heap.size + 1 + 1 ≤ w80.heap.size := by have := hkw80.lt; omega
                have cn80 : w80.cell? ⟨w1.heap.size + 1, 32, none⟩ = some v := prC_nodes (HDg.out.setK kk) hkw80
                have HOa := hid (HOw80.out.below ((Below.refl _ w80).alloc (Nat.le_refl _) (.cells (Sb.map (Value.int .u8)).toArray 23 (0, 0))))
                have HK1 := hid (Blk.new (w := w80) rfl (Sb.map (Value.int .u8)).toArray 23)
                have HBa := hid (HBw80.out.alloc HBw80.out.size (.cells (Sb.map (Value.int .u8)).toArray 23 (0, 0)))
                have Kia := hid (Kiw80.out.old (.cells (Sb.map (Value.int .u8)).toArray 23 (0, 0)))
                have hlia := Kiw80.out.lt
                have Kpa := hid (Kpw80.out.old (.cells (Sb.map (Value.int .u8)).toArray 23 (0, 0)))
                have hlpa := Kpw80.out.lt
                have Kxa := hid (Kxw80.out.old (.cells (Sb.map (Value.int .u8)).toArray 23 (0, 0)))
                have hlxa := Kxw80.out.lt
                have Kqa := hid (Kqw80.out.old (.cells (Sb.map (Value.int .u8)).toArray 23 (0, 0)))
                have hlqa := Kqw80.out.lt
                obtain ⟨i0, hi0, hz0, hz1, hz2⟩ := info_parts info_dig
                clear hbw80 hkw80)
             | (refine wpList_load_blk rfl 23 _ rfl (w5.heap.size) rfl _ 23 Ktw80.out _ Tryd.underlying23 rfl 32 size_digest HS.out.size ?_)
             | (refine wpList_build_one rfl _ rfl rfl HS.out ?_)
             | (
                at_builtin
                refine wpList_append_dig rfl _ _ rfl Tryd.underlying27 hi0 hz0 zD_cells32 hz1 hz2 rfl HOa.out rfl HK1.out HS.out (by omega) (by rw [World.size_alloc]; omega) ?_
                intro v5 w85 own5 hg5 b5
                have HO85 := hid own5
                have HB85 := hid (HBa.out.trans (b5.mono (by omega)))
                have Ki85 := hid (Kia.out.belowB (by omega) b5)
                have Kp85 := hid (Kpa.out.belowB (by omega) b5)
                have Kx85 := hid (Kxa.out.belowB (by omega) b5)
                have Kq85 := hid (Kqa.out.belowB (by omega) b5)
                clear own5 hg5 b5)
             | (
                refine wpList_store_cell rfl 27 _ _ rfl (w1.heap.size + 1) 32 v5 rfl rfl (own_one HO85.out).1 (own_one HO85.out).2 (prC (setK dk kk) v).toArray 46 Kq85.out (by rw [prC_size (HDg.out.setK kk)]; omega) (by kernel_rfl) ?_
                rw [prC_put (HDg.out.setK kk).len]
                intro w86 hb86 hk86
                have HBw86 := hid (hb86.below HB85.out HB85.out.size (by omega))
                have HO86 := hid (OwnD.keptB hb86 HO85.out (by omega))
                have Kiw86 := hid (hb86.blk Ki85.out (by omega))
                have Kpw86 := hid (hb86.blk Kp85.out (by omega))
                have Kxw86 := hid (hb86.blk Kx85.out (by omega))
                have Kqw86 := hid hk86
                clear hb86 hk86))
          rw [if_neg HDE.out] at HDK HNK
          exact ⟨⟨j + 1, by omega, by have := HKK.out; first | rfl | (congr 1; omega), ⟨_, _, _, rfl, by assumption, fun W hW => HPT.out ▸ (HLR.out W hW).1⟩, ⟨v5, by rw [HNK.out]; exact HO86.out, by rw [HDK.out]; exact Kqw86.out⟩, Kiw86.out, Kpw86.out, Kxw86.out, HBw86.out⟩, by have := HKK.out; simp [intOf]; omega⟩
      · have hof := off_right (es := fs) (i := i) hlt hq
        have HPT := hid hof.1
        have HSB := hid hof.2
        rw [hq]
        clear hof hq
        go_wp2_with (refine wpList_load_blk rfl 76 _ rfl (w1.heap.size) rfl _ 76 Kxw4.out _ Tryd.underlying76 rfl 2 size_forest rfl ?_)
        refine (node_all a1 len c1 g (255 - j) (by omega) x1 n1 d1 _ _ HSL.out (HLR.out _ (HE1.out.below HBw4.out)).1 (by omega) (HG1.out.below HBw4.out) (Htab.out.below (Below.on Hb1.out HBw4.out))).mono ?_
        rintro e w5 ⟨rfl, b5⟩
        rw [← HSB.out]
        have HBw5 := hid (Below.on HBw4.out b5)
        have hsw5 := HBw5.out.size
        have Kiw5 := hid (Kiw4.out.below b5)
        have Kpw5 := hid (Kpw4.out.below b5)
        have Kxw5 := hid (Kxw4.out.below b5)
        have Kqw5 := hid (Kqw4.out.below b5)
        have HOw5 := hid (HOw4.out.below b5)
        have hb5 := b5.size
        clear b5
        have hes := HE1.out.each
        have HS := hid (Dg.sibK hes i (255 - j))
        have HN := hid (Dg.emptyL (255 - j))
        have HDK := hid (show dK fs i (j + 1) = if sibK fs i (255 - j) = emptyL (255 - j) then dK fs i j else setK (dK fs i j) (255 - j) from rfl)
        have HNK := hid (show nK fs i (j + 1) = if sibK fs i (255 - j) = emptyL (255 - j) then nK fs i j else nK fs i j ++ [sibK fs i (255 - j)] from rfl)
        have HDg := hid (Dg.dK fs i j)
        have hnl := nK_len fs i j
        have hrg := dig_rng HG1.out (empN_each 257) (j := 255 - j) (by rw [empN_length]; omega)
        rw [empN_get (by omega)] at hrg
        have HRG := hid hrg
        have hgl := HG1.out.lt
        have hkn : ∃ kk : Nat, kk = 255 - j := ⟨_, rfl⟩
        obtain ⟨kk, hkn⟩ := hkn
        have HKK := hid hkn
        rw [← hkn] at HS HN HDK HNK HRG ⊢
        have hk6 : kk < 257 := by omega
        have hk7 : kk < 256 := by omega
        clear hes hrg hkn
        generalize sibK fs i kk = Sb at *
        generalize emptyL kk = En at *
        generalize dK fs i j = dk at *
        generalize nK fs i j = nk at *
        go_wp2_with (
              refine wpList_store_blk rfl 23 _ _ rfl (w5.heap.size) (Sb.map (Value.int .u8)).toArray rfl rfl _ 23 (Blk.new rfl (byteCells 32 []) _) 32 size_digest zsize HS.out.size (ints_one _ _) ?_
              intro w51 hbw51 hkw51
              have hw51 := hbw51.below ((Below.refl w5.heap.size w5).alloc (Nat.le_refl _) _) (by simp only [World.size_alloc]; omega) (Nat.le_refl _)
              have HBw51 := hid (Below.on HBw5.out hw51)
              have hsw51 := HBw51.out.size
              have Kiw51 := hid (Kiw5.out.below hw51)
              have hliw51 := Kiw5.out.lt
              have Kpw51 := hid (Kpw5.out.below hw51)
              have hlpw51 := Kpw5.out.lt
              have Kxw51 := hid (Kxw5.out.below hw51)
              have hlxw51 := Kxw5.out.lt
              have Kqw51 := hid (Kqw5.out.below hw51)
              have hlqw51 := Kqw5.out.lt
              have Ktw51 := hid hkw51
              have hfw51 : w1.heap.size ≤ w5.heap.size := HBw5.out.size
              have HOw51 := hid (HOw5.out.below hw51)
              clear hbw51 hkw51 hw51)
        simp only [Act.put]
        have hqq := fun W : World => neD Sb En HS.out.len HN.out.len W
        by_cases hde : Sb = En
        · skip
          rw [decide_eq_true hde] at hqq
          have HQ := hid hqq
          have HDE := hid hde
          clear hqq hde
          refine wp_region_flow 7 (List.range 7) [] [] (by kernel_rfl) (by kernel_rfl) ?_
          apply Exists.intro
          refine ⟨fun w0 hb0 hF0 => ?_, ?_⟩
          · skip
            have x0 : ∀ w', (∃ x : Ext w0, w' = x.at_) → ∃ T, Blk w' (w5.heap.size) (Sb.map (Value.int .u8)).toArray T := fun w' ⟨x, hx⟩ => ⟨_, hx ▸ (Ktw51.out.below hb0).below x.same⟩
            have y0 : ∀ w', (∃ x : Ext w0, w' = x.at_) → w'.cell? ⟨w1.heap.size, 1, none⟩ = some (.slice (some ⟨g, 0, none⟩) 257 257) := fun w' ⟨x, hx⟩ => by rw [hx, ((Kxw51.out.below hb0).below x.same).cell]; rfl
            have xe : ∀ w', (∃ x : Ext w0, w' = x.at_) → w'.rangeAt g (0 + kk * 32) (En.map (Value.int .u8)) := fun w' ⟨y, hy⟩ => hy ▸ rangeAt_belowB HRG.out hgl (Below.on (Below.on HBw51.out hb0) y.same)
            simp only [pick, List.range, List.range.loop, List.getElem?_toArray, List.getElem?_cons_succ, List.getElem?_cons_zero, Option.toList_some, List.cons_append, List.nil_append]
            repeat (first | (go_big_quiet_want; refine quiet_load_blk 23 _ rfl (w5.heap.size) rfl _ x0 _ Tryd.underlying23 rfl 32 size_digest HS.out.size ?_; go_big_quiet_on; simp only [Act.put, List.setIfInBounds_toArray, List.set_cons_zero, List.set_cons_succ]) | (go_big_quiet_want; refine quiet_load_one 27 _ rfl ⟨w1.heap.size, 1, none⟩ rfl _ y0 _ Tryd.underlying27 rfl ?_; go_big_quiet_on; simp only [Act.put, List.setIfInBounds_toArray, List.set_cons_zero, List.set_cons_succ]) | (go_big_quiet_want; refine quiet_index_k 27 _ _ rfl Tryd.underlying27 size_digest g 0 257 257 rfl _ _ rfl kk rfl hk6 ?_; go_big_quiet_on; simp only [Act.put, List.setIfInBounds_toArray, List.set_cons_zero, List.set_cons_succ]) | (go_big_quiet_want; refine quiet_load_mid 23 _ rfl g (0 + kk * 32) rfl _ xe _ Tryd.underlying23 rfl (by rw [List.length_map, HN.out.len]; exact size_digest) ?_; go_big_quiet_on; simp only [Act.put, List.setIfInBounds_toArray, List.set_cons_zero, List.set_cons_succ]) | (go_big_quiet_want; refine quiet_cmp _ _ rfl _ _ _ rfl rfl HQ.out ?_; go_big_quiet_on; simp only [Act.put, List.setIfInBounds_toArray, List.set_cons_zero, List.set_cons_succ]) | go_big_quiet_step (fail))
            exact wpQuiet_nil rfl
          refine AlChk.nil ?_
          refine Walk.fin fun w52 hw52 _ _ => ?_
          simp only [List.drop_succ_cons, List.drop_zero]
          have HBw52 := hid (Below.on HBw51.out hw52)
          have hsw52 := HBw52.out.size
          have Kiw52 := hid (Kiw51.out.below hw52)
          have Kpw52 := hid (Kpw51.out.below hw52)
          have Kxw52 := hid (Kxw51.out.below hw52)
          have Kqw52 := hid (Kqw51.out.below hw52)
          have Ktw52 := hid (Ktw51.out.below hw52)
          have HOw52 := hid (HOw51.out.below hw52)
          clear hw52
          go_wp2_with fail
          rw [if_pos HDE.out] at HDK HNK
          exact ⟨⟨j + 1, by omega, by have := HKK.out; first | rfl | (congr 1; omega), ⟨_, _, _, rfl, by assumption, fun W hW => HPT.out ▸ (HLR.out W hW).2⟩, ⟨v, by rw [HNK.out]; exact HOw52.out, by rw [HDK.out]; exact Kqw52.out⟩, Kiw52.out, Kpw52.out, Kxw52.out, HBw52.out⟩, by have := HKK.out; simp [intOf]; omega⟩
        · skip
          rw [decide_eq_false hde] at hqq
          have HQ := hid hqq
          have HDE := hid hde
          clear hqq hde
          refine wp_region_flow 7 (List.range 7) [] [] (by kernel_rfl) (by kernel_rfl) ?_
          apply Exists.intro
          refine ⟨fun w0 hb0 hF0 => ?_, ?_⟩
          · skip
            have x0 : ∀ w', (∃ x : Ext w0, w' = x.at_) → ∃ T, Blk w' (w5.heap.size) (Sb.map (Value.int .u8)).toArray T := fun w' ⟨x, hx⟩ => ⟨_, hx ▸ (Ktw51.out.below hb0).below x.same⟩
            have y0 : ∀ w', (∃ x : Ext w0, w' = x.at_) → w'.cell? ⟨w1.heap.size, 1, none⟩ = some (.slice (some ⟨g, 0, none⟩) 257 257) := fun w' ⟨x, hx⟩ => by rw [hx, ((Kxw51.out.below hb0).below x.same).cell]; rfl
            have xe : ∀ w', (∃ x : Ext w0, w' = x.at_) → w'.rangeAt g (0 + kk * 32) (En.map (Value.int .u8)) := fun w' ⟨y, hy⟩ => hy ▸ rangeAt_belowB HRG.out hgl (Below.on (Below.on HBw51.out hb0) y.same)
            simp only [pick, List.range, List.range.loop, List.getElem?_toArray, List.getElem?_cons_succ, List.getElem?_cons_zero, Option.toList_some, List.cons_append, List.nil_append]
            repeat (first | (go_big_quiet_want; refine quiet_load_blk 23 _ rfl (w5.heap.size) rfl _ x0 _ Tryd.underlying23 rfl 32 size_digest HS.out.size ?_; go_big_quiet_on; simp only [Act.put, List.setIfInBounds_toArray, List.set_cons_zero, List.set_cons_succ]) | (go_big_quiet_want; refine quiet_load_one 27 _ rfl ⟨w1.heap.size, 1, none⟩ rfl _ y0 _ Tryd.underlying27 rfl ?_; go_big_quiet_on; simp only [Act.put, List.setIfInBounds_toArray, List.set_cons_zero, List.set_cons_succ]) | (go_big_quiet_want; refine quiet_index_k 27 _ _ rfl Tryd.underlying27 size_digest g 0 257 257 rfl _ _ rfl kk rfl hk6 ?_; go_big_quiet_on; simp only [Act.put, List.setIfInBounds_toArray, List.set_cons_zero, List.set_cons_succ]) | (go_big_quiet_want; refine quiet_load_mid 23 _ rfl g (0 + kk * 32) rfl _ xe _ Tryd.underlying23 rfl (by rw [List.length_map, HN.out.len]; exact size_digest) ?_; go_big_quiet_on; simp only [Act.put, List.setIfInBounds_toArray, List.set_cons_zero, List.set_cons_succ]) | (go_big_quiet_want; refine quiet_cmp _ _ rfl _ _ _ rfl rfl HQ.out ?_; go_big_quiet_on; simp only [Act.put, List.setIfInBounds_toArray, List.set_cons_zero, List.set_cons_succ]) | go_big_quiet_step (fail))
            exact wpQuiet_nil rfl
          refine AlChk.nil ?_
          refine Walk.fin fun w52 hw52 _ _ => ?_
          simp only [List.drop_succ_cons, List.drop_zero]
          have HBw52 := hid (Below.on HBw51.out hw52)
          have hsw52 := HBw52.out.size
          have Kiw52 := hid (Kiw51.out.below hw52)
          have Kpw52 := hid (Kpw51.out.below hw52)
          have Kxw52 := hid (Kxw51.out.below hw52)
          have Kqw52 := hid (Kqw51.out.below hw52)
          have Ktw52 := hid (Ktw51.out.below hw52)
          have HOw52 := hid (HOw51.out.below hw52)
          clear hw52
          have hdl := HDg.out.len
          have hcl := prC_at (v := v) HDg.out (show kk / 8 < 32 by omega)
          have hxx := dg_at HDg.out (kk / 8)
          obtain ⟨x, hx⟩ : ∃ x, x = dk.getD (kk / 8) 0 := ⟨_, rfl⟩
          rw [← hx] at hcl hxx
          have HCL := hid hcl
          have HXK := hid hx
          clear hcl hx
          go_wp2_with fail
          refine wp_region_flow 11 (List.range 11) [] [] (by kernel_rfl) (by kernel_rfl) ?_
          apply Exists.intro
          refine ⟨fun w0 hb0 hF0 => ?_, ?_⟩
          · skip
            have y0 : ∀ w', (∃ x : Ext w0, w' = x.at_) → w'.cell? ⟨w1.heap.size + 1, kk / 8, none⟩ = some (.int .u8 x) := fun w' ⟨e, he⟩ => by rw [he, ((Kqw52.out.below hb0).below e.same).cell]; exact HCL.out
            simp only [pick, List.range, List.range.loop, List.getElem?_toArray, List.getElem?_cons_succ, List.getElem?_cons_zero, Option.toList_some, List.cons_append, List.nil_append]
            repeat (first | (go_big_quiet_want; refine quiet_load_one 5 _ rfl ⟨w1.heap.size + 1, kk / 8, none⟩ rfl _ y0 _ Tryd.underlying5 rfl ?_; go_big_quiet_on; simp only [Act.put, List.setIfInBounds_toArray, List.set_cons_zero, List.set_cons_succ]) | go_big_quiet_step (fail))
            exact wpQuiet_nil rfl
          refine AlChk.nil ?_
          refine Walk.fin fun w53 hw53 _ _ => ?_
          simp only [List.drop_succ_cons, List.drop_zero]
          have HBw53 := hid (Below.on HBw52.out hw53)
          have hsw53 := HBw53.out.size
          have Kiw53 := hid (Kiw52.out.below hw53)
          have Kpw53 := hid (Kpw52.out.below hw53)
          have Kxw53 := hid (Kxw52.out.below hw53)
          have Kqw53 := hid (Kqw52.out.below hw53)
          have Ktw53 := hid (Ktw52.out.below hw53)
          have HOw53 := hid (HOw52.out.below hw53)
          clear hw53
          go_wp2_with (first
             | (
                refine wpList_store_cell rfl 5 _ _ rfl (w1.heap.size + 1) (kk / 8) (.int .u8 (bits .or .u8 x (2 ^ (kk % 8) % 256))) rfl rfl rfl rfl (prC dk v).toArray 46 Kqw53.out (by rw [prC_size HDg.out]; omega) (by kernel_rfl) ?_
                rw [prC_bit HDg.out hk7 HXK.out]
                intro w80 hbw80 hkw80
                have HBw80 := hid (hbw80.below HBw53.out HBw53.out.size (by omega))
                have hsw80 := HBw80.out.size
                have HOw80 := hid (OwnD.keptB hbw80 HOw53.out (by omega))
                have Kiw80 := hid (hbw80.blk Kiw53.out (by have := Kiw53.out.lt; omega))
                have Kpw80 := hid (hbw80.blk Kpw53.out (by have := Kpw53.out.lt; omega))
                have Kxw80 := hid (hbw80.blk Kxw53.out (by have := Kxw53.out.lt; omega))
                have Ktw80 := hid (hbw80.blk Ktw53.out (by have := Ktw53.out.lt; omega))
                have Kqw80 := hid hkw80
                have hsz80 : w1.heap.size + 1 + 1 ≤ w80.heap.size := by have := hkw80.lt; omega
                have cn80 : w80.cell? ⟨w1.heap.size + 1, 32, none⟩ = some v := prC_nodes (HDg.out.setK kk) hkw80
                have HOa := hid (HOw80.out.below ((Below.refl _ w80).alloc (Nat.le_refl _) (.cells (Sb.map (Value.int .u8)).toArray 23 (0, 0))))
                have HK1 := hid (Blk.new (w := w80) rfl (Sb.map (Value.int .u8)).toArray 23)
                have HBa := hid (HBw80.out.alloc HBw80.out.size (.cells (Sb.map (Value.int .u8)).toArray 23 (0, 0)))
                have Kia := hid (Kiw80.out.old (.cells (Sb.map (Value.int .u8)).toArray 23 (0, 0)))
                have hlia := Kiw80.out.lt
                have Kpa := hid (Kpw80.out.old (.cells (Sb.map (Value.int .u8)).toArray 23 (0, 0)))
                have hlpa := Kpw80.out.lt
                have Kxa := hid (Kxw80.out.old (.cells (Sb.map (Value.int .u8)).toArray 23 (0, 0)))
                have hlxa := Kxw80.out.lt
                have Kqa := hid (Kqw80.out.old (.cells (Sb.map (Value.int .u8)).toArray 23 (0, 0)))
                have hlqa := Kqw80.out.lt
                obtain ⟨i0, hi0, hz0, hz1, hz2⟩ := info_parts info_dig
                clear hbw80 hkw80)
             | (refine wpList_load_blk rfl 23 _ rfl (w5.heap.size) rfl _ 23 Ktw80.out _ Tryd.underlying23 rfl 32 size_digest HS.out.size ?_)
             | (refine wpList_build_one rfl _ rfl rfl HS.out ?_)
             | (
                at_builtin
                refine wpList_append_dig rfl _ _ rfl Tryd.underlying27 hi0 hz0 zD_cells32 hz1 hz2 rfl HOa.out rfl HK1.out HS.out (by omega) (by rw [World.size_alloc]; omega) ?_
                intro v5 w85 own5 hg5 b5
                have HO85 := hid own5
                have HB85 := hid (HBa.out.trans (b5.mono (by omega)))
                have Ki85 := hid (Kia.out.belowB (by omega) b5)
                have Kp85 := hid (Kpa.out.belowB (by omega) b5)
                have Kx85 := hid (Kxa.out.belowB (by omega) b5)
                have Kq85 := hid (Kqa.out.belowB (by omega) b5)
                clear own5 hg5 b5)
             | (
                refine wpList_store_cell rfl 27 _ _ rfl (w1.heap.size + 1) 32 v5 rfl rfl (own_one HO85.out).1 (own_one HO85.out).2 (prC (setK dk kk) v).toArray 46 Kq85.out (by rw [prC_size (HDg.out.setK kk)]; omega) (by kernel_rfl) ?_
                rw [prC_put (HDg.out.setK kk).len]
                intro w86 hb86 hk86
                have HBw86 := hid (hb86.below HB85.out HB85.out.size (by omega))
                have HO86 := hid (OwnD.keptB hb86 HO85.out (by omega))
                have Kiw86 := hid (hb86.blk Ki85.out (by omega))
                have Kpw86 := hid (hb86.blk Kp85.out (by omega))
                have Kxw86 := hid (hb86.blk Kx85.out (by omega))
                have Kqw86 := hid hk86
                clear hb86 hk86))
          rw [if_neg HDE.out] at HDK HNK
          exact ⟨⟨j + 1, by omega, by have := HKK.out; first | rfl | (congr 1; omega), ⟨_, _, _, rfl, by assumption, fun W hW => HPT.out ▸ (HLR.out W hW).2⟩, ⟨v5, by rw [HNK.out]; exact HO86.out, by rw [HDK.out]; exact Kqw86.out⟩, Kiw86.out, Kpw86.out, Kxw86.out, HBw86.out⟩, by have := HKK.out; simp [intOf]; omega⟩
    · skip
      have hj256 : j = 256 := by omega
      have hkk : (255 - (j : Int)) = -1 := by omega
      rw [hkk]
      subst hj256
      have HPF := hid ((proof_of fs i).perm (apart_of (fun x hx => (HE.out.each x hx).1) (List.pairwise_map.1 hnf)) HPM.out)
      have HDg := hid (Dg.dK fs i 256)
      have hnl := nK_len fs i 256
      generalize dK fs i 256 = dk at *
      generalize nK fs i 256 = nk at *
      obtain ⟨av, cv, rfl, -, -⟩ := HOv.out.digs
      obtain ⟨N, hN⟩ : ∃ N, N = nk.length := ⟨_, rfl⟩
      rw [← hN] at HOv Kqwr
      clear hN
      have cn : wr.cell? ⟨w1.heap.size + 1, 32, none⟩ = some (.slice av N cv) := prC_nodes HDg.out Kqwr.out
      go_wp2_with fail
      refine (reverse_any av N cv _ nk _ HOv.out (by omega)).mono ?_
      rintro e w7 ⟨rfl, ho7, hb7⟩
      have HO7 := hid ho7
      have Kq7 := hid (hb7.blk Kqwr.out (own_low HOv.out (by omega)))
      have Kp7 := hid (hb7.blk Kpwr.out (own_low HOv.out (by omega)))
      have HB7 := hid (hb7.below HBwr.out HBwr.out.size (fun b hb => by have := own_from HOv.out b hb; omega))
      clear ho7 hb7 cn
      go_wp2_with (first
       | (refine wpList_load_blk rfl 46 _ rfl (w1.heap.size + 1) rfl _ 46 Kq7.out _ Tryd.underlying46 rfl 33 size_proof (prC_size HDg.out _) ?_)
       | (
        refine wpList_store_blk rfl 46 _ _ rfl (w.heap.size + 1) (prC dk (.slice av N cv)).toArray rfl rfl _ 46 Kp7.out 33 size_proof rfl (prC_size HDg.out _) (prC_one _ _ _ _) ?_
        intro w9 hb9 hk9
        have HB9 := hid (hb9.below (Hb1.out.trans (HB7.out.mono hs1)) (by have := HB7.out.size; omega) (by omega))
        have HO9 := hid ((OwnD.keptB hb9 HO7.out (by omega)).re (base' := w.heap.size) (by omega))
        have HK9 := hid hk9
        clear hb9 hk9))
      exact bodyPost_ret (v := .tuple #[.agg (prC dk (.slice av N cv)).toArray, .int .i64 0]) (results_blk_tmp Tryd.results26 _ (w.heap.size + 1) rfl _ rfl _ 46 HK9.out _ Tryd.underlying46 rfl 33 size_proof (prC_size HDg.out _)) rfl ⟨_, _, _, rfl, HDg.out, HO9.out, HPF.out, HB9.out⟩
end Go.Proofs.YthaicocfbmpnmaaDoor
namespace Go.Proofs.YthaicocfbmpnmaaDoor
set_option maxRecDepth 100000
open Go.ChangeShapes Go.WideShapes Go.ChangeAt Go.RowKit
/-- What a proof shows of an entry. -/
theorem proof_there {es : List EntT} {i d : List Int} {ns : List (List Int)} (h : ProofT es i d ns) (he : ∀ x ∈ es, Dg x.1) (hn : (es.map Prod.fst).Nodup) {c : List Int} (hx : (i, c) ∈ es) : climbK d i ns (leafE i c) 256 = nodeT 256 es := by
  have h1 := h.leads
  rw [way_there he hn hx] at h1
  exact h1
theorem proof_none {es : List EntT} {i d : List Int} {ns : List (List Int)} (h : ProofT es i d ns) (he : ∀ x ∈ es, Dg x.1) (hi : Dg i) (hx : ∀ x ∈ es, x.1 ≠ i) : climbK d i ns (emptyL 0) 256 = nodeT 256 es := by
  have h1 := h.leads
  rw [way_none he hi hx] at h1
  exact h1
def thereB (es : List EntT) (i : List Int) (k : Nat) : Bool := (es.take k).any fun x => decide (x.1 = i)
theorem there_zero (es : List EntT) (i : List Int) : thereB es i 0 = false := rfl
theorem there_step {es : List EntT} {i : List Int} {k : Nat} (hk : k < es.length) : thereB es i (k + 1) = (thereB es i k || decide ((es.getD k ([], [])).1 = i)) := by
  unfold thereB
  rw [List.take_succ_eq_append_getElem hk, List.any_append, List.getD_eq_getElem?_getD, List.getElem?_eq_getElem hk]
  simp
theorem there_all {es : List EntT} {i : List Int} (h : thereB es i es.length = false) : ∀ x ∈ es, x.1 ≠ i := by
  unfold thereB at h
  rw [List.take_length] at h
  intro x hx he
  rw [List.any_eq_false] at h
  exact h x hx (by simpa using he)
set_option maxHeartbeats 4000000 in
theorem shows_far (a : Option Addr) (len cap : Nat) (es : List (List Int × List Int)) (i : List Int) (w : World) (hE : EntsAt w a len cap es) (_hi : Dg i) (tab : ShaTab w) (hmx : 20 < len) :
    Calls Tryd.prog 8 #[.slice a len cap, .agg (i.map (Value.int .u8)).toArray] w fun e w' => e = .returned (.bool true) ∧ Below w.heap.size w w' := by
  have b1 := (Below.refl w.heap.size w).alloc (Nat.le_refl _) (.cells (i.map (Value.int .u8)).toArray 23 (0, 0))
  have Ki := hid (Blk.new (w := w) (n := w.heap.size) rfl (i.map (Value.int .u8)).toArray 23)
  have Hb := hid b1
  have hbz := b1.size
  have Hbs := hid (show w.heap.size + 1 = (w.alloc (.cells (i.map (Value.int .u8)).toArray 23 (0, 0))).heap.size by simp only [World.size_alloc])
  have Htab := hid tab
  clear b1 tab 
  have HE := hid hE
  clear hE
  have hc : (20 : Int) < (len : Int) := by omega
  go_enter Tryd.func8, Tryd.ntmps8
  go_wp2_with fail
  refine (knows18 _ (Htab.out.below Hb.out)).mono ?_
  rintro e w1 ⟨rfl, bw1⟩
  have HBw1 := hid (Below.on Hb.out bw1)
  have hsw1 := HBw1.out.size
  have Kiw1 := hid (Ki.out.below bw1)
  clear bw1
  go_wp2_with fail
  go_returns
  exact ⟨by first | rfl | simp, HBw1.out⟩
set_option maxHeartbeats 4000000 in
theorem shows_dup (a : Option Addr) (len cap : Nat) (es : List (List Int × List Int)) (i : List Int) (w : World) (hE : EntsAt w a len cap es) (hi : Dg i) (tab : ShaTab w) (hmx : len ≤ 20) (hnf : ¬ (es.map Prod.fst).Nodup) :
    Calls Tryd.prog 8 #[.slice a len cap, .agg (i.map (Value.int .u8)).toArray] w fun e w' => e = .returned (.bool true) ∧ Below w.heap.size w w' := by
  have b1 := (Below.refl w.heap.size w).alloc (Nat.le_refl _) (.cells (i.map (Value.int .u8)).toArray 23 (0, 0))
  have Ki := hid (Blk.new (w := w) (n := w.heap.size) rfl (i.map (Value.int .u8)).toArray 23)
  have Hb := hid b1
  have hbz := b1.size
  have Hbs := hid (show w.heap.size + 1 = (w.alloc (.cells (i.map (Value.int .u8)).toArray 23 (0, 0))).heap.size by simp only [World.size_alloc])
  have Htab := hid tab
  clear b1 tab 
  have HE := hid hE
  clear hE
  have hc : ¬ (20 : Int) < (len : Int) := by omega
  go_enter Tryd.func8, Tryd.ntmps8
  go_wp2_with fail
  refine (root_dup a len cap es _ (HE.out.below Hb.out) (by omega) (Htab.out.below Hb.out) hnf).mono ?_
  rintro e w1 ⟨rfl, bw1⟩
  have HBw1 := hid (Below.on Hb.out bw1)
  have hsw1 := HBw1.out.size
  have Kiw1 := hid (Ki.out.below bw1)
  clear bw1
  go_wp2_with (first
     | (
        refine wpList_store_blk rfl 23 _ _ rfl (w1.heap.size) (zD.map (Value.int .u8)).toArray rfl rfl _ 23 (Blk.new rfl (byteCells 32 []) _) 32 size_digest zsize Dg.zero.size (ints_one _ _) ?_
        intro w2 hbw2 hkw2
        have hw2 := hbw2.below ((Below.refl w1.heap.size w1).alloc (Nat.le_refl _) _) (by simp only [World.size_alloc]; omega) (Nat.le_refl _)
        have HBw2 := hid (Below.on HBw1.out hw2)
        have hsw2 := HBw2.out.size
        have Kiw2 := hid (Kiw1.out.below hw2)
        have hliw2 := Kiw1.out.lt
        have Krw2 := hid hkw2
        have hfw2 : w.heap.size ≤ w1.heap.size := HBw1.out.size
        clear hbw2 hkw2 hw2)
     | (refine wpList_load_blk rfl 23 _ rfl (w.heap.size) rfl _ 23 Kiw2.out _ Tryd.underlying23 rfl 32 size_digest hi.size ?_))
  refine (prove_dup a len cap es i _ (HE.out.below HBw2.out) (by omega) hnf).mono ?_
  rintro e w3 ⟨rfl, bw3⟩
  have HBw3 := hid (Below.on HBw2.out bw3)
  have hsw3 := HBw3.out.size
  have Kiw3 := hid (Kiw2.out.below bw3)
  have Krw3 := hid (Krw2.out.below bw3)
  clear bw3
  go_wp2_with (
        refine wpList_store_blk rfl 46 _ _ rfl (w3.heap.size) #[.int .u8 0, .int .u8 0, .int .u8 0, .int .u8 0, .int .u8 0, .int .u8 0, .int .u8 0, .int .u8 0, .int .u8 0, .int .u8 0, .int .u8 0, .int .u8 0, .int .u8 0, .int .u8 0, .int .u8 0, .int .u8 0, .int .u8 0, .int .u8 0, .int .u8 0, .int .u8 0, .int .u8 0, .int .u8 0, .int .u8 0, .int .u8 0, .int .u8 0, .int .u8 0, .int .u8 0, .int .u8 0, .int .u8 0, .int .u8 0, .int .u8 0, .int .u8 0, .slice none 0 0] rfl rfl _ 46 (Blk.new rfl #[.int .u8 0, .int .u8 0, .int .u8 0, .int .u8 0, .int .u8 0, .int .u8 0, .int .u8 0, .int .u8 0, .int .u8 0, .int .u8 0, .int .u8 0, .int .u8 0, .int .u8 0, .int .u8 0, .int .u8 0, .int .u8 0, .int .u8 0, .int .u8 0, .int .u8 0, .int .u8 0, .int .u8 0, .int .u8 0, .int .u8 0, .int .u8 0, .int .u8 0, .int .u8 0, .int .u8 0, .int .u8 0, .int .u8 0, .int .u8 0, .int .u8 0, .int .u8 0, .slice none 0 0] _) 33 size_proof rfl rfl (by decide +kernel) ?_
        intro w4 hbw4 hkw4
        have hw4 := hbw4.below ((Below.refl w3.heap.size w3).alloc (Nat.le_refl _) _) (by simp only [World.size_alloc]; omega) (Nat.le_refl _)
        have HBw4 := hid (Below.on HBw3.out hw4)
        have hsw4 := HBw4.out.size
        have Kiw4 := hid (Kiw3.out.below hw4)
        have hliw4 := Kiw3.out.lt
        have Krw4 := hid (Krw3.out.below hw4)
        have hlrw4 := Krw3.out.lt
        have Kpw4 := hid hkw4
        have hfw4 : w.heap.size ≤ w3.heap.size := HBw3.out.size
        clear hbw4 hkw4 hw4)
  refine (knows18 _ (Htab.out.below HBw4.out)).mono ?_
  rintro e w5 ⟨rfl, bw5⟩
  have HBw5 := hid (Below.on HBw4.out bw5)
  have hsw5 := HBw5.out.size
  have Kiw5 := hid (Kiw4.out.below bw5)
  have Krw5 := hid (Krw4.out.below bw5)
  have Kpw5 := hid (Kpw4.out.below bw5)
  clear bw5
  go_wp2_with fail
  go_returns
  exact ⟨by first | rfl | simp, HBw5.out⟩
set_option maxHeartbeats 4000000 in
theorem shows_good (a : Option Addr) (len cap : Nat) (es : List (List Int × List Int)) (i : List Int) (w : World) (hE : EntsAt w a len cap es) (hi : Dg i) (tab : ShaTab w) (hmx : len ≤ 20) (hnf : (es.map Prod.fst).Nodup) :
    Calls Tryd.prog 8 #[.slice a len cap, .agg (i.map (Value.int .u8)).toArray] w fun e w' => e = .returned (.bool true) ∧ Below w.heap.size w w' := by
  have b1 := (Below.refl w.heap.size w).alloc (Nat.le_refl _) (.cells (i.map (Value.int .u8)).toArray 23 (0, 0))
  have Ki := hid (Blk.new (w := w) (n := w.heap.size) rfl (i.map (Value.int .u8)).toArray 23)
  have Hb := hid b1
  have hbz := b1.size
  have Hbs := hid (show w.heap.size + 1 = (w.alloc (.cells (i.map (Value.int .u8)).toArray 23 (0, 0))).heap.size by simp only [World.size_alloc])
  have Htab := hid tab
  clear b1 tab 
  have HE := hid hE
  clear hE
  have hc : ¬ (20 : Int) < (len : Int) := by omega
  have hlen := HE.out.length
  go_enter Tryd.func8, Tryd.ntmps8
  go_wp2_with fail
  have HX := hid (Dg.nodeT 256 es HE.out.each)
  refine (root_good a len cap es _ (HE.out.below Hb.out) (by omega) (Htab.out.below Hb.out) hnf).mono ?_
  rintro e w1 ⟨rfl, bw1⟩
  have HBw1 := hid (Below.on Hb.out bw1)
  have hsw1 := HBw1.out.size
  have Kiw1 := hid (Ki.out.below bw1)
  clear bw1
  have HXE := hid (show ∃ X, X = nodeT 256 es from ⟨_, rfl⟩)
  obtain ⟨X, hX⟩ := HXE.out
  rw [← hX] at HX ⊢
  have HXX := hid hX
  clear hX HXE
  go_wp2_with (first
     | (
        refine wpList_store_blk rfl 23 _ _ rfl (w1.heap.size) (X.map (Value.int .u8)).toArray rfl rfl _ 23 (Blk.new rfl (byteCells 32 []) _) 32 size_digest zsize HX.out.size (ints_one _ _) ?_
        intro w2 hbw2 hkw2
        have hw2 := hbw2.below ((Below.refl w1.heap.size w1).alloc (Nat.le_refl _) _) (by simp only [World.size_alloc]; omega) (Nat.le_refl _)
        have HBw2 := hid (Below.on HBw1.out hw2)
        have hsw2 := HBw2.out.size
        have Kiw2 := hid (Kiw1.out.below hw2)
        have hliw2 := Kiw1.out.lt
        have Krw2 := hid hkw2
        have hfw2 : w.heap.size ≤ w1.heap.size := HBw1.out.size
        clear hbw2 hkw2 hw2)
     | (refine wpList_load_blk rfl 23 _ rfl (w.heap.size) rfl _ 23 Kiw2.out _ Tryd.underlying23 rfl 32 size_digest hi.size ?_))
  refine (prove_good a len cap es i _ (HE.out.below HBw2.out) (by omega) hnf hi (Htab.out.below HBw2.out)).mono ?_
  rintro e v1 ⟨d, v, ns, rfl, hd, ho, hp, bv1⟩
  have HBv1 := hid (Below.on HBw2.out bv1)
  have hsv1 := HBv1.out.size
  have Kiv1 := hid (Kiw2.out.below bv1)
  have Krv1 := hid (Krw2.out.below bv1)
  have HDd := hid hd
  have HPT := hid hp
  obtain ⟨av, cv, rfl, hds, -⟩ := ho.digs
  have HDS := hid hds
  have HCN := hid hp.count
  clear hd hp ho hds bv1
  obtain ⟨N, hN⟩ : ∃ N, N = ns.length := ⟨_, rfl⟩
  rw [← hN] at HDS HCN ⊢
  have HN := hid hN
  clear hN
  go_wp2_with (
        refine wpList_store_blk rfl 46 _ _ rfl (v1.heap.size) (prC d (.slice av N cv)).toArray rfl rfl _ 46 (Blk.new rfl #[.int .u8 0, .int .u8 0, .int .u8 0, .int .u8 0, .int .u8 0, .int .u8 0, .int .u8 0, .int .u8 0, .int .u8 0, .int .u8 0, .int .u8 0, .int .u8 0, .int .u8 0, .int .u8 0, .int .u8 0, .int .u8 0, .int .u8 0, .int .u8 0, .int .u8 0, .int .u8 0, .int .u8 0, .int .u8 0, .int .u8 0, .int .u8 0, .int .u8 0, .int .u8 0, .int .u8 0, .int .u8 0, .int .u8 0, .int .u8 0, .int .u8 0, .int .u8 0, .slice none 0 0] _) 33 size_proof rfl (prC_size HDd.out _) (prC_one _ _ _ _) ?_
        intro w3 hbw3 hkw3
        have hw3 := hbw3.below ((Below.refl v1.heap.size v1).alloc (Nat.le_refl _) _) (by simp only [World.size_alloc]; omega) (Nat.le_refl _)
        have HBw3 := hid (Below.on HBv1.out hw3)
        have hsw3 := HBw3.out.size
        have Kiw3 := hid (Kiv1.out.below hw3)
        have hliw3 := Kiv1.out.lt
        have Krw3 := hid (Krv1.out.below hw3)
        have hlrw3 := Krv1.out.lt
        have Kpw3 := hid hkw3
        have hfw3 : w.heap.size ≤ v1.heap.size := HBv1.out.size
        have HDw3 := hid (HDS.out.below hw3)
        clear hbw3 hkw3 hw3)
  have hir := Kiw3.out.lt
  go_loopw [9, 10] (fun tv kv wr => ∃ k : Nat, k ≤ len ∧ kv = .int .i64 k ∧ tv = .bool (thereB es i k) ∧ Blk wr (w.heap.size) (i.map (Value.int .u8)).toArray 23 ∧ Blk wr (w1.heap.size) (X.map (Value.int .u8)).toArray 23 ∧ Blk wr (v1.heap.size) (prC d (.slice av N cv)).toArray 46 ∧ DigsAt wr av N cv ns ∧ Below w.heap.size w wr) (fun _ kv _ => len - (intOf kv).toNat)
  case atStart => exact ⟨0, Nat.zero_le _, rfl, by rw [there_zero], Kiw3.out, Krw3.out, Kpw3.out, HDw3.out, HBw3.out⟩
  case round =>
    obtain ⟨k, hk, rfl, rfl, ki, kr, kp, hds, bel⟩ := hrel
    have Kiwr := hid ki
    have Krwr := hid kr
    have Kpwr := hid kp
    have HDwr := hid hds
    have HBwr := hid bel
    have hswr := bel.size
    clear ki kr kp hds bel
    by_cases hcj : k < len
    · skip
      have hcI : (k : Int) < (len : Int) := by omega
      obtain ⟨x, o, rfl, hx, hc⟩ := HE.out.at_ (by omega)
      have hRg := hc k hcj
      have hme : es.getD k ([], []) ∈ es := by rw [List.getD_eq_getElem?_getD, List.getElem?_eq_getElem (by omega)]; exact List.getElem_mem _
      have hdx := HE.out.each _ hme
      have hst := there_step (es := es) (i := i) (k := k) (by omega)
      have HME := hid hme
      have HST := hid hst
      generalize es.getD k ([], []) = z at *
      obtain ⟨dz, cz⟩ := z
      have HDz := hid hdx.1
      have HDc := hid hdx.2
      dsimp only at HDz HDc hRg HST HME
      have HRa := hid (range_front HDz.out hRg)
      have HRb := hid (range_back HDz.out hRg)
      generalize thereB es i k = tb at *
      clear hc hme hdx hRg hst
      go_wp2_with fail
      have hqq := fun W : World => eqD dz i HDz.out.len hi.len W
      by_cases hdp : dz = i
      · skip
        rw [decide_eq_true hdp] at hqq HST
        have HQ := hid hqq
        have HDP := hid hdp
        clear hqq hdp
        refine wp_region_flow 7 (List.range 7) [] [] (by kernel_rfl) (by kernel_rfl) ?_
        apply Exists.intro
        refine ⟨fun w0 hb0 hF0 => ?_, ?_⟩
        · skip
          have x0 : ∀ w', (∃ x : Ext w0, w' = x.at_) → ∃ T, Blk w' (w.heap.size) (i.map (Value.int .u8)).toArray T := fun w' ⟨x, hx⟩ => ⟨_, hx ▸ (Kiwr.out.below hb0).below x.same⟩
          have xa : ∀ w', (∃ x : Ext w0, w' = x.at_) → w'.rangeAt x (o + k * 64) (dz.map (Value.int .u8)) := fun w' ⟨y, hy⟩ => hy ▸ rangeAt_belowB HRa.out hx (Below.on (Below.on HBwr.out hb0) y.same)
          simp only [pick, List.range, List.range.loop, List.getElem?_toArray, List.getElem?_cons_succ, List.getElem?_cons_zero, Option.toList_some, List.cons_append, List.nil_append]
          repeat (first | (go_big_quiet_want; refine quiet_load_blk 23 _ rfl (w.heap.size) rfl _ x0 _ Tryd.underlying23 rfl 32 size_digest hi.size ?_; go_big_quiet_on; simp only [Act.put, List.setIfInBounds_toArray, List.set_cons_zero, List.set_cons_succ]) | (go_big_quiet_want; refine quiet_index_k 36 _ _ rfl Tryd.underlying36 size_entry x o len cap rfl _ _ rfl k rfl (by omega) ?_; go_big_quiet_on; simp only [Act.put, List.setIfInBounds_toArray, List.set_cons_zero, List.set_cons_succ]) | (go_big_quiet_want; refine quiet_load_mid 23 _ rfl x (o + k * 64) rfl _ xa _ Tryd.underlying23 rfl (by rw [List.length_map, HDz.out.len]; exact size_digest) ?_; go_big_quiet_on; simp only [Act.put, List.setIfInBounds_toArray, List.set_cons_zero, List.set_cons_succ]) | (go_big_quiet_want; refine quiet_cmp _ _ rfl _ _ _ rfl rfl HQ.out ?_; go_big_quiet_on; simp only [Act.put, List.setIfInBounds_toArray, List.set_cons_zero, List.set_cons_succ]) | go_big_quiet_step (fail))
          exact wpQuiet_nil rfl
        refine AlChk.nil ?_
        refine Walk.fin fun w61 hw61 _ _ => ?_
        simp only [List.drop_succ_cons, List.drop_zero]
        have HBw61 := hid (Below.on HBwr.out hw61)
        have hsw61 := HBw61.out.size
        have Kiw61 := hid (Kiwr.out.below hw61)
        have Krw61 := hid (Krwr.out.below hw61)
        have Kpw61 := hid (Kpwr.out.below hw61)
        have HHw61 := hid hw61
        clear hw61
        have HDw61 := hid (HDwr.out.below HHw61.out)
        go_wp2_with fail
        have hIE := HDP.out
        have CP := hid (fun (W : World) (h : DigsAt W av N cv ns) (t : ShaTab W) => present_any X i cz d av N cv ns true W HX.out hi HDc.out HDd.out h t (fun W2 h2 t2 => by
          have h3 := leads_ok (leafE i cz) X i d (climbK d i ns (leafE i cz) 256) av N cv ns W2 (Dg.leafE i cz) HX.out hi HDd.out (Dg.climbK (Dg.leafE i cz) d i ns 256) h2 t2 (fun W3 h4 t4 => climb_good (leafE i cz) i d av N cv ns W3 (Dg.leafE i cz) hi HDd.out HCN.out h4 t4)
          have h5 := proof_there HPT.out (fun x hx => (HE.out.each x hx).1) hnf (c := cz) (by rw [← hIE]; exact HME.out)
          rw [h5, ← HXX.out, decide_eq_true rfl] at h3
          exact h3))
        clear hIE
        refine wp_region_flow 10 (List.range 10) [] [] (by kernel_rfl) (by kernel_rfl) ?_
        apply Exists.intro
        refine ⟨fun w0 hb0 hF0 => ?_, ?_⟩
        · skip
          have x0 : ∀ w', (∃ x : Ext w0, w' = x.at_) → ∃ T, Blk w' (w1.heap.size) (X.map (Value.int .u8)).toArray T := fun w' ⟨x, hx⟩ => ⟨_, hx ▸ (Krw61.out.below hb0).below x.same⟩
          have x1 : ∀ w', (∃ x : Ext w0, w' = x.at_) → ∃ T, Blk w' (w.heap.size) (i.map (Value.int .u8)).toArray T := fun w' ⟨x, hx⟩ => ⟨_, hx ▸ (Kiw61.out.below hb0).below x.same⟩
          have x2 : ∀ w', (∃ x : Ext w0, w' = x.at_) → ∃ T, Blk w' (v1.heap.size) (prC d (.slice av N cv)).toArray T := fun w' ⟨x, hx⟩ => ⟨_, hx ▸ (Kpw61.out.below hb0).below x.same⟩
          have c0 := fun e : Ext w0 => CP.out e.at_ (HDw61.out.below (Below.on hb0 e.same)) (Htab.out.below (Below.on HBw61.out (Below.on hb0 e.same)))
          have xb : ∀ w', (∃ x : Ext w0, w' = x.at_) → w'.rangeAt x (o + k * 64 + 32) (cz.map (Value.int .u8)) := fun w' ⟨y, hy⟩ => hy ▸ rangeAt_belowB HRb.out hx (Below.on (Below.on HBw61.out hb0) y.same)
          simp only [pick, List.range, List.range.loop, List.getElem?_toArray, List.getElem?_cons_succ, List.getElem?_cons_zero, Option.toList_some, List.cons_append, List.nil_append]
          repeat (first | (go_big_quiet_want; refine quiet_load_blk 23 _ rfl (w1.heap.size) rfl _ x0 _ Tryd.underlying23 rfl 32 size_digest HX.out.size ?_; go_big_quiet_on; simp only [Act.put, List.setIfInBounds_toArray, List.set_cons_zero, List.set_cons_succ]) | (go_big_quiet_want; refine quiet_load_blk 23 _ rfl (w.heap.size) rfl _ x1 _ Tryd.underlying23 rfl 32 size_digest hi.size ?_; go_big_quiet_on; simp only [Act.put, List.setIfInBounds_toArray, List.set_cons_zero, List.set_cons_succ]) | (go_big_quiet_want; refine quiet_load_blk 46 _ rfl (v1.heap.size) rfl _ x2 _ Tryd.underlying46 rfl 33 size_proof (prC_size HDd.out _) ?_; go_big_quiet_on; simp only [Act.put, List.setIfInBounds_toArray, List.set_cons_zero, List.set_cons_succ]) | (go_big_quiet_want; refine quiet_index_k 36 _ _ rfl Tryd.underlying36 size_entry x o len cap rfl _ _ rfl k rfl (by omega) ?_; go_big_quiet_on; simp only [Act.put, List.setIfInBounds_toArray, List.set_cons_zero, List.set_cons_succ]) | (go_big_quiet_want; refine quiet_load_mid 23 _ rfl x (o + k * 64 + 32) rfl _ xb _ Tryd.underlying23 rfl (by rw [List.length_map, HDc.out.len]; exact size_digest) ?_; go_big_quiet_on; simp only [Act.put, List.setIfInBounds_toArray, List.set_cons_zero, List.set_cons_succ]) | go_big_quiet_step (first | (go_at_call 31; with_reducible exact Calls.ext (c0 _))))
          exact wpQuiet_nil rfl
        refine AlChk.nil ?_
        refine Walk.fin fun w62 hw62 _ _ => ?_
        simp only [List.drop_succ_cons, List.drop_zero]
        have HBw62 := hid (Below.on HBw61.out hw62)
        have hsw62 := HBw62.out.size
        have Kiw62 := hid (Kiw61.out.below hw62)
        have Krw62 := hid (Krw61.out.below hw62)
        have Kpw62 := hid (Kpw61.out.below hw62)
        have HHw62 := hid hw62
        clear hw62
        have HDw62 := hid (HDw61.out.below HHw62.out)
        go_wp2_with fail
        exact ⟨⟨k + 1, by omega, by first | rfl | simp, by rw [HST.out, Bool.or_true], Kiw62.out, Krw62.out, Kpw62.out, HDw62.out, HBw62.out⟩, by simp [intOf]; omega⟩
      · skip
        rw [decide_eq_false hdp] at hqq HST
        have HQ := hid hqq
        have HDP := hid hdp
        clear hqq hdp
        refine wp_region_flow 7 (List.range 7) [] [] (by kernel_rfl) (by kernel_rfl) ?_
        apply Exists.intro
        refine ⟨fun w0 hb0 hF0 => ?_, ?_⟩
        · skip
          have x0 : ∀ w', (∃ x : Ext w0, w' = x.at_) → ∃ T, Blk w' (w.heap.size) (i.map (Value.int .u8)).toArray T := fun w' ⟨x, hx⟩ => ⟨_, hx ▸ (Kiwr.out.below hb0).below x.same⟩
          have xa : ∀ w', (∃ x : Ext w0, w' = x.at_) → w'.rangeAt x (o + k * 64) (dz.map (Value.int .u8)) := fun w' ⟨y, hy⟩ => hy ▸ rangeAt_belowB HRa.out hx (Below.on (Below.on HBwr.out hb0) y.same)
          simp only [pick, List.range, List.range.loop, List.getElem?_toArray, List.getElem?_cons_succ, List.getElem?_cons_zero, Option.toList_some, List.cons_append, List.nil_append]
          repeat (first | (go_big_quiet_want; refine quiet_load_blk 23 _ rfl (w.heap.size) rfl _ x0 _ Tryd.underlying23 rfl 32 size_digest hi.size ?_; go_big_quiet_on; simp only [Act.put, List.setIfInBounds_toArray, List.set_cons_zero, List.set_cons_succ]) | (go_big_quiet_want; refine quiet_index_k 36 _ _ rfl Tryd.underlying36 size_entry x o len cap rfl _ _ rfl k rfl (by omega) ?_; go_big_quiet_on; simp only [Act.put, List.setIfInBounds_toArray, List.set_cons_zero, List.set_cons_succ]) | (go_big_quiet_want; refine quiet_load_mid 23 _ rfl x (o + k * 64) rfl _ xa _ Tryd.underlying23 rfl (by rw [List.length_map, HDz.out.len]; exact size_digest) ?_; go_big_quiet_on; simp only [Act.put, List.setIfInBounds_toArray, List.set_cons_zero, List.set_cons_succ]) | (go_big_quiet_want; refine quiet_cmp _ _ rfl _ _ _ rfl rfl HQ.out ?_; go_big_quiet_on; simp only [Act.put, List.setIfInBounds_toArray, List.set_cons_zero, List.set_cons_succ]) | go_big_quiet_step (fail))
          exact wpQuiet_nil rfl
        refine AlChk.nil ?_
        refine Walk.fin fun w61 hw61 _ _ => ?_
        simp only [List.drop_succ_cons, List.drop_zero]
        have HBw61 := hid (Below.on HBwr.out hw61)
        have hsw61 := HBw61.out.size
        have Kiw61 := hid (Kiwr.out.below hw61)
        have Krw61 := hid (Krwr.out.below hw61)
        have Kpw61 := hid (Kpwr.out.below hw61)
        have HHw61 := hid hw61
        clear hw61
        have HDw61 := hid (HDwr.out.below HHw61.out)
        go_wp2_with fail
        exact ⟨⟨k + 1, by omega, by first | rfl | simp, by rw [HST.out, Bool.or_false], Kiw61.out, Krw61.out, Kpw61.out, HDw61.out, HBw61.out⟩, by simp [intOf]; omega⟩
    · skip
      have hke : k = len := by omega
      subst hke
      have hcI : ¬ (k : Int) < (k : Int) := by omega
      cases htb : thereB es i k with
      | true =>
        go_wp2_with fail
        refine (knows18 _ (Htab.out.below HBwr.out)).mono ?_
        rintro e w91 ⟨rfl, bw91⟩
        have HBw91 := hid (Below.on HBwr.out bw91)
        have hsw91 := HBw91.out.size
        have Kiw91 := hid (Kiwr.out.below bw91)
        have Krw91 := hid (Krwr.out.below bw91)
        have Kpw91 := hid (Kpwr.out.below bw91)
        clear bw91
        go_wp2_with fail
        go_returns
        exact ⟨by first | rfl | simp, HBw91.out⟩
      | false =>
        have hno := there_all (es := es) (i := i) (by rw [hlen]; exact htb)
        have CA := hid (fun (W : World) (h : DigsAt W av N cv ns) (t : ShaTab W) => absent_any X i d av N cv ns true W HX.out hi HDd.out h t (fun W2 h2 t2 => by
          have h3 := leads_ok (emptyL 0) X i d (climbK d i ns (emptyL 0) 256) av N cv ns W2 (Dg.emptyL 0) HX.out hi HDd.out (Dg.climbK (Dg.emptyL 0) d i ns 256) h2 t2 (fun W3 h4 t4 => climb_good (emptyL 0) i d av N cv ns W3 (Dg.emptyL 0) hi HDd.out HCN.out h4 t4)
          have h5 := proof_none HPT.out (fun x hx => (HE.out.each x hx).1) hi hno
          rw [h5, ← HXX.out, decide_eq_true rfl] at h3
          exact h3))
        clear hno
        go_wp2_with (first
           | (refine wpList_load_blk_if (by first | rfl | go_simp) 23 _ rfl (w1.heap.size) rfl _ 23 Krwr.out _ Tryd.underlying23 rfl 32 size_digest HX.out.size ?_)
           | (refine wpList_load_blk_if (by first | rfl | go_simp) 23 _ rfl (w.heap.size) rfl _ 23 Kiwr.out _ Tryd.underlying23 rfl 32 size_digest hi.size ?_)
           | (refine wpList_load_blk_if (by first | rfl | go_simp) 46 _ rfl (v1.heap.size) rfl _ 46 Kpwr.out _ Tryd.underlying46 rfl 33 size_proof (prC_size HDd.out _) ?_))
        refine (CA.out _ HDwr.out (Htab.out.below HBwr.out)).mono ?_
        rintro e w91 ⟨rfl, bw91⟩
        have HBw91 := hid (Below.on HBwr.out bw91)
        have hsw91 := HBw91.out.size
        have Kiw91 := hid (Kiwr.out.below bw91)
        have Krw91 := hid (Krwr.out.below bw91)
        have Kpw91 := hid (Kpwr.out.below bw91)
        clear bw91
        go_wp2_with fail
        refine (knows18 _ (Htab.out.below HBw91.out)).mono ?_
        rintro e w92 ⟨rfl, bw92⟩
        have HBw92 := hid (Below.on HBw91.out bw92)
        have hsw92 := HBw92.out.size
        have Kiw92 := hid (Kiw91.out.below bw92)
        have Krw92 := hid (Krw91.out.below bw92)
        have Kpw92 := hid (Kpw91.out.below bw92)
        clear bw92
        go_wp2_with fail
        go_returns
        exact ⟨by first | rfl | simp, HBw92.out⟩
set_option maxHeartbeats 4000000 in
theorem proofShows_any (a : Option Addr) (len cap : Nat) (es : List (List Int × List Int)) (i : List Int) (w : World) (hE : EntsAt w a len cap es) (hi : Dg i) (tab : ShaTab w)  :
    Calls Tryd.prog 8 #[.slice a len cap, .agg (i.map (Value.int .u8)).toArray] w fun e w' => e = .returned (.bool true) ∧ Below w.heap.size w w' := by
  rcases Nat.lt_or_ge 20 len with h | h
  · exact shows_far a len cap es i w hE hi tab h
  · by_cases hn : (es.map Prod.fst).Nodup
    · exact shows_good a len cap es i w hE hi tab h hn
    · exact shows_dup a len cap es i w hE hi tab h hn
end Go.Proofs.YthaicocfbmpnmaaDoor
namespace Go.Proofs.YthaicocfbmpnmaaDoor
set_option maxRecDepth 100000
open Go.ChangeShapes Go.WideShapes Go.ChangeAt Go.RowKit
theorem eqFieldsE {P : Program} {d : Nat} {cs ds : Array Value} {f : Field} {fs : List Field} {w : World} {u u' : Value} {T : TypeId} {o : Nat} {b r : Bool} (hn : f.name ≠ "_") (ht : f.type = T) (ho : f.offset = o) (hp : (part T cs o).run P w = .ok u w) (hp' : (part T ds o).run P w = .ok u' w) (he : (Op.equalIn d T u u').run P w = .ok b w) (h : (Op.eqFields d cs ds fs).run P w = .ok r w) :
    (Op.eqFields d cs ds (f :: fs)).run P w = .ok (b && r) w := by
  subst ht ho
  unfold Op.eqFields
  cases b <;> simp [hn, Sem.run_bind, hp, hp', he, h]
theorem part_digE (cs : Array Value) (xs : List Int) (o : Nat) (w : World) (h : cs.extract o (o + 32) = (xs.map (Value.int .u8)).toArray) : (part 23 cs o).run Tryd.prog w = .ok (.agg (xs.map (Value.int .u8)).toArray) w := by
  obtain ⟨i0, hi, hs⟩ := Option.map_eq_some_iff.1 size_digest
  have hagg : (isAgg 23).run Tryd.prog w = .ok true w := by
    unfold isAgg
    simp only [Sem.run_bind, run_underlying Tryd.underlying23, Result.andThen_ok]
    rfl
  unfold part
  simp [Sem.run_bind, hagg, sizeOf, typeInfo, hi, hs, h]
theorem equalIn_digE (d : Nat) (xs : List Int) (hx : xs.length = 32) (w : World) : (Op.equalIn (d + 2) 23 (.agg (xs.map (Value.int .u8)).toArray) (.agg (xs.map (Value.int .u8)).toArray)).run Tryd.prog w = .ok true w := by
  obtain ⟨i0, hi⟩ : ∃ i, Tryd.prog.info? 5 = some i := Option.isSome_iff_exists.1 (by kernel_rfl)
  rw [run_equalIn_array w (d + 1) _ _ Tryd.underlying23 hi, run_eqItems_ints d Tryd.underlying5 (by kernel_rfl) xs xs (by omega) w _ (by simp [hx])]
  simp
theorem ent_ext1 {a b : List Int} (ha : Dg a) : ((entL a b).map (Value.int .u8)).toArray.extract 0 (0 + 32) = (a.map (Value.int .u8)).toArray := by
  rw [List.extract_toArray, List.extract_eq_take_drop]
  unfold entL
  rw [List.drop_zero, Nat.add_sub_cancel_left, List.map_append, List.take_append_of_le_length (by rw [List.length_map, ha.len]; omega), List.take_of_length_le (by rw [List.length_map, ha.len]; omega)]
theorem ent_ext2 {a b : List Int} (ha : Dg a) (hb : Dg b) : ((entL a b).map (Value.int .u8)).toArray.extract 32 (32 + 32) = (b.map (Value.int .u8)).toArray := by
  rw [List.extract_toArray, List.extract_eq_take_drop]
  unfold entL
  rw [Nat.add_sub_cancel_left, List.map_append, List.drop_append, List.length_map, ha.len, List.drop_eq_nil_of_le (by rw [List.length_map, ha.len]; omega), List.nil_append, Nat.sub_self, List.drop_zero, List.take_of_length_le (by rw [List.length_map, hb.len]; omega)]
theorem equalIn_ent (d : Nat) (a b : List Int) (ha : Dg a) (hb : Dg b) (w : World) : (Op.equalIn (d + 3) 25 (.agg ((entL a b).map (Value.int .u8)).toArray) (.agg ((entL a b).map (Value.int .u8)).toArray)).run Tryd.prog w = .ok true w := by
  obtain ⟨f0, f1, hu, t0, t1, o0, o1, n0, n1⟩ : ∃ f0 f1 : Field, Tryd.prog.underlying 25 = some (.struct #[f0, f1]) ∧ f0.type = 23 ∧ f1.type = 23 ∧ f0.offset = 0 ∧ f1.offset = 32 ∧ f0.name ≠ "_" ∧ f1.name ≠ "_" := ⟨_, _, Tryd.underlying25, rfl, rfl, rfl, rfl, by decide, by decide⟩
  have hf : Tryd.prog.fieldsOf 25 = #[f0, f1] := by unfold Program.fieldsOf; rw [hu]
  have a0 := ent_ext1 (b := b) ha
  have a1 := ent_ext2 ha hb
  generalize ((entL a b).map (Value.int .u8)).toArray = cs at *
  rw [run_equalIn_struct w (d + 2) 25 _ _ (by rw [hf]; exact hu) (by kernel_rfl), hf]
  exact eqFieldsE n0 t0 o0 (part_digE cs a 0 w a0) (part_digE cs a 0 w a0) (equalIn_digE d a ha.len w) (eqFieldsE n1 t1 o1 (part_digE cs b 32 w a1) (part_digE cs b 32 w a1) (equalIn_digE d b hb.len w) (show (Op.eqFields (d + 2) cs cs []).run Tryd.prog w = .ok true w from rfl))
/-- An entry isn't unlike itself. -/
theorem ne_ent (a b : List Int) (ha : Dg a) (hb : Dg b) (w : World) : (binOp .neq 25 (.agg ((entL a b).map (Value.int .u8)).toArray) (.agg ((entL a b).map (Value.int .u8)).toArray)).run Tryd.prog w = .ok (.bool false) w := by
  rw [run_neq_struct, equalIn_ent 9997 a b ha hb w]
  rfl
/-- A row with no room. -/
theorem OwnE.bare {w : World} {g base : Nat} (h : Blk w g #[] 25) (hg : base ≤ g) : OwnE w base (.slice (some ⟨g, 0, none⟩) 0 0) [] :=
  ⟨⟨by simp [flatE], .inr ⟨g, 0, #[], rfl, hg, h, Nat.le_refl _, by unfold maxLen; omega, rfl, by simp [flatE]⟩⟩, by simp⟩
theorem run_build_ent0 (w : World) : (Instr.buildSlice 36 0 #[]).run Tryd.prog w = .ok (.slice (some ⟨w.heap.size, 0, none⟩) 0 0) (w.alloc (.cells #[] 25 (0, 0))) := by
  obtain ⟨i0, hi, hz0, hz1, hz2⟩ := info_parts info_ent
  unfold Instr.buildSlice
  simp [Sem.run_bind, run_underlying Tryd.underlying36, sizeOf, typeInfo, hi, newRow, Instr.fill, show Array.range 0 = #[] by simp]
/-- The entries of a row, one behind the other. -/
theorem EntsAt.flat {w : World} {x o len cap : Nat} {es : List (List Int × List Int)} (h : EntsAt w (some ⟨x, o, none⟩) len cap es) (h0 : 0 < len) : ∀ j u, ((flatE es).map (Value.int .u8))[j]? = some u → w.cell? ((⟨x, o, none⟩ : Addr).add j) = some u := by
  obtain ⟨x', o', he, hx, hc⟩ := h.at_ h0
  cases he
  intro j u hu
  have hl := flatE_length h.each
  have hj : j < es.length * 64 := by have := (List.getElem?_eq_some_iff.1 hu).1; rw [List.length_map, hl] at this; exact this
  have hlen := h.length
  have h1 := flatE_at h.each (j / 64) (j % 64) (by omega) (by omega)
  rw [show j / 64 * 64 + j % 64 = j by omega] at h1
  have h2 := hc (j / 64) (by omega) (j % 64) u (by rw [List.getElem?_map, ← h1, ← List.getElem?_map]; exact hu)
  rw [show o + j / 64 * 64 + j % 64 = o + j by omega] at h2
  rw [Addr.add_mid]
  exact h2
/-- All entries of a row more. -/
theorem run_append_ents {w : World} {base : Nat} {v : Value} {es fs : List (List Int × List Int)} (ty : TypeId) (hown : OwnE w base v es) {a : Option Addr} {m c : Nat} (hE : EntsAt w a m c fs) (hb : es.length + m ≤ 1000000000) (hbase : base ≤ w.heap.size) :
    ∃ v' w', (Builtin.append_ #[36, 36] ty #[v, .slice a m c]).run Tryd.prog w = .ok v' w' ∧ OwnE w' base v' (es ++ fs) ∧ w.grownBy w' v.ownBlock ∧ Below base w w' := by
  have hbel : ∀ {w' : World}, w.grownBy w' v.ownBlock → Below base w w' := fun hg => ⟨hg.os, hg.tape, hg.output, hg.size, fun k hk => hg.block k (by omega) (fun e => by have := (hown.lt k e.symm).1; omega)⟩
  obtain ⟨i0, hi, hz0, hz1, hz2⟩ := info_parts info_ent
  have hlen := hE.length
  rcases Nat.eq_zero_or_pos m with h0 | h0
  · subst h0
    obtain rfl := List.eq_nil_of_length_eq_zero hlen
    have hg : w.grownBy w v.ownBlock := ⟨rfl, rfl, rfl, Nat.le_refl _, fun _ _ _ => rfl⟩
    cases a with
    | none =>
      refine ⟨v, w, ?_, by rw [List.append_nil]; exact hown, hg, hbel hg⟩
      rcases hown.row.2 with ⟨rfl, -⟩ | ⟨g, cap, cur, rfl, -, -, hnc, -⟩
      · simp [Builtin.append_, run_underlying Tryd.underlying36, sizeOf, typeInfo, hi, Builtin.lenOf, Builtin.firstCells]
      · simp [Builtin.append_, run_underlying Tryd.underlying36, sizeOf, typeInfo, hi, Builtin.lenOf, Builtin.firstCells, hnc, storeCells]
    | some ad =>
      obtain ⟨v', w', h1, h2, h3, _⟩ := run_append_own (P := Tryd.prog) w base 36 ty 25 i0 (.agg ((entL zD zD).map (Value.int .u8)).toArray) 64 64 Tryd.underlying36 hi hz0 hz1 hz2 (two_size Dg.zero Dg.zero) (by omega) v es.length _ hown.row ad 0 c [] rfl (fun j u hu => by simp at hu) (fun u hu => by simp at hu) (by unfold maxLen; omega) (by omega) hbase
      exact ⟨v', w', h1, ⟨by rw [List.append_nil]; simpa using h2, by rw [List.append_nil]; exact hown.each⟩, h3, hbel h3⟩
  · obtain ⟨x, o, rfl, hx, hc⟩ := hE.at_ h0
    obtain ⟨v', w', h1, h2, h3, _⟩ := run_append_own (P := Tryd.prog) w base 36 ty 25 i0 (.agg ((entL zD zD).map (Value.int .u8)).toArray) 64 64 Tryd.underlying36 hi hz0 hz1 hz2 (two_size Dg.zero Dg.zero) (by omega) v es.length _ hown.row ⟨x, o, none⟩ m c ((flatE fs).map (Value.int .u8)) (by rw [List.length_map, flatE_length hE.each, hlen]) (hE.flat h0) (fun u hu => by
      simp only [List.mem_map] at hu
      obtain ⟨_, _, rfl⟩ := hu
      rfl) (by unfold maxLen; omega) (by omega) hbase
    refine ⟨v', w', h1, ⟨?_, ?_⟩, h3, hbel h3⟩
    · rw [show (flatE (es ++ fs)) = flatE es ++ flatE fs by simp [flatE], List.map_append, List.length_append, hlen]
      exact h2
    · intro d hd
      rcases List.mem_append.1 hd with h | h
      · exact hown.each d h
      · exact hE.each d h
theorem guard_ent : Tryd.prog.eqGuardType Tryd.prog.depth 25 = false := by kernel_rfl
/-- two entries are compared, and the outcome is known -/
theorem quiet_cmpE {op : Oper} {a : Act} {C : World → Prop} {K : Act → Prop} {bop : BinOp} {tr : TypeId} (x y : Operand) (ho : op.op = .binOp bop 25 x y tr) (xs ys : Array Value) (v : Value) (hx : a.eval x = .agg xs) (hy : a.eval y = .agg ys)
    (hr : ∀ W : World, (binOp bop 25 (.agg xs) (.agg ys)).run Tryd.prog W = .ok v W) (h : K (a.put op.dst v)) : op.quiet Tryd.prog a C K :=
  ⟨v, fun w' _ => by
    unfold Oper.quietAt execOp
    simp only [ho, hx, hy, Sem.run_bind, Sem.run_pure, Result.andThen_ok, run_eqGuard_agg w' bop 25 x y xs ys guard_ent, hr w']
    simp [Oper.quietUpon], h⟩
theorem wpList_load_midI {P : Program} {ops : Array Oper} {rest : List Oper} {op : Oper} {a : Act} {w : World} {Q : Exit → Act → World → Prop} (hw : Region.wanted op (yielded ops a.tmps) = true) (ty : TypeId) (x : Operand) (ho : op.op = .load ty x) (b o : Nat) (hx : a.eval x = .pointer (some ⟨b, o, none⟩)) (cs : List Value) (d : TypeDesc) (hk : w.rangeAt b o cs)
    (hu : P.underlying ty = some d) (hd : d.isRow = true) (hi : (P.info? ty).map (·.size) = some cs.length)
    (h : wpList P ops Q rest (a.put op.dst (.agg cs.toArray)) w) : wpList P ops Q (op :: rest) a w := by
  unfold wpList
  rw [if_pos hw]
  exact .inl (wp_load_mid ty x ho b o hx cs d hk hu hd hi h)
theorem exec_build_ent0 {o : Oper} {A : Act} {w : World} (ho : o.op = .buildSlice 36 0 #[]) : (execOp A.eval o).run Tryd.prog w = .ok (.value (.slice (some ⟨w.heap.size, 0, none⟩) 0 0)) (w.alloc (.cells #[] 25 (0, 0))) := by
  have h := run_build_ent0 w
  unfold execOp
  simp only [ho, List.map_toArray, List.map_nil, Sem.run_bind, h, Result.andThen_ok, Sem.run_pure]
theorem wpList_build_ent0 {ops : Array Oper} {rest : List Oper} {o : Oper} {A : Act} {w : World} {Q : Exit → Act → World → Prop} (hgd : o.guard = none) (ho : o.op = .buildSlice 36 0 #[])
    (h : wpList Tryd.prog ops Q rest (A.put o.dst (.slice (some ⟨w.heap.size, 0, none⟩) 0 0)) (w.alloc (.cells #[] 25 (0, 0)))) : wpList Tryd.prog ops Q (o :: rest) A w :=
  wpList_plain hgd fun K hK => by
    unfold Oper.wp
    rw [exec_build_ent0 ho, Oper.upon_value]
    exact hK _ _ h
theorem wpList_append_ents {ops : Array Oper} {rest : List Oper} {o : Oper} {A : Act} {w : World} {Q : Exit → Act → World → Prop} {base : Nat} {v : Value} {es fs : List (List Int × List Int)} (hgd : o.guard = none) (s x : Operand) (ho : o.op = .call { callee := .builtin .append, args := #[s, x], argTypes := #[36, 36] })
    (hs : A.eval s = v) (hown : OwnE w base v es) {a : Option Addr} {m c : Nat} (hx : A.eval x = .slice a m c) (hE : EntsAt w a m c fs) (hb : es.length + m ≤ 1000000000) (hbase : base ≤ w.heap.size)
    (h : ∀ v' w', OwnE w' base v' (es ++ fs) → Below base w w' → wpList Tryd.prog ops Q rest (A.put o.dst v') w') : wpList Tryd.prog ops Q (o :: rest) A w :=
  wpList_plain hgd fun K hK => by
    obtain ⟨v', w', hr, h2, h3, h4⟩ := run_append_ents o.type hown hE hb hbase
    unfold Oper.wp execOp
    simp only [ho, resolve, invoke, builtin, Sem.run_bind, Sem.run_pure, Result.andThen_ok, List.map_toArray, List.map_cons, List.map_nil, hs, hx, hr, Oper.upon_value]
    exact hK _ _ (h v' w' h2 h4)
theorem OwnE.typed {w w' : World} {B base : Nat} {v : Value} {es : List (List Int × List Int)} (h : OwnE w base v es) (hB : B ≤ base) (hg : w.grownBy w' v.ownBlock) : FlowB.Typed B 25 w w' :=
  FlowB.Typed.of_grown hg fun q hq => by
    obtain ⟨⟨_, ⟨rfl, _⟩ | ⟨g, cap, cur, rfl, hge, hh, _⟩⟩, _⟩ := h
    · cases hq
    · cases hq
      exact ⟨Nat.le_trans hB hge, cur, _, hh⟩
theorem ent_row {w : World} {base : Nat} {v : Value} {es : List (List Int × List Int)} (h : OwnE w base v es) : ∃ a c, v = .slice a es.length c ∧ EntsAt w a es.length c es := h.ents
/-- A row turned. -/
def turnE (es : List EntT) (k : Nat) : List EntT := es.drop k ++ es.take k
theorem turn_perm (es : List EntT) (k : Nat) : es.Perm (turnE es k) := by
  have h : (es.take k ++ es.drop k).Perm (turnE es k) := List.perm_append_comm
  rwa [List.take_append_drop] at h
theorem turn_len (es : List EntT) (k : Nat) : (turnE es k).length = es.length := (turn_perm es k).length_eq.symm
set_option maxHeartbeats 4000000 in
theorem turns_far (a : Option Addr) (len cap : Nat) (es : List (List Int × List Int)) (at_ : Int) (i : List Int) (w : World) (hE : EntsAt w a len cap es) (_hat : 0 ≤ at_ ∧ at_ < 256) (_hi : Dg i) (tab : ShaTab w) (hmx : 12 < len) :
    Calls Tryd.prog 6 #[.slice a len cap, .int .u8 at_, .agg (i.map (Value.int .u8)).toArray] w fun e w' => e = .returned (.bool true) ∧ Below w.heap.size w w' := by
  have b1 := (Below.refl w.heap.size w).alloc (Nat.le_refl _) (.cells (i.map (Value.int .u8)).toArray 23 (0, 0))
  have Ki := hid (Blk.new (w := w) (n := w.heap.size) rfl (i.map (Value.int .u8)).toArray 23)
  have Hb := hid b1
  have hbz := b1.size
  have Hbs := hid (show w.heap.size + 1 = (w.alloc (.cells (i.map (Value.int .u8)).toArray 23 (0, 0))).heap.size by simp only [World.size_alloc])
  have Htab := hid tab
  clear b1 tab 
  have HE := hid hE
  clear hE
  have hc : (12 : Int) < (len : Int) := by omega
  go_enter Tryd.func6, Tryd.ntmps6
  go_wp2_with fail
  refine (knows17 _ (Htab.out.below Hb.out)).mono ?_
  rintro e w1 ⟨rfl, bw1⟩
  have HBw1 := hid (Below.on Hb.out bw1)
  have hsw1 := HBw1.out.size
  have Kiw1 := hid (Ki.out.below bw1)
  clear bw1
  go_wp2_with fail
  go_returns
  exact ⟨by first | rfl | simp, HBw1.out⟩
set_option maxHeartbeats 4000000 in
theorem turns_void (a : Option Addr) (len cap : Nat) (es : List (List Int × List Int)) (at_ : Int) (i : List Int) (w : World) (hE : EntsAt w a len cap es) (_hat : 0 ≤ at_ ∧ at_ < 256) (_hi : Dg i) (tab : ShaTab w) (hmx : len = 0) :
    Calls Tryd.prog 6 #[.slice a len cap, .int .u8 at_, .agg (i.map (Value.int .u8)).toArray] w fun e w' => e = .returned (.bool true) ∧ Below w.heap.size w w' := by
  have b1 := (Below.refl w.heap.size w).alloc (Nat.le_refl _) (.cells (i.map (Value.int .u8)).toArray 23 (0, 0))
  have Ki := hid (Blk.new (w := w) (n := w.heap.size) rfl (i.map (Value.int .u8)).toArray 23)
  have Hb := hid b1
  have hbz := b1.size
  have Hbs := hid (show w.heap.size + 1 = (w.alloc (.cells (i.map (Value.int .u8)).toArray 23 (0, 0))).heap.size by simp only [World.size_alloc])
  have Htab := hid tab
  clear b1 tab 
  have HE := hid hE
  clear hE
  subst hmx
  go_enter Tryd.func6, Tryd.ntmps6
  go_wp2_with fail
  refine (knows17 _ (Htab.out.below Hb.out)).mono ?_
  rintro e w1 ⟨rfl, bw1⟩
  have HBw1 := hid (Below.on Hb.out bw1)
  have hsw1 := HBw1.out.size
  have Kiw1 := hid (Ki.out.below bw1)
  clear bw1
  go_wp2_with fail
  go_returns
  exact ⟨by first | rfl | simp, HBw1.out⟩
set_option maxHeartbeats 4000000 in
theorem turns_good (a : Option Addr) (len cap : Nat) (es : List (List Int × List Int)) (at_ : Int) (i : List Int) (w : World) (hE : EntsAt w a len cap es) (hat : 0 ≤ at_ ∧ at_ < 256) (hi : Dg i) (tab : ShaTab w) (hmx : len ≤ 12) (h0 : 0 < len) (hnf : (es.map Prod.fst).Nodup) :
    Calls Tryd.prog 6 #[.slice a len cap, .int .u8 at_, .agg (i.map (Value.int .u8)).toArray] w fun e w' => e = .returned (.bool true) ∧ Below w.heap.size w w' := by
  have b1 := (Below.refl w.heap.size w).alloc (Nat.le_refl _) (.cells (i.map (Value.int .u8)).toArray 23 (0, 0))
  have Ki := hid (Blk.new (w := w) (n := w.heap.size) rfl (i.map (Value.int .u8)).toArray 23)
  have Hb := hid b1
  have hbz := b1.size
  have Hbs := hid (show w.heap.size + 1 = (w.alloc (.cells (i.map (Value.int .u8)).toArray 23 (0, 0))).heap.size by simp only [World.size_alloc])
  have Htab := hid tab
  clear b1 tab 
  have HE := hid hE
  clear hE
  obtain ⟨k, hk⟩ : ∃ k : Nat, (k : Int) = at_ % (len : Int) := ⟨(at_ % (len : Int)).toNat, Int.toNat_of_nonneg (Int.emod_nonneg _ (by omega))⟩
  have hkl : k < len := by have := Int.emod_lt_of_pos at_ (show (0 : Int) < len by omega); omega
  have hlen := HE.out.length
  have hsplit := HE.out
  rw [← List.take_append_drop k es] at hsplit
  have htk : (es.take k).length = k := by rw [List.length_take]; omega
  have hEL := hsplit.head
  have hER := hsplit.tail
  rw [htk] at hEL hER
  have HEL := hid hEL
  have HER := hid hER
  have hml := turn_len es k
  have hpm := turn_perm es k
  have HPM := hid hpm
  have HLM := hid (show (turnE es k).length = len by rw [hml, hlen])
  have HTE := hid (show turnE es k = es.drop k ++ es.take k from rfl)
  clear hsplit hEL hER hml hpm
  have hc : ¬ (12 : Int) < (len : Int) := by omega
  have hc0 : ¬ (len : Int) = 0 := by omega
  have hc1 : ((len : Int) == 0) = false := by simp; omega
  go_enter Tryd.func6, Tryd.ntmps6
  go_wp2_with fail
  rw [← hk]
  have hle := HE.out.le
  have HBB : Hid (w.heap.size + 1 ≤ (w.alloc (.cells (i.map (Value.int .u8)).toArray 23 (0, 0))).heap.size) := hid (Nat.le_of_eq Hbs.out)
  clear hk
  refine FlowB.wp_region_typed (w.heap.size + 1) 25 9 [1, 2, 3, 5, 6, 7] [] [(.c 0, [], []), (.c 4, [], []), (.c 8, [], [])] (by kernel_rfl) (by kernel_rfl) ?_
  apply Exists.intro
  refine ⟨fun w0 hb0 hF0 => ?_, ?_⟩
  · simp only [pick, List.getElem?_toArray, List.getElem?_cons_succ, List.getElem?_cons_zero, Option.toList_some, List.cons_append, List.nil_append]
    repeat (first | (go_big_quiet_want; refine quiet_cute_h _ _ rfl a len cap k _ rfl rfl rfl (by omega) ?_; go_big_quiet_on; simp only [Act.put, List.setIfInBounds_toArray, List.set_cons_zero, List.set_cons_succ]) | (go_big_quiet_want; refine quiet_cute_l _ _ rfl a len cap k _ rfl rfl rfl (by omega) ?_; go_big_quiet_on; simp only [Act.put, List.setIfInBounds_toArray, List.set_cons_zero, List.set_cons_succ]) | go_big_quiet_step (fail))
    exact wpQuiet_nil rfl
  refine FlowB.AlChk.nil ?_
  refine FlowB.Walk.does rfl (fun _ _ => True) (fun v w' => OwnE w' (w.heap.size + 1) v []) (fun v w' w'' _ h _ => h) (fun v w' w'' h k => h.below k) rfl (fun w5 hb5 hF5 _ => ?_) ?_
  · exact ⟨.slice (some ⟨w5.heap.size, 0, none⟩) 0 0, w5.alloc (.cells #[] 25 (0, 0)), exec_build_ent0 rfl, (FlowB.rel_typed _ _).of ((Below.refl _ _).alloc (Nat.le_refl _) _), trivial, OwnE.bare (Blk.new rfl _ _) (Nat.le_trans HBB.out hb5.size)⟩
  rintro v0 w5 hb5 hF5 _
  apply Exists.intro
  refine ⟨fun w4 hb4 hF4 => wpQuiet_nil rfl, ?_⟩
  refine FlowB.AlChk.nil ?_
  refine FlowB.Walk.does rfl (fun _ _ => True) (fun v w' => OwnE w' (w.heap.size + 1) v ([] ++ es.drop k)) (fun v w' w'' _ h _ => h) (fun v w' w'' h k => h.below k) rfl (fun w2 hb2 hF2 hG2 => ?_) ?_
  · have hbB := Hb.out.trans ((hb2.below (B := w.heap.size + 1) HBB.out).mono (by omega))
    obtain ⟨v', w', hr, q2, q3, q4⟩ := run_append_ents 36 hG2 (HER.out.below hbB) (by simp; omega) (Nat.le_trans HBB.out hb2.size)
    exact ⟨v', w', FlowB.exec_append rfl rfl rfl hr, hG2.typed (Nat.le_refl _) q3, trivial, q2⟩
  rintro v1 w5 hb5 hF5 _
  apply Exists.intro
  refine ⟨fun w4 hb4 hF4 => wpQuiet_nil rfl, ?_⟩
  refine FlowB.AlChk.nil ?_
  refine FlowB.Walk.does rfl (fun _ _ => True) (fun v w' => OwnE w' (w.heap.size + 1) v (([] ++ es.drop k) ++ es.take k)) (fun v w' w'' _ h _ => h) (fun v w' w'' h k => h.below k) rfl (fun w2 hb2 hF2 hG2 => ?_) ?_
  · have hbB := Hb.out.trans ((hb2.below (B := w.heap.size + 1) HBB.out).mono (by omega))
    obtain ⟨v', w', hr, q2, q3, q4⟩ := run_append_ents 36 hG2 (HEL.out.below hbB) (by simp; omega) (Nat.le_trans HBB.out hb2.size)
    exact ⟨v', w', FlowB.exec_append rfl rfl rfl hr, hG2.typed (Nat.le_refl _) q3, trivial, q2⟩
  rintro v2 w5 hb5 hF5 _
  apply Exists.intro
  refine ⟨fun w2 hb2 hF2 => wpQuiet_nil rfl, ?_⟩
  refine FlowB.AlChk.nil ?_
  refine FlowB.Walk.fin fun w6 h6 _ hG6 => ?_
  simp only [List.drop_succ_cons, List.drop_zero]
  have hbB := h6.below (B := w.heap.size + 1) HBB.out
  have Kiw6 := hid (Ki.out.belowB (by omega) hbB)
  have HBw6 := hid (Hb.out.trans (hbB.mono (by omega)))
  have Ho6 := hid (show OwnE w6 (w.heap.size + 1) v2 (turnE es k) by rw [HTE.out]; exact hG6)
  have hsw6 : w.heap.size + 1 ≤ w6.heap.size := Nat.le_trans HBB.out h6.size
  generalize turnE es k = ms at *
  clear h6 hG6 hbB Ki Hb HER HEL htk HTE
  obtain ⟨am, cm, rfl, hms⟩ := ent_row Ho6.out
  rw [HLM.out] at hms ⊢
  have HM6 := hid hms
  have HOe := hid (OwnE.bare (base := w6.heap.size) (Blk.new (w := w6) rfl #[] 25) (Nat.le_refl _))
  have HMe := hid (hms.below ((Below.refl w6.heap.size w6).alloc (Nat.le_refl _) (.cells #[] 25 (0, 0))))
  have HBe := hid ((Below.refl w6.heap.size w6).alloc (Nat.le_refl _) (.cells #[] 25 (0, 0)))
  clear hms Ho6
  go_wp2_with (first
     | (refine wpList_build_ent0 rfl rfl ?_)
     | (
        at_builtin
        refine wpList_append_ents rfl _ _ rfl rfl HOe.out rfl HMe.out (by simp; omega) (by rw [World.size_alloc]; omega) ?_
        intro v7 w7 own7 b7
        have hb67 := HBe.out.trans b7
        have Ho7 := hid own7
        have HBw7 := hid (HBw6.out.trans (hb67.mono HBw6.out.size))
        have Kiw7 := hid (Kiw6.out.below hb67)
        have HM7 := hid (HM6.out.below hb67)
        have hsw7 := HBw7.out.size
        have hs67 := hb67.size
        clear own7 b7 hb67))
  rw [List.nil_append] at Ho7
  obtain ⟨ao, co, rfl, hos⟩ := ent_row Ho7.out
  rw [HLM.out] at hos ⊢
  have HO7 := hid hos
  clear hos Ho7 HMe HOe HBe
  have KMw7 := hid HM7.out
  have KOw7 := hid HO7.out
  clear HM7 HO7 HM6
  have hnm : (ms.map Prod.fst).Nodup := (HPM.out.map Prod.fst).nodup_iff.1 hnf
  have HAP := hid (apart_of (fun x hx => (HE.out.each x hx).1) (List.pairwise_map.1 hnf))
  have HX := hid (Dg.nodeT 256 es HE.out.each)
  have hXE := nodeT_perm 256 HAP.out HPM.out
  obtain ⟨X, hX⟩ : ∃ X, X = nodeT 256 es := ⟨_, rfl⟩
  have CR := hid (fun (W : World) (h : EntsAt W a len cap es) (t : ShaTab W) => root_good a len cap es W h (by omega) t hnf)
  have CS := hid (fun (W : World) (h : EntsAt W am len cm ms) (t : ShaTab W) => root_good am len cm ms W h (by omega) t hnm)
  rw [← hXE, ← hX] at CS
  rw [← hX] at CR HX
  clear hXE hX
  refine (CR.out _ (HE.out.below HBw7.out) (Htab.out.below HBw7.out)).mono ?_
  rintro e w11 ⟨rfl, bw11⟩
  have HBw11 := hid (Below.on HBw7.out bw11)
  have hsw11 := HBw11.out.size
  have Kiw11 := hid (Kiw7.out.below bw11)
  have KMw11 := hid (KMw7.out.below bw11)
  have KOw11 := hid (KOw7.out.below bw11)
  clear bw11
  go_wp2_with (
        refine wpList_store_blk rfl 23 _ _ rfl (w11.heap.size) (X.map (Value.int .u8)).toArray rfl rfl _ 23 (Blk.new rfl (byteCells 32 []) _) 32 size_digest zsize HX.out.size (ints_one _ _) ?_
        intro w12 hbw12 hkw12
        have hw12 := hbw12.below ((Below.refl w11.heap.size w11).alloc (Nat.le_refl _) _) (by simp only [World.size_alloc]; omega) (Nat.le_refl _)
        have HBw12 := hid (Below.on HBw11.out hw12)
        have hsw12 := HBw12.out.size
        have Kiw12 := hid (Kiw11.out.below hw12)
        have hliw12 := Kiw11.out.lt
        have KMw12 := hid (KMw11.out.below hw12)
        have KOw12 := hid (KOw11.out.below hw12)
        have Kxw12 := hid hkw12
        have hfw12 : w.heap.size ≤ w11.heap.size := HBw11.out.size
        clear hbw12 hkw12 hw12)
  refine (CS.out _ KMw12.out (Htab.out.below HBw12.out)).mono ?_
  rintro e w13 ⟨rfl, bw13⟩
  have HBw13 := hid (Below.on HBw12.out bw13)
  have hsw13 := HBw13.out.size
  have Kiw13 := hid (Kiw12.out.below bw13)
  have KMw13 := hid (KMw12.out.below bw13)
  have KOw13 := hid (KOw12.out.below bw13)
  have Kxw13 := hid (Kxw12.out.below bw13)
  clear bw13
  go_wp2_with (first
     | (
        refine wpList_store_blk rfl 23 _ _ rfl (w13.heap.size) (X.map (Value.int .u8)).toArray rfl rfl _ 23 (Blk.new rfl (byteCells 32 []) _) 32 size_digest zsize HX.out.size (ints_one _ _) ?_
        intro w14 hbw14 hkw14
        have hw14 := hbw14.below ((Below.refl w13.heap.size w13).alloc (Nat.le_refl _) _) (by simp only [World.size_alloc]; omega) (Nat.le_refl _)
        have HBw14 := hid (Below.on HBw13.out hw14)
        have hsw14 := HBw14.out.size
        have Kiw14 := hid (Kiw13.out.below hw14)
        have hliw14 := Kiw13.out.lt
        have KMw14 := hid (KMw13.out.below hw14)
        have KOw14 := hid (KOw13.out.below hw14)
        have Kxw14 := hid (Kxw13.out.below hw14)
        have hlxw14 := Kxw13.out.lt
        have Kyw14 := hid hkw14
        have hfw14 : w.heap.size ≤ w13.heap.size := HBw13.out.size
        clear hbw14 hkw14 hw14)
     | (refine wpList_load_blk rfl 23 _ rfl (w.heap.size) rfl _ 23 Kiw14.out _ Tryd.underlying23 rfl 32 size_digest hi.size ?_))
  refine (prove_good a len cap es i _ (HE.out.below HBw14.out) (by omega) hnf hi (Htab.out.below HBw14.out)).mono ?_
  rintro e v1 ⟨d1, z1, ns1, rfl, hd1, ho1, hp1, bv1⟩
  have HBv1 := hid (Below.on HBw14.out bv1)
  have hsv1 := HBv1.out.size
  have Kiv1 := hid (Kiw14.out.below bv1)
  have KMv1 := hid (KMw14.out.below bv1)
  have KOv1 := hid (KOw14.out.below bv1)
  have Kxv1 := hid (Kxw14.out.below bv1)
  have Kyv1 := hid (Kyw14.out.below bv1)
  have HDd := hid hd1
  have HPT := hid hp1
  obtain ⟨av, cv, rfl, hds, -⟩ := ho1.digs
  obtain ⟨N, hN⟩ : ∃ N, N = ns1.length := ⟨_, rfl⟩
  rw [← hN] at hds ⊢
  have KSv1 := hid hds
  have HN := hid hN
  clear hd1 hp1 ho1 hds bv1 hN
  go_wp2_with (first
     | (
        refine wpList_store_blk rfl 46 _ _ rfl (v1.heap.size) (prC d1 (.slice av N cv)).toArray rfl rfl _ 46 (Blk.new rfl #[.int .u8 0, .int .u8 0, .int .u8 0, .int .u8 0, .int .u8 0, .int .u8 0, .int .u8 0, .int .u8 0, .int .u8 0, .int .u8 0, .int .u8 0, .int .u8 0, .int .u8 0, .int .u8 0, .int .u8 0, .int .u8 0, .int .u8 0, .int .u8 0, .int .u8 0, .int .u8 0, .int .u8 0, .int .u8 0, .int .u8 0, .int .u8 0, .int .u8 0, .int .u8 0, .int .u8 0, .int .u8 0, .int .u8 0, .int .u8 0, .int .u8 0, .int .u8 0, .slice none 0 0] _) 33 size_proof rfl (prC_size HDd.out _) (prC_one _ _ _ _) ?_
        intro w15 hbw15 hkw15
        have hw15 := hbw15.below ((Below.refl v1.heap.size v1).alloc (Nat.le_refl _) _) (by simp only [World.size_alloc]; omega) (Nat.le_refl _)
        have HBw15 := hid (Below.on HBv1.out hw15)
        have hsw15 := HBw15.out.size
        have Kiw15 := hid (Kiv1.out.below hw15)
        have hliw15 := Kiv1.out.lt
        have KMw15 := hid (KMv1.out.below hw15)
        have KOw15 := hid (KOv1.out.below hw15)
        have Kxw15 := hid (Kxv1.out.below hw15)
        have hlxw15 := Kxv1.out.lt
        have Kyw15 := hid (Kyv1.out.below hw15)
        have hlyw15 := Kyv1.out.lt
        have KSw15 := hid (KSv1.out.below hw15)
        have Kpw15 := hid hkw15
        have hfw15 : w.heap.size ≤ v1.heap.size := HBv1.out.size
        clear hbw15 hkw15 hw15)
     | (refine wpList_load_blk rfl 23 _ rfl (w.heap.size) rfl _ 23 Kiw15.out _ Tryd.underlying23 rfl 32 size_digest hi.size ?_))
  refine (prove_good am len cm ms i _ KMw15.out (by omega) hnm hi (Htab.out.below HBw15.out)).mono ?_
  rintro e v2 ⟨d2, z2, ns2, rfl, hd2, ho2, hp2, bv2⟩
  have HBv2 := hid (Below.on HBw15.out bv2)
  have hsv2 := HBv2.out.size
  have Kiv2 := hid (Kiw15.out.below bv2)
  have KMv2 := hid (KMw15.out.below bv2)
  have KOv2 := hid (KOw15.out.below bv2)
  have Kxv2 := hid (Kxw15.out.below bv2)
  have Kyv2 := hid (Kyw15.out.below bv2)
  have KSv2 := hid (KSw15.out.below bv2)
  have Kpv2 := hid (Kpw15.out.below bv2)
  obtain ⟨rfl, rfl⟩ := (hp2.perm HAP.out HPM.out).same HPT.out hd2 HDd.out
  obtain ⟨aw, cw, rfl, hds, -⟩ := ho2.digs
  rw [← HN.out] at hds ⊢
  have KRv2 := hid hds
  clear hd2 hp2 ho2 hds bv2
  go_wp2_with (
        refine wpList_store_blk rfl 46 _ _ rfl (v2.heap.size) (prC d2 (.slice aw N cw)).toArray rfl rfl _ 46 (Blk.new rfl #[.int .u8 0, .int .u8 0, .int .u8 0, .int .u8 0, .int .u8 0, .int .u8 0, .int .u8 0, .int .u8 0, .int .u8 0, .int .u8 0, .int .u8 0, .int .u8 0, .int .u8 0, .int .u8 0, .int .u8 0, .int .u8 0, .int .u8 0, .int .u8 0, .int .u8 0, .int .u8 0, .int .u8 0, .int .u8 0, .int .u8 0, .int .u8 0, .int .u8 0, .int .u8 0, .int .u8 0, .int .u8 0, .int .u8 0, .int .u8 0, .int .u8 0, .int .u8 0, .slice none 0 0] _) 33 size_proof rfl (prC_size HDd.out _) (prC_one _ _ _ _) ?_
        intro w16 hbw16 hkw16
        have hw16 := hbw16.below ((Below.refl v2.heap.size v2).alloc (Nat.le_refl _) _) (by simp only [World.size_alloc]; omega) (Nat.le_refl _)
        have HBw16 := hid (Below.on HBv2.out hw16)
        have hsw16 := HBw16.out.size
        have Kiw16 := hid (Kiv2.out.below hw16)
        have hliw16 := Kiv2.out.lt
        have KMw16 := hid (KMv2.out.below hw16)
        have KOw16 := hid (KOv2.out.below hw16)
        have Kxw16 := hid (Kxv2.out.below hw16)
        have hlxw16 := Kxv2.out.lt
        have Kyw16 := hid (Kyv2.out.below hw16)
        have hlyw16 := Kyv2.out.lt
        have KSw16 := hid (KSv2.out.below hw16)
        have Kpw16 := hid (Kpv2.out.below hw16)
        have hlpw16 := Kpv2.out.lt
        have KRw16 := hid (KRv2.out.below hw16)
        have Kqw16 := hid hkw16
        have hfw16 : w.heap.size ≤ v2.heap.size := HBv2.out.size
        clear hbw16 hkw16 hw16)
  go_loopw [18] (fun iv wr => ∃ j : Nat, j ≤ len ∧ iv = .int .i64 j ∧ Blk wr (w11.heap.size) (X.map (Value.int .u8)).toArray 23 ∧ Blk wr (w13.heap.size) (X.map (Value.int .u8)).toArray 23 ∧ Blk wr (v1.heap.size) (prC d2 (.slice av N cv)).toArray 46 ∧ Blk wr (v2.heap.size) (prC d2 (.slice aw N cw)).toArray 46 ∧ EntsAt wr am len cm ms ∧ EntsAt wr ao len co ms ∧ DigsAt wr av N cv ns2 ∧ DigsAt wr aw N cw ns2 ∧ Below w.heap.size w wr) (fun iv _ => len - (intOf iv).toNat)
  case atStart => exact ⟨0, Nat.zero_le _, rfl, Kxw16.out, Kyw16.out, Kpw16.out, Kqw16.out, KMw16.out, KOw16.out, KSw16.out, KRw16.out, HBw16.out⟩
  case round =>
    obtain ⟨j, hj, rfl, kx, ky, kp, kq, kM, kO, kS, kR, bel⟩ := hrel
    have HBwr := hid bel
    have hswr := bel.size
    have Kxwr := hid kx
    have Kywr := hid ky
    have Kpwr := hid kp
    have Kqwr := hid kq
    have KMwr := hid kM
    have KOwr := hid kO
    have KSwr := hid kS
    have KRwr := hid kR
    clear bel kx ky kp kq kM kO kS kR
    by_cases hcj : j < len
    · skip
      have hcI : (j : Int) < (len : Int) := by omega
      obtain ⟨xm, om, rfl, hxm, hcm⟩ := KMwr.out.at_ h0
      obtain ⟨xo, oo, rfl, hxo, hco⟩ := KOwr.out.at_ h0
      have hRm := hcm j hcj
      have hRo := hco j hcj
      have hdx := KMwr.out.each (ms.getD j ([], [])) (by rw [List.getD_eq_getElem?_getD, List.getElem?_eq_getElem (by rw [HLM.out]; exact hcj)]; exact List.getElem_mem _)
      generalize ms.getD j ([], []) = z at *
      obtain ⟨dz, cz⟩ := z
      have HDz := hid hdx.1
      have HDc := hid hdx.2
      dsimp only at HDz HDc hRm hRo
      have HRm := hid hRm
      have HRo := hid hRo
      have HQ := hid (fun W : World => ne_ent dz cz HDz.out HDc.out W)
      clear hcm hco hRm hRo hdx
      go_wp2_with fail
      refine wp_region_flow 9 (List.range 9) [] [] (by kernel_rfl) (by kernel_rfl) ?_
      apply Exists.intro
      refine ⟨fun w0 hb0 hF0 => ?_, ?_⟩
      · skip
        have xa : ∀ w', (∃ x : Ext w0, w' = x.at_) → w'.rangeAt xm (om + j * 64) ((entL dz cz).map (Value.int .u8)) := fun w' ⟨y, hy⟩ => hy ▸ rangeAt_belowB HRm.out hxm (Below.on hb0 y.same)
        have xb : ∀ w', (∃ x : Ext w0, w' = x.at_) → w'.rangeAt xo (oo + j * 64) ((entL dz cz).map (Value.int .u8)) := fun w' ⟨y, hy⟩ => hy ▸ rangeAt_belowB HRo.out hxo (Below.on hb0 y.same)
        simp only [pick, List.range, List.range.loop, List.getElem?_toArray, List.getElem?_cons_succ, List.getElem?_cons_zero, Option.toList_some, List.cons_append, List.nil_append]
        repeat (first | (go_big_quiet_want; refine quiet_index_k 36 _ _ rfl Tryd.underlying36 size_entry xm om len cm rfl _ _ rfl j rfl (by omega) ?_; go_big_quiet_on; simp only [Act.put, List.setIfInBounds_toArray, List.set_cons_zero, List.set_cons_succ]) | (go_big_quiet_want; refine quiet_load_mid 25 _ rfl xm (om + j * 64) rfl _ xa _ Tryd.underlying25 rfl (by rw [List.length_map]; exact ent_size64 HDz.out HDc.out) ?_; go_big_quiet_on; simp only [Act.put, List.setIfInBounds_toArray, List.set_cons_zero, List.set_cons_succ]) | (go_big_quiet_want; refine quiet_index_k 36 _ _ rfl Tryd.underlying36 size_entry xo oo len co rfl _ _ rfl j rfl (by omega) ?_; go_big_quiet_on; simp only [Act.put, List.setIfInBounds_toArray, List.set_cons_zero, List.set_cons_succ]) | (go_big_quiet_want; refine quiet_load_mid 25 _ rfl xo (oo + j * 64) rfl _ xb _ Tryd.underlying25 rfl (by rw [List.length_map]; exact ent_size64 HDz.out HDc.out) ?_; go_big_quiet_on; simp only [Act.put, List.setIfInBounds_toArray, List.set_cons_zero, List.set_cons_succ]) | (go_big_quiet_want; refine quiet_cmpE _ _ rfl _ _ _ rfl rfl HQ.out ?_; go_big_quiet_on; simp only [Act.put, List.setIfInBounds_toArray, List.set_cons_zero, List.set_cons_succ]) | go_big_quiet_step (fail))
        exact wpQuiet_nil rfl
      refine AlChk.nil ?_
      refine Walk.fin fun w61 hw61 _ _ => ?_
      simp only [List.drop_succ_cons, List.drop_zero]
      have HBw61 := hid (Below.on HBwr.out hw61)
      have hsw61 := HBw61.out.size
      have Kxw61 := hid (Kxwr.out.below hw61)
      have Kyw61 := hid (Kywr.out.below hw61)
      have Kpw61 := hid (Kpwr.out.below hw61)
      have Kqw61 := hid (Kqwr.out.below hw61)
      have KMw61 := hid (KMwr.out.below hw61)
      have KOw61 := hid (KOwr.out.below hw61)
      have KSw61 := hid (KSwr.out.below hw61)
      have KRw61 := hid (KRwr.out.below hw61)
      clear hw61
      go_wp2_with fail
      exact ⟨⟨j + 1, by omega, by first | rfl | simp, Kxw61.out, Kyw61.out, Kpw61.out, Kqw61.out, KMw61.out, KOw61.out, KSw61.out, KRw61.out, HBw61.out⟩, by simp [intOf]; omega⟩
    · skip
      have hke : j = len := by omega
      subst hke
      have hcI : ¬ (j : Int) < (j : Int) := by omega
      have qx := eqD_self X HX.out.len
      have qd := eqD_self d2 HDd.out.len
      have cp : wr.cell? ⟨v1.heap.size, 32, none⟩ = some (.slice av N cv) := prC_nodes HDd.out Kpwr.out
      have cq : wr.cell? ⟨v2.heap.size, 32, none⟩ = some (.slice aw N cw) := prC_nodes HDd.out Kqwr.out
      go_wp2_with (first
         | (refine wpList_load_blk rfl 23 _ rfl (w11.heap.size) rfl _ 23 Kxwr.out _ Tryd.underlying23 rfl 32 size_digest HX.out.size ?_)
         | (refine wpList_load_blk rfl 23 _ rfl (w13.heap.size) rfl _ 23 Kywr.out _ Tryd.underlying23 rfl 32 size_digest HX.out.size ?_)
         | (refine wpList_load_midI (by first | rfl | go_simp) 23 _ rfl (v1.heap.size) 0 rfl _ _ (prC_known Kpwr.out) Tryd.underlying23 rfl (by rw [List.length_map, HDd.out.len]; exact size_digest) ?_)
         | (refine wpList_load_midI (by first | rfl | go_simp) 23 _ rfl (v2.heap.size) 0 rfl _ _ (prC_known Kqwr.out) Tryd.underlying23 rfl (by rw [List.length_map, HDd.out.len]; exact size_digest) ?_))
      refine (same_any av aw N cv cw ns2 _ KSwr.out KRwr.out).mono ?_
      rintro e w91 ⟨rfl, bw91⟩
      have HBw91 := hid (Below.on HBwr.out bw91)
      have hsw91 := HBw91.out.size
      have Kxw91 := hid (Kxwr.out.below bw91)
      have Kyw91 := hid (Kywr.out.below bw91)
      have Kpw91 := hid (Kpwr.out.below bw91)
      have Kqw91 := hid (Kqwr.out.below bw91)
      have KMw91 := hid (KMwr.out.below bw91)
      have KOw91 := hid (KOwr.out.below bw91)
      have KSw91 := hid (KSwr.out.below bw91)
      have KRw91 := hid (KRwr.out.below bw91)
      clear bw91
      go_wp2_with fail
      refine (knows17 _ (Htab.out.below HBw91.out)).mono ?_
      rintro e w92 ⟨rfl, bw92⟩
      have HBw92 := hid (Below.on HBw91.out bw92)
      have hsw92 := HBw92.out.size
      have Kxw92 := hid (Kxw91.out.below bw92)
      have Kyw92 := hid (Kyw91.out.below bw92)
      have Kpw92 := hid (Kpw91.out.below bw92)
      have Kqw92 := hid (Kqw91.out.below bw92)
      have KMw92 := hid (KMw91.out.below bw92)
      have KOw92 := hid (KOw91.out.below bw92)
      have KSw92 := hid (KSw91.out.below bw92)
      have KRw92 := hid (KRw91.out.below bw92)
      clear bw92
      go_wp2_with fail
      go_returns
      exact ⟨by first | rfl | simp, HBw92.out⟩
set_option maxHeartbeats 4000000 in
theorem turns_dup (a : Option Addr) (len cap : Nat) (es : List (List Int × List Int)) (at_ : Int) (i : List Int) (w : World) (hE : EntsAt w a len cap es) (hat : 0 ≤ at_ ∧ at_ < 256) (hi : Dg i) (tab : ShaTab w) (hmx : len ≤ 12) (h0 : 0 < len) (hnf : ¬ (es.map Prod.fst).Nodup) :
    Calls Tryd.prog 6 #[.slice a len cap, .int .u8 at_, .agg (i.map (Value.int .u8)).toArray] w fun e w' => e = .returned (.bool true) ∧ Below w.heap.size w w' := by
  have b1 := (Below.refl w.heap.size w).alloc (Nat.le_refl _) (.cells (i.map (Value.int .u8)).toArray 23 (0, 0))
  have Ki := hid (Blk.new (w := w) (n := w.heap.size) rfl (i.map (Value.int .u8)).toArray 23)
  have Hb := hid b1
  have hbz := b1.size
  have Hbs := hid (show w.heap.size + 1 = (w.alloc (.cells (i.map (Value.int .u8)).toArray 23 (0, 0))).heap.size by simp only [World.size_alloc])
  have Htab := hid tab
  clear b1 tab 
  have HE := hid hE
  clear hE
  obtain ⟨k, hk⟩ : ∃ k : Nat, (k : Int) = at_ % (len : Int) := ⟨(at_ % (len : Int)).toNat, Int.toNat_of_nonneg (Int.emod_nonneg _ (by omega))⟩
  have hkl : k < len := by have := Int.emod_lt_of_pos at_ (show (0 : Int) < len by omega); omega
  have hlen := HE.out.length
  have hsplit := HE.out
  rw [← List.take_append_drop k es] at hsplit
  have htk : (es.take k).length = k := by rw [List.length_take]; omega
  have hEL := hsplit.head
  have hER := hsplit.tail
  rw [htk] at hEL hER
  have HEL := hid hEL
  have HER := hid hER
  have hml := turn_len es k
  have hpm := turn_perm es k
  have HPM := hid hpm
  have HLM := hid (show (turnE es k).length = len by rw [hml, hlen])
  have HTE := hid (show turnE es k = es.drop k ++ es.take k from rfl)
  clear hsplit hEL hER hml hpm
  have hc : ¬ (12 : Int) < (len : Int) := by omega
  have hc0 : ¬ (len : Int) = 0 := by omega
  have hc1 : ((len : Int) == 0) = false := by simp; omega
  go_enter Tryd.func6, Tryd.ntmps6
  go_wp2_with fail
  rw [← hk]
  have hle := HE.out.le
  have HBB : Hid (w.heap.size + 1 ≤ (w.alloc (.cells (i.map (Value.int .u8)).toArray 23 (0, 0))).heap.size) := hid (Nat.le_of_eq Hbs.out)
  clear hk
  refine FlowB.wp_region_typed (w.heap.size + 1) 25 9 [1, 2, 3, 5, 6, 7] [] [(.c 0, [], []), (.c 4, [], []), (.c 8, [], [])] (by kernel_rfl) (by kernel_rfl) ?_
  apply Exists.intro
  refine ⟨fun w0 hb0 hF0 => ?_, ?_⟩
  · simp only [pick, List.getElem?_toArray, List.getElem?_cons_succ, List.getElem?_cons_zero, Option.toList_some, List.cons_append, List.nil_append]
    repeat (first | (go_big_quiet_want; refine quiet_cute_h _ _ rfl a len cap k _ rfl rfl rfl (by omega) ?_; go_big_quiet_on; simp only [Act.put, List.setIfInBounds_toArray, List.set_cons_zero, List.set_cons_succ]) | (go_big_quiet_want; refine quiet_cute_l _ _ rfl a len cap k _ rfl rfl rfl (by omega) ?_; go_big_quiet_on; simp only [Act.put, List.setIfInBounds_toArray, List.set_cons_zero, List.set_cons_succ]) | go_big_quiet_step (fail))
    exact wpQuiet_nil rfl
  refine FlowB.AlChk.nil ?_
  refine FlowB.Walk.does rfl (fun _ _ => True) (fun v w' => OwnE w' (w.heap.size + 1) v []) (fun v w' w'' _ h _ => h) (fun v w' w'' h k => h.below k) rfl (fun w5 hb5 hF5 _ => ?_) ?_
  · exact ⟨.slice (some ⟨w5.heap.size, 0, none⟩) 0 0, w5.alloc (.cells #[] 25 (0, 0)), exec_build_ent0 rfl, (FlowB.rel_typed _ _).of ((Below.refl _ _).alloc (Nat.le_refl _) _), trivial, OwnE.bare (Blk.new rfl _ _) (Nat.le_trans HBB.out hb5.size)⟩
  rintro v0 w5 hb5 hF5 _
  apply Exists.intro
  refine ⟨fun w4 hb4 hF4 => wpQuiet_nil rfl, ?_⟩
  refine FlowB.AlChk.nil ?_
  refine FlowB.Walk.does rfl (fun _ _ => True) (fun v w' => OwnE w' (w.heap.size + 1) v ([] ++ es.drop k)) (fun v w' w'' _ h _ => h) (fun v w' w'' h k => h.below k) rfl (fun w2 hb2 hF2 hG2 => ?_) ?_
  · have hbB := Hb.out.trans ((hb2.below (B := w.heap.size + 1) HBB.out).mono (by omega))
    obtain ⟨v', w', hr, q2, q3, q4⟩ := run_append_ents 36 hG2 (HER.out.below hbB) (by simp; omega) (Nat.le_trans HBB.out hb2.size)
    exact ⟨v', w', FlowB.exec_append rfl rfl rfl hr, hG2.typed (Nat.le_refl _) q3, trivial, q2⟩
  rintro v1 w5 hb5 hF5 _
  apply Exists.intro
  refine ⟨fun w4 hb4 hF4 => wpQuiet_nil rfl, ?_⟩
  refine FlowB.AlChk.nil ?_
  refine FlowB.Walk.does rfl (fun _ _ => True) (fun v w' => OwnE w' (w.heap.size + 1) v (([] ++ es.drop k) ++ es.take k)) (fun v w' w'' _ h _ => h) (fun v w' w'' h k => h.below k) rfl (fun w2 hb2 hF2 hG2 => ?_) ?_
  · have hbB := Hb.out.trans ((hb2.below (B := w.heap.size + 1) HBB.out).mono (by omega))
    obtain ⟨v', w', hr, q2, q3, q4⟩ := run_append_ents 36 hG2 (HEL.out.below hbB) (by simp; omega) (Nat.le_trans HBB.out hb2.size)
    exact ⟨v', w', FlowB.exec_append rfl rfl rfl hr, hG2.typed (Nat.le_refl _) q3, trivial, q2⟩
  rintro v2 w5 hb5 hF5 _
  apply Exists.intro
  refine ⟨fun w2 hb2 hF2 => wpQuiet_nil rfl, ?_⟩
  refine FlowB.AlChk.nil ?_
  refine FlowB.Walk.fin fun w6 h6 _ hG6 => ?_
  simp only [List.drop_succ_cons, List.drop_zero]
  have hbB := h6.below (B := w.heap.size + 1) HBB.out
  have Kiw6 := hid (Ki.out.belowB (by omega) hbB)
  have HBw6 := hid (Hb.out.trans (hbB.mono (by omega)))
  have Ho6 := hid (show OwnE w6 (w.heap.size + 1) v2 (turnE es k) by rw [HTE.out]; exact hG6)
  have hsw6 : w.heap.size + 1 ≤ w6.heap.size := Nat.le_trans HBB.out h6.size
  generalize turnE es k = ms at *
  clear h6 hG6 hbB Ki Hb HER HEL htk HTE
  obtain ⟨am, cm, rfl, hms⟩ := ent_row Ho6.out
  rw [HLM.out] at hms ⊢
  have HM6 := hid hms
  have HOe := hid (OwnE.bare (base := w6.heap.size) (Blk.new (w := w6) rfl #[] 25) (Nat.le_refl _))
  have HMe := hid (hms.below ((Below.refl w6.heap.size w6).alloc (Nat.le_refl _) (.cells #[] 25 (0, 0))))
  have HBe := hid ((Below.refl w6.heap.size w6).alloc (Nat.le_refl _) (.cells #[] 25 (0, 0)))
  clear hms Ho6
  go_wp2_with (first
     | (refine wpList_build_ent0 rfl rfl ?_)
     | (
        at_builtin
        refine wpList_append_ents rfl _ _ rfl rfl HOe.out rfl HMe.out (by simp; omega) (by rw [World.size_alloc]; omega) ?_
        intro v7 w7 own7 b7
        have hb67 := HBe.out.trans b7
        have Ho7 := hid own7
        have HBw7 := hid (HBw6.out.trans (hb67.mono HBw6.out.size))
        have Kiw7 := hid (Kiw6.out.below hb67)
        have HM7 := hid (HM6.out.below hb67)
        have hsw7 := HBw7.out.size
        have hs67 := hb67.size
        clear own7 b7 hb67))
  rw [List.nil_append] at Ho7
  obtain ⟨ao, co, rfl, hos⟩ := ent_row Ho7.out
  rw [HLM.out] at hos ⊢
  have HO7 := hid hos
  clear hos Ho7 HMe HOe HBe
  have KMw7 := hid HM7.out
  have KOw7 := hid HO7.out
  clear HM7 HO7 HM6
  have hnm : ¬ (ms.map Prod.fst).Nodup := fun h => hnf ((HPM.out.map Prod.fst).nodup_iff.2 h)
  have HX := hid Dg.zero
  refine (root_dup a len cap es _ (HE.out.below HBw7.out) (by omega) (Htab.out.below HBw7.out) hnf).mono ?_
  rintro e w11 ⟨rfl, bw11⟩
  have HBw11 := hid (Below.on HBw7.out bw11)
  have hsw11 := HBw11.out.size
  have Kiw11 := hid (Kiw7.out.below bw11)
  have KMw11 := hid (KMw7.out.below bw11)
  have KOw11 := hid (KOw7.out.below bw11)
  clear bw11
  go_wp2_with (
        refine wpList_store_blk rfl 23 _ _ rfl (w11.heap.size) (zD.map (Value.int .u8)).toArray rfl rfl _ 23 (Blk.new rfl (byteCells 32 []) _) 32 size_digest zsize HX.out.size (ints_one _ _) ?_
        intro w12 hbw12 hkw12
        have hw12 := hbw12.below ((Below.refl w11.heap.size w11).alloc (Nat.le_refl _) _) (by simp only [World.size_alloc]; omega) (Nat.le_refl _)
        have HBw12 := hid (Below.on HBw11.out hw12)
        have hsw12 := HBw12.out.size
        have Kiw12 := hid (Kiw11.out.below hw12)
        have hliw12 := Kiw11.out.lt
        have KMw12 := hid (KMw11.out.below hw12)
        have KOw12 := hid (KOw11.out.below hw12)
        have Kxw12 := hid hkw12
        have hfw12 : w.heap.size ≤ w11.heap.size := HBw11.out.size
        clear hbw12 hkw12 hw12)
  refine (root_dup am len cm ms _ KMw12.out (by omega) (Htab.out.below HBw12.out) hnm).mono ?_
  rintro e w13 ⟨rfl, bw13⟩
  have HBw13 := hid (Below.on HBw12.out bw13)
  have hsw13 := HBw13.out.size
  have Kiw13 := hid (Kiw12.out.below bw13)
  have KMw13 := hid (KMw12.out.below bw13)
  have KOw13 := hid (KOw12.out.below bw13)
  have Kxw13 := hid (Kxw12.out.below bw13)
  clear bw13
  go_wp2_with (first
     | (
        refine wpList_store_blk rfl 23 _ _ rfl (w13.heap.size) (zD.map (Value.int .u8)).toArray rfl rfl _ 23 (Blk.new rfl (byteCells 32 []) _) 32 size_digest zsize HX.out.size (ints_one _ _) ?_
        intro w14 hbw14 hkw14
        have hw14 := hbw14.below ((Below.refl w13.heap.size w13).alloc (Nat.le_refl _) _) (by simp only [World.size_alloc]; omega) (Nat.le_refl _)
        have HBw14 := hid (Below.on HBw13.out hw14)
        have hsw14 := HBw14.out.size
        have Kiw14 := hid (Kiw13.out.below hw14)
        have hliw14 := Kiw13.out.lt
        have KMw14 := hid (KMw13.out.below hw14)
        have KOw14 := hid (KOw13.out.below hw14)
        have Kxw14 := hid (Kxw13.out.below hw14)
        have hlxw14 := Kxw13.out.lt
        have Kyw14 := hid hkw14
        have hfw14 : w.heap.size ≤ w13.heap.size := HBw13.out.size
        clear hbw14 hkw14 hw14)
     | (refine wpList_load_blk rfl 23 _ rfl (w.heap.size) rfl _ 23 Kiw14.out _ Tryd.underlying23 rfl 32 size_digest hi.size ?_))
  refine (prove_dup a len cap es i _ (HE.out.below HBw14.out) (by omega) hnf).mono ?_
  rintro e w15 ⟨rfl, bw15⟩
  have HBw15 := hid (Below.on HBw14.out bw15)
  have hsw15 := HBw15.out.size
  have Kiw15 := hid (Kiw14.out.below bw15)
  have KMw15 := hid (KMw14.out.below bw15)
  have KOw15 := hid (KOw14.out.below bw15)
  have Kxw15 := hid (Kxw14.out.below bw15)
  have Kyw15 := hid (Kyw14.out.below bw15)
  clear bw15
  go_wp2_with (first
     | (
        refine wpList_store_blk rfl 46 _ _ rfl (w15.heap.size) (prC zD (.slice none 0 0)).toArray rfl rfl _ 46 (Blk.new rfl #[.int .u8 0, .int .u8 0, .int .u8 0, .int .u8 0, .int .u8 0, .int .u8 0, .int .u8 0, .int .u8 0, .int .u8 0, .int .u8 0, .int .u8 0, .int .u8 0, .int .u8 0, .int .u8 0, .int .u8 0, .int .u8 0, .int .u8 0, .int .u8 0, .int .u8 0, .int .u8 0, .int .u8 0, .int .u8 0, .int .u8 0, .int .u8 0, .int .u8 0, .int .u8 0, .int .u8 0, .int .u8 0, .int .u8 0, .int .u8 0, .int .u8 0, .int .u8 0, .slice none 0 0] _) 33 size_proof rfl (prC_size Dg.zero _) (prC_one _ _ _ _) ?_
        intro w16 hbw16 hkw16
        have hw16 := hbw16.below ((Below.refl w15.heap.size w15).alloc (Nat.le_refl _) _) (by simp only [World.size_alloc]; omega) (Nat.le_refl _)
        have HBw16 := hid (Below.on HBw15.out hw16)
        have hsw16 := HBw16.out.size
        have Kiw16 := hid (Kiw15.out.below hw16)
        have hliw16 := Kiw15.out.lt
        have KMw16 := hid (KMw15.out.below hw16)
        have KOw16 := hid (KOw15.out.below hw16)
        have Kxw16 := hid (Kxw15.out.below hw16)
        have hlxw16 := Kxw15.out.lt
        have Kyw16 := hid (Kyw15.out.below hw16)
        have hlyw16 := Kyw15.out.lt
        have Kpw16 := hid hkw16
        have hfw16 : w.heap.size ≤ w15.heap.size := HBw15.out.size
        clear hbw16 hkw16 hw16)
     | (refine wpList_load_blk rfl 23 _ rfl (w.heap.size) rfl _ 23 Kiw16.out _ Tryd.underlying23 rfl 32 size_digest hi.size ?_))
  refine (prove_dup am len cm ms i _ KMw16.out (by omega) hnm).mono ?_
  rintro e w17 ⟨rfl, bw17⟩
  have HBw17 := hid (Below.on HBw16.out bw17)
  have hsw17 := HBw17.out.size
  have Kiw17 := hid (Kiw16.out.below bw17)
  have KMw17 := hid (KMw16.out.below bw17)
  have KOw17 := hid (KOw16.out.below bw17)
  have Kxw17 := hid (Kxw16.out.below bw17)
  have Kyw17 := hid (Kyw16.out.below bw17)
  have Kpw17 := hid (Kpw16.out.below bw17)
  clear bw17
  go_wp2_with (
        refine wpList_store_blk rfl 46 _ _ rfl (w17.heap.size) (prC zD (.slice none 0 0)).toArray rfl rfl _ 46 (Blk.new rfl #[.int .u8 0, .int .u8 0, .int .u8 0, .int .u8 0, .int .u8 0, .int .u8 0, .int .u8 0, .int .u8 0, .int .u8 0, .int .u8 0, .int .u8 0, .int .u8 0, .int .u8 0, .int .u8 0, .int .u8 0, .int .u8 0, .int .u8 0, .int .u8 0, .int .u8 0, .int .u8 0, .int .u8 0, .int .u8 0, .int .u8 0, .int .u8 0, .int .u8 0, .int .u8 0, .int .u8 0, .int .u8 0, .int .u8 0, .int .u8 0, .int .u8 0, .int .u8 0, .slice none 0 0] _) 33 size_proof rfl (prC_size Dg.zero _) (prC_one _ _ _ _) ?_
        intro w18 hbw18 hkw18
        have hw18 := hbw18.below ((Below.refl w17.heap.size w17).alloc (Nat.le_refl _) _) (by simp only [World.size_alloc]; omega) (Nat.le_refl _)
        have HBw18 := hid (Below.on HBw17.out hw18)
        have hsw18 := HBw18.out.size
        have Kiw18 := hid (Kiw17.out.below hw18)
        have hliw18 := Kiw17.out.lt
        have KMw18 := hid (KMw17.out.below hw18)
        have KOw18 := hid (KOw17.out.below hw18)
        have Kxw18 := hid (Kxw17.out.below hw18)
        have hlxw18 := Kxw17.out.lt
        have Kyw18 := hid (Kyw17.out.below hw18)
        have hlyw18 := Kyw17.out.lt
        have Kpw18 := hid (Kpw17.out.below hw18)
        have hlpw18 := Kpw17.out.lt
        have Kqw18 := hid hkw18
        have hfw18 : w.heap.size ≤ w17.heap.size := HBw17.out.size
        clear hbw18 hkw18 hw18)
  go_loopw [18] (fun iv wr => ∃ j : Nat, j ≤ len ∧ iv = .int .i64 j ∧ Blk wr (w11.heap.size) (zD.map (Value.int .u8)).toArray 23 ∧ Blk wr (w13.heap.size) (zD.map (Value.int .u8)).toArray 23 ∧ Blk wr (w15.heap.size) (prC zD (.slice none 0 0)).toArray 46 ∧ Blk wr (w17.heap.size) (prC zD (.slice none 0 0)).toArray 46 ∧ EntsAt wr am len cm ms ∧ EntsAt wr ao len co ms ∧ Below w.heap.size w wr) (fun iv _ => len - (intOf iv).toNat)
  case atStart => exact ⟨0, Nat.zero_le _, rfl, Kxw18.out, Kyw18.out, Kpw18.out, Kqw18.out, KMw18.out, KOw18.out, HBw18.out⟩
  case round =>
    obtain ⟨j, hj, rfl, kx, ky, kp, kq, kM, kO, bel⟩ := hrel
    have HBwr := hid bel
    have hswr := bel.size
    have Kxwr := hid kx
    have Kywr := hid ky
    have Kpwr := hid kp
    have Kqwr := hid kq
    have KMwr := hid kM
    have KOwr := hid kO
    clear bel kx ky kp kq kM kO
    by_cases hcj : j < len
    · skip
      have hcI : (j : Int) < (len : Int) := by omega
      obtain ⟨xm, om, rfl, hxm, hcm⟩ := KMwr.out.at_ h0
      obtain ⟨xo, oo, rfl, hxo, hco⟩ := KOwr.out.at_ h0
      have hRm := hcm j hcj
      have hRo := hco j hcj
      have hdx := KMwr.out.each (ms.getD j ([], [])) (by rw [List.getD_eq_getElem?_getD, List.getElem?_eq_getElem (by rw [HLM.out]; exact hcj)]; exact List.getElem_mem _)
      generalize ms.getD j ([], []) = z at *
      obtain ⟨dz, cz⟩ := z
      have HDz := hid hdx.1
      have HDc := hid hdx.2
      dsimp only at HDz HDc hRm hRo
      have HRm := hid hRm
      have HRo := hid hRo
      have HQ := hid (fun W : World => ne_ent dz cz HDz.out HDc.out W)
      clear hcm hco hRm hRo hdx
      go_wp2_with fail
      refine wp_region_flow 9 (List.range 9) [] [] (by kernel_rfl) (by kernel_rfl) ?_
      apply Exists.intro
      refine ⟨fun w0 hb0 hF0 => ?_, ?_⟩
      · skip
        have xa : ∀ w', (∃ x : Ext w0, w' = x.at_) → w'.rangeAt xm (om + j * 64) ((entL dz cz).map (Value.int .u8)) := fun w' ⟨y, hy⟩ => hy ▸ rangeAt_belowB HRm.out hxm (Below.on hb0 y.same)
        have xb : ∀ w', (∃ x : Ext w0, w' = x.at_) → w'.rangeAt xo (oo + j * 64) ((entL dz cz).map (Value.int .u8)) := fun w' ⟨y, hy⟩ => hy ▸ rangeAt_belowB HRo.out hxo (Below.on hb0 y.same)
        simp only [pick, List.range, List.range.loop, List.getElem?_toArray, List.getElem?_cons_succ, List.getElem?_cons_zero, Option.toList_some, List.cons_append, List.nil_append]
        repeat (first | (go_big_quiet_want; refine quiet_index_k 36 _ _ rfl Tryd.underlying36 size_entry xm om len cm rfl _ _ rfl j rfl (by omega) ?_; go_big_quiet_on; simp only [Act.put, List.setIfInBounds_toArray, List.set_cons_zero, List.set_cons_succ]) | (go_big_quiet_want; refine quiet_load_mid 25 _ rfl xm (om + j * 64) rfl _ xa _ Tryd.underlying25 rfl (by rw [List.length_map]; exact ent_size64 HDz.out HDc.out) ?_; go_big_quiet_on; simp only [Act.put, List.setIfInBounds_toArray, List.set_cons_zero, List.set_cons_succ]) | (go_big_quiet_want; refine quiet_index_k 36 _ _ rfl Tryd.underlying36 size_entry xo oo len co rfl _ _ rfl j rfl (by omega) ?_; go_big_quiet_on; simp only [Act.put, List.setIfInBounds_toArray, List.set_cons_zero, List.set_cons_succ]) | (go_big_quiet_want; refine quiet_load_mid 25 _ rfl xo (oo + j * 64) rfl _ xb _ Tryd.underlying25 rfl (by rw [List.length_map]; exact ent_size64 HDz.out HDc.out) ?_; go_big_quiet_on; simp only [Act.put, List.setIfInBounds_toArray, List.set_cons_zero, List.set_cons_succ]) | (go_big_quiet_want; refine quiet_cmpE _ _ rfl _ _ _ rfl rfl HQ.out ?_; go_big_quiet_on; simp only [Act.put, List.setIfInBounds_toArray, List.set_cons_zero, List.set_cons_succ]) | go_big_quiet_step (fail))
        exact wpQuiet_nil rfl
      refine AlChk.nil ?_
      refine Walk.fin fun w61 hw61 _ _ => ?_
      simp only [List.drop_succ_cons, List.drop_zero]
      have HBw61 := hid (Below.on HBwr.out hw61)
      have hsw61 := HBw61.out.size
      have Kxw61 := hid (Kxwr.out.below hw61)
      have Kyw61 := hid (Kywr.out.below hw61)
      have Kpw61 := hid (Kpwr.out.below hw61)
      have Kqw61 := hid (Kqwr.out.below hw61)
      have KMw61 := hid (KMwr.out.below hw61)
      have KOw61 := hid (KOwr.out.below hw61)
      clear hw61
      go_wp2_with fail
      exact ⟨⟨j + 1, by omega, by first | rfl | simp, Kxw61.out, Kyw61.out, Kpw61.out, Kqw61.out, KMw61.out, KOw61.out, HBw61.out⟩, by simp [intOf]; omega⟩
    · skip
      have hke : j = len := by omega
      subst hke
      have hcI : ¬ (j : Int) < (j : Int) := by omega
      have qx := eqD_self zD HX.out.len
      have cp : wr.cell? ⟨w15.heap.size, 32, none⟩ = some (.slice none 0 0) := prC_nodes Dg.zero Kpwr.out
      have cq : wr.cell? ⟨w17.heap.size, 32, none⟩ = some (.slice none 0 0) := prC_nodes Dg.zero Kqwr.out
      go_wp2_with (first
         | (refine wpList_load_blk rfl 23 _ rfl (w11.heap.size) rfl _ 23 Kxwr.out _ Tryd.underlying23 rfl 32 size_digest HX.out.size ?_)
         | (refine wpList_load_blk rfl 23 _ rfl (w13.heap.size) rfl _ 23 Kywr.out _ Tryd.underlying23 rfl 32 size_digest HX.out.size ?_)
         | (refine wpList_load_midI (by first | rfl | go_simp) 23 _ rfl (w15.heap.size) 0 rfl _ _ (prC_known Kpwr.out) Tryd.underlying23 rfl (by rw [List.length_map, Dg.zero.len]; exact size_digest) ?_)
         | (refine wpList_load_midI (by first | rfl | go_simp) 23 _ rfl (w17.heap.size) 0 rfl _ _ (prC_known Kqwr.out) Tryd.underlying23 rfl (by rw [List.length_map, Dg.zero.len]; exact size_digest) ?_))
      refine (same_any none none 0 0 0 [] _ (DigsAt.nil _) (DigsAt.nil _)).mono ?_
      rintro e w91 ⟨rfl, bw91⟩
      have HBw91 := hid (Below.on HBwr.out bw91)
      have hsw91 := HBw91.out.size
      have Kxw91 := hid (Kxwr.out.below bw91)
      have Kyw91 := hid (Kywr.out.below bw91)
      have Kpw91 := hid (Kpwr.out.below bw91)
      have Kqw91 := hid (Kqwr.out.below bw91)
      have KMw91 := hid (KMwr.out.below bw91)
      have KOw91 := hid (KOwr.out.below bw91)
      clear bw91
      go_wp2_with fail
      refine (knows17 _ (Htab.out.below HBw91.out)).mono ?_
      rintro e w92 ⟨rfl, bw92⟩
      have HBw92 := hid (Below.on HBw91.out bw92)
      have hsw92 := HBw92.out.size
      have Kxw92 := hid (Kxw91.out.below bw92)
      have Kyw92 := hid (Kyw91.out.below bw92)
      have Kpw92 := hid (Kpw91.out.below bw92)
      have Kqw92 := hid (Kqw91.out.below bw92)
      have KMw92 := hid (KMw91.out.below bw92)
      have KOw92 := hid (KOw91.out.below bw92)
      clear bw92
      go_wp2_with fail
      go_returns
      exact ⟨by first | rfl | simp, HBw92.out⟩
set_option maxHeartbeats 4000000 in
theorem ptreeTurns_any (a : Option Addr) (len cap : Nat) (es : List (List Int × List Int)) (at_ : Int) (i : List Int) (w : World) (hE : EntsAt w a len cap es) (hat : 0 ≤ at_ ∧ at_ < 256) (hi : Dg i) (tab : ShaTab w)  :
    Calls Tryd.prog 6 #[.slice a len cap, .int .u8 at_, .agg (i.map (Value.int .u8)).toArray] w fun e w' => e = .returned (.bool true) ∧ Below w.heap.size w w' := by
  rcases Nat.lt_or_ge 12 len with h | h
  · exact turns_far a len cap es at_ i w hE hat hi tab h
  · rcases Nat.eq_zero_or_pos len with h0 | h0
    · exact turns_void a len cap es at_ i w hE hat hi tab h0
    · by_cases hn : (es.map Prod.fst).Nodup
      · exact turns_good a len cap es at_ i w hE hat hi tab h h0 hn
      · exact turns_dup a len cap es at_ i w hE hat hi tab h h0 hn
end Go.Proofs.YthaicocfbmpnmaaDoor
