/-
  Layer 17: the entries below a node are halved; a node; the root.
-/
import Derived.Test.YthaicocfbmpnmaaDoorQtF
namespace Go.Proofs.YthaicocfbmpnmaaDoor
open Go.ChangeShapes Go.WideShapes Go.ChangeAt Go.RowKit

theorem bitL_01 (d : List Int) (k : Nat) : bitL d k = 0 ∨ bitL d k = 1 := by
  unfold bitL
  omega
set_option maxHeartbeats 4000000 in
set_option maxRecDepth 100000 in
theorem isright_any (a b : List Int) (k kb : Nat) (w : World) (ha : Dg a) (hkk : k < 256) (hk : Blk w kb #[.int .i64 k] 3) :
    Calls Tryd.prog 84 #[.agg ((entL a b).map (Value.int .u8)).toArray, .pointer (some ⟨kb, 0, none⟩)] w fun e w' => e = .returned (.bool (rightB k (a, b))) ∧ Below w.heap.size w w' := by
  have b1 := (Below.refl w.heap.size w).alloc (Nat.le_refl _) (.cells ((entL a b).map (Value.int .u8)).toArray 25 (0, 0))
  have Kx := hid (Blk.new (w := w) (n := w.heap.size) rfl ((entL a b).map (Value.int .u8)).toArray 25)
  have Hb := hid b1
  have hbz := b1.size
  have Hbs := hid (show w.heap.size + 1 = (w.alloc (.cells ((entL a b).map (Value.int .u8)).toArray 25 (0, 0))).heap.size by simp only [World.size_alloc])
  clear b1 
  have HK := hid (hk.below Hb.out)
  have CB := hid (fun W : World => bit_in a k W ha hkk)
  have ck := HK.out.cell 0
  have HF := hid (ent_front ha (b := b) Kx.out)
  clear hk
  go_enter Tryd.func84, Tryd.ntmps84
  go_wp2_with (refine wpList_load_mid rfl 23 _ rfl w.heap.size 0 rfl _ _ HF.out Tryd.underlying23 rfl (by rw [List.length_map, ha.len]; exact size_digest) ?_)
  refine (CB.out _).mono ?_
  rintro e w1 ⟨rfl, bw1⟩
  have HBw1 := hid (Below.on Hb.out bw1)
  have hsw1 := HBw1.out.size
  clear bw1
  rcases bitL_01 a k with hq | hq
  · skip
    have hr : rightB k (a, b) = false := by
      unfold rightB
      rw [hq]
      rfl
    have HR := hid hr
    clear hr
    rw [hq]
    clear hq
    go_wp2_with fail
    go_returns
    exact ⟨by rw [HR.out]; first | rfl | simp, HBw1.out⟩
  · skip
    have hr : rightB k (a, b) = true := by
      unfold rightB
      rw [hq]
      rfl
    have HR := hid hr
    clear hr
    rw [hq]
    clear hq
    go_wp2_with fail
    go_returns
    exact ⟨by rw [HR.out]; first | rfl | simp, HBw1.out⟩
set_option maxHeartbeats 4000000 in
set_option maxRecDepth 100000 in
theorem first_any (a : Option Addr) (len cap : Nat) (L R : List (List Int × List Int)) (k kb : Nat) (w : World) (hE : EntsAt w a len cap (L ++ R)) (hmx : len ≤ 256) (hL : ∀ x ∈ L, rightB k x = false) (hR : ∀ x ∈ R, rightB k x = true) (hkk : k < 256) (hk : Blk w kb #[.int .i64 k] 3) :
    Calls Tryd.prog 83 #[.slice a len cap, .func (.func 84) #[] #[.pointer (some ⟨kb, 0, none⟩)]] w fun e w' => e = .returned (.int .i64 (if R = [] then -1 else (L.length : Int))) ∧ Below w.heap.size w w' := by
  have Hb := hid (Below.refl w.heap.size w)
  have HE := hid hE
  have HK := hid hk
  clear hE hk
  go_enter Tryd.func83, Tryd.ntmps83
  go_wp2_with fail
  go_loopw [8] (fun iv wr => ∃ j : Nat, j ≤ L.length ∧ iv = .int .i64 j ∧ Below w.heap.size w wr) (fun iv _ => len - (intOf iv).toNat)
  case atStart => exact ⟨0, Nat.zero_le _, rfl, Hb.out⟩
  case round =>
    obtain ⟨j, hj, rfl, bel⟩ := hrel
    have HBwr := hid bel
    have hswr := bel.size
    have hE := HE.out.below bel
    have hK := HK.out.below bel
    have hlen := hE.length
    rw [List.length_append] at hlen
    clear bel
    by_cases hcj : j < len
    · skip
      have hcI : (j : Int) < (len : Int) := by omega
      have hwr : wrap64 ((j : Int) + 1) = (j : Int) + 1 := by unfold wrap64; omega
      obtain ⟨x, o, rfl, hx, hc⟩ := hE.at_ (by omega)
      have hRg := hid (hc j hcj)
      have hme : (L ++ R).getD j ([], []) ∈ L ++ R := by rw [List.getD_eq_getElem?_getD, List.getElem?_eq_getElem (by rw [List.length_append]; omega)]; exact List.getElem_mem _
      have HD := hid (hE.each _ hme).1
      have HCJ := hid (hE.each _ hme).2
      have hlj : j < L.length → rightB k ((L ++ R).getD j ([], [])) = false := fun h => by
        rw [List.getD_eq_getElem?_getD, List.getElem?_append_left h, List.getElem?_eq_getElem h]
        exact hL _ (List.getElem_mem h)
      have hrj : j = L.length → rightB k ((L ++ R).getD j ([], [])) = true ∧ R ≠ [] := fun h => by
        have hr0 : 0 < R.length := by omega
        rw [List.getD_eq_getElem?_getD, h, List.getElem?_append_right (Nat.le_refl _), Nat.sub_self, List.getElem?_eq_getElem hr0]
        exact ⟨hR _ (List.getElem_mem hr0), fun e => by rw [e] at hr0; simp at hr0⟩
      generalize (L ++ R).getD j ([], []) = z at *
      obtain ⟨d, c⟩ := z
      have HK1 := hid hK
      have CR := hid (fun (W : World) (h : Blk W kb #[.int .i64 k] 3) => isright_any d c k kb W HD.out hkk h)
      clear hc hme hE hK
      have hHD := HD.out
      have hHC := HCJ.out
      dsimp only at hHD hHC hRg
      have HDd := hid hHD
      have HDc := hid hHC
      clear HD HCJ hHD hHC
      go_wp2_with (first
         | (refine wpList_index_k rfl 36 _ _ rfl Tryd.underlying36 size_entry x o len cap rfl _ _ rfl j rfl (by omega) ?_)
         | (refine wpList_load_mid rfl 25 _ rfl x (o + j * 64) rfl _ _ hRg.out Tryd.underlying25 rfl (by rw [List.length_map]; exact ent_size64 HDd.out HDc.out) ?_))
      refine (CR.out _ HK1.out).mono ?_
      rintro e w5 ⟨rfl, b5⟩
      have HB5 := hid (Below.on HBwr.out b5)
      clear b5
      by_cases hjl : j < L.length
      · skip
        rw [hlj hjl]
        clear hlj hrj
        go_wp2_with fail
        exact ⟨⟨j + 1, by omega, by first | rfl | simp, HB5.out⟩, by simp [intOf]; omega⟩
      · skip
        have hje : j = L.length := by omega
        obtain ⟨hr1, hr2⟩ := hrj hje
        rw [hr1]
        clear hlj hrj hr1
        go_wp2_with fail
        go_returns
        exact ⟨by first | rfl | rw [hje] | rw [if_neg hr2, hje], HB5.out⟩
    · skip
      have hcI : ¬ (j : Int) < (len : Int) := by omega
      have hr : R = [] := List.eq_nil_of_length_eq_zero (by omega)
      clear hE hK
      go_wp2_with fail
      go_returns
      exact ⟨by first | rfl | rw [if_pos hr], HBwr.out⟩
/-- Where a part of a row of entries begins. -/
def cutE (a : Option Addr) (l cap : Nat) : Option Addr := if cap = l then a else a.map (·.add (l * 64))
theorem EntsAt.tail {w : World} {a : Option Addr} {len cap : Nat} {L R : List (List Int × List Int)} (h : EntsAt w a len cap (L ++ R)) : EntsAt w (cutE a L.length cap) (len - L.length) (cap - L.length) R := by
  obtain ⟨h1, h2, h3, h4⟩ := h
  rw [List.length_append] at h1
  refine ⟨by omega, by omega, fun x hx => h3 x (List.mem_append_right _ hx), ?_⟩
  rcases Nat.eq_zero_or_pos (len - L.length) with h0 | h0
  · exact .inl h0
  · rcases h4 with h4 | ⟨x, o, rfl, hx, hc⟩
    · omega
    · refine .inr ⟨x, o + L.length * 64, by unfold cutE; rw [if_neg (by omega), Option.map_some, Addr.add_mid], hx, fun j hj => ?_⟩
      have h5 := hc (L.length + j) (by omega)
      rw [show (L ++ R).getD (L.length + j) ([], []) = R.getD j ([], []) by rw [List.getD_eq_getElem?_getD, List.getD_eq_getElem?_getD, List.getElem?_append_right (by omega), Nat.add_sub_cancel_left]] at h5
      rw [show o + L.length * 64 + j * 64 = o + (L.length + j) * 64 by omega]
      exact h5
theorem EntsAt.head {w : World} {a : Option Addr} {len cap : Nat} {L R : List (List Int × List Int)} (h : EntsAt w a len cap (L ++ R)) : EntsAt w a L.length cap L := by
  obtain ⟨h1, h2, h3, h4⟩ := h
  rw [List.length_append] at h1
  refine ⟨rfl, by omega, fun x hx => h3 x (List.mem_append_left _ hx), ?_⟩
  rcases h4 with h4 | ⟨x, o, rfl, hx, hc⟩
  · exact .inl (by omega)
  · refine .inr ⟨x, o, rfl, hx, fun j hj => ?_⟩
    have h5 := hc j (by omega)
    rw [show (L ++ R).getD j ([], []) = L.getD j ([], []) by rw [List.getD_eq_getElem?_getD, List.getD_eq_getElem?_getD, List.getElem?_append_left hj]] at h5
    exact h5
theorem quiet_cute_h {op : Oper} {a : Act} {C : World → Prop} {K : Act → Prop} (x y : Operand) (ho : op.op = .slice 36 x none (some y) none) (a0 : Option Addr) (len cap n : Nat) (v : Int) (hx : a.eval x = .slice a0 len cap) (hy : a.eval y = .int .i64 v) (hv : v = n) (hn : n ≤ cap)
    (h : K (a.put op.dst (.slice a0 n cap))) : op.quiet Tryd.prog a C K :=
  ⟨.slice a0 n cap, fun w' _ => by
    subst hv
    have he : Tryd.prog.elem 36 = 25 := by simp [Program.elem, Tryd.underlying36]
    have hr : (Instr.slice 36 (.slice a0 len cap) none (some (.int .i64 (n : Int))) none).run Tryd.prog w' = .ok (.slice a0 n cap) w' := by
      rw [run_slice_h (w := w') 36 a0 len cap (by rw [he]; exact Tryd.underlying36) _ (n : Int) (by omega) (by omega)]
      obtain ⟨i, hi1, hi2⟩ := Option.map_eq_some_iff.1 size_entry
      cases a0 with
      | none => simp [sizeOf, typeInfo, he, hi1, sliced]
      | some p => obtain ⟨x1, o1, s1⟩ := p; cases s1 <;> simp [sizeOf, typeInfo, he, hi1, sliced, Addr.add]
    have hs := run_sliceAt_slice (P := Tryd.prog) (w := w') 36 (.slice a0 len cap) none (some (.int .i64 n)) none (by rw [he]; exact Tryd.underlying36)
    rw [hr] at hs
    unfold Oper.quietAt execOp
    simp only [ho, hx, hy, Option.map_none, Option.map_some, Sem.run_bind, Sem.run_pure, Result.andThen_ok, hs]
    simp [Oper.quietUpon], h⟩
theorem quiet_cute_l {op : Oper} {a : Act} {C : World → Prop} {K : Act → Prop} (x y : Operand) (ho : op.op = .slice 36 x (some y) none none) (a0 : Option Addr) (len cap n : Nat) (v : Int) (hx : a.eval x = .slice a0 len cap) (hy : a.eval y = .int .i64 v) (hv : v = n) (hn : n ≤ len)
    (h : K (a.put op.dst (.slice (cutE a0 n cap) (len - n) (cap - n)))) : op.quiet Tryd.prog a C K :=
  ⟨.slice (cutE a0 n cap) (len - n) (cap - n), fun w' _ => by
    subst hv
    have he : Tryd.prog.elem 36 = 25 := by simp [Program.elem, Tryd.underlying36]
    have hr : (Instr.slice 36 (.slice a0 len cap) (some (.int .i64 (n : Int))) none none).run Tryd.prog w' = .ok (.slice (cutE a0 n cap) (len - n) (cap - n)) w' := by
      rw [run_slice_l (w := w') 36 a0 len cap (by rw [he]; exact Tryd.underlying36) _ (n : Int) (by omega) (by omega)]
      obtain ⟨i, hi1, hi2⟩ := Option.map_eq_some_iff.1 size_entry
      simp [sizeOf, typeInfo, he, hi1, hi2, sliced, cutE]
    have hs := run_sliceAt_slice (P := Tryd.prog) (w := w') 36 (.slice a0 len cap) (some (.int .i64 n)) none none (by rw [he]; exact Tryd.underlying36)
    rw [hr] at hs
    unfold Oper.quietAt execOp
    simp only [ho, hx, hy, Option.map_none, Option.map_some, Sem.run_bind, Sem.run_pure, Result.andThen_ok, hs]
    simp [Oper.quietUpon], h⟩
set_option maxHeartbeats 4000000 in
set_option maxRecDepth 100000 in
theorem halves_any (a : Option Addr) (len cap : Nat) (L R : List (List Int × List Int)) (k : Nat) (w : World) (hE : EntsAt w a len cap (L ++ R)) (hmx : len ≤ 256) (hL : ∀ x ∈ L, rightB k x = false) (hR : ∀ x ∈ R, rightB k x = true) (hkk : k < 256) :
    Calls Tryd.prog 53 #[.slice a len cap, .int .i64 (k : Int)] w fun e w' => ∃ a1 c1 a2 c2, e = .returned (.tuple #[.slice a1 L.length c1, .slice a2 R.length c2]) ∧ EntsAt w' a1 L.length c1 L ∧ EntsAt w' a2 R.length c2 R ∧ Below w.heap.size w w' := by
  have b1 := (Below.refl w.heap.size w).alloc (Nat.le_refl _) (.cells #[.int .i64 (k : Int)] 3 (0, 0))
  have Kk := hid (Blk.new (w := w) (n := w.heap.size) rfl #[.int .i64 (k : Int)] 3)
  have Hb := hid b1
  have hbz := b1.size
  have Hbs := hid (show w.heap.size + 1 = (w.alloc (.cells #[.int .i64 (k : Int)] 3 (0, 0))).heap.size by simp only [World.size_alloc])
  clear b1 
  have HE := hid (hE.below Hb.out)
  have hlen := hE.length
  rw [List.length_append] at hlen
  clear hE
  go_enter Tryd.func53, Tryd.ntmps53
  go_wp2_with fail
  refine (first_any a len cap L R k w.heap.size _ HE.out hmx hL hR hkk Kk.out).mono ?_
  rintro e w1 ⟨rfl, b1⟩
  have HB1 := hid (Below.on Hb.out b1)
  have HE1 := hid (HE.out.below b1)
  clear b1
  obtain ⟨i, hi⟩ : ∃ i : Nat, i = L.length := ⟨_, rfl⟩
  have hfin : ∀ W : World, EntsAt W a len cap (L ++ R) → EntsAt W a i cap L ∧ EntsAt W (cutE a i cap) (len - i) (cap - i) R := fun W h => by rw [hi]; exact ⟨h.head, h.tail⟩
  have HFN := hid hfin
  have hil : i ≤ len := by omega
  have hRl : R.length = len - i := by omega
  clear hfin
  by_cases hr : R = []
  · skip
    have hie : L.length = len := by rw [hr] at hlen; simpa using hlen
    rw [if_pos hr]
    have hIE := hid hie
    have HI := hid hi
    have HR := hid hRl
    have HLN := hid hlen
    have hcap := HE1.out.le
    clear hi hlen hRl hie hr
    obtain rfl : i = len := by have := HI.out; have := hIE.out; omega
    go_wp2_with fail
    refine wp_region_flow 8 (List.range 8) [] [] (by kernel_rfl) (by kernel_rfl) ?_
    apply Exists.intro
    refine ⟨fun w0 hb0 hF0 => ?_, ?_⟩
    · skip
      simp only [pick, List.range, List.range.loop, List.getElem?_toArray, List.getElem?_cons_succ, List.getElem?_cons_zero, Option.toList_some, List.cons_append, List.nil_append]
      repeat (first | (go_big_quiet_want; refine quiet_cute_h _ _ rfl a i cap i _ rfl rfl (by omega) (by omega) ?_; go_big_quiet_on; simp only [Act.put, List.setIfInBounds_toArray, List.set_cons_zero, List.set_cons_succ]) | (go_big_quiet_want; refine quiet_cute_l _ _ rfl a i cap i _ rfl rfl (by omega) (by omega) ?_; go_big_quiet_on; simp only [Act.put, List.setIfInBounds_toArray, List.set_cons_zero, List.set_cons_succ]) | go_big_quiet_step (fail))
      exact wpQuiet_nil rfl
    refine AlChk.nil ?_
    refine Walk.fin fun w6 hw6 _ _ => ?_
    simp only [List.drop_succ_cons, List.drop_zero]
    have Hw6 := hid hw6
    have HBw6 := hid (Below.on HB1.out hw6)
    have hsw6 := HBw6.out.size
    clear hw6
    go_wp2_with fail
    go_returns
    have h := HFN.out _ (HE1.out.below Hw6.out)
    exact ⟨a, cap, cutE a i cap, cap - i, by rw [← HI.out, HR.out]; rfl, by rw [← HI.out]; exact h.1, by rw [HR.out]; exact h.2, HBw6.out⟩
  · skip
    rw [if_neg hr]
    rw [← hi]
    have HI := hid hi
    have HR := hid hRl
    have HLN := hid hlen
    have hcap := HE1.out.le
    clear hi hlen hRl hr
    go_wp2_with fail
    refine wp_region_flow 8 (List.range 8) [] [] (by kernel_rfl) (by kernel_rfl) ?_
    apply Exists.intro
    refine ⟨fun w0 hb0 hF0 => ?_, ?_⟩
    · skip
      simp only [pick, List.range, List.range.loop, List.getElem?_toArray, List.getElem?_cons_succ, List.getElem?_cons_zero, Option.toList_some, List.cons_append, List.nil_append]
      repeat (first | (go_big_quiet_want; refine quiet_cute_h _ _ rfl a len cap i _ rfl rfl (by omega) (by omega) ?_; go_big_quiet_on; simp only [Act.put, List.setIfInBounds_toArray, List.set_cons_zero, List.set_cons_succ]) | (go_big_quiet_want; refine quiet_cute_l _ _ rfl a len cap i _ rfl rfl (by omega) (by omega) ?_; go_big_quiet_on; simp only [Act.put, List.setIfInBounds_toArray, List.set_cons_zero, List.set_cons_succ]) | go_big_quiet_step (fail))
      exact wpQuiet_nil rfl
    refine AlChk.nil ?_
    refine Walk.fin fun w6 hw6 _ _ => ?_
    simp only [List.drop_succ_cons, List.drop_zero]
    have Hw6 := hid hw6
    have HBw6 := hid (Below.on HB1.out hw6)
    have hsw6 := HBw6.out.size
    clear hw6
    go_wp2_with fail
    go_returns
    have h := HFN.out _ (HE1.out.below Hw6.out)
    exact ⟨a, cap, cutE a i cap, cap - i, by rw [← HI.out, HR.out]; rfl, by rw [← HI.out]; exact h.1, by rw [HR.out]; exact h.2, HBw6.out⟩
set_option maxHeartbeats 4000000 in
set_option maxRecDepth 100000 in
theorem node_empty (fa : Option Addr) (fn fc g : Nat) (a : Option Addr) (len cap : Nat) (es : List (List Int × List Int)) (k : Nat) (w : World) (hE : EntsAt w a len cap es) (hg : Blk w g (dcs (empN 257)) 23) (tab : ShaTab w) (h0 : len = 0) (hk : k ≤ 256) :
    Calls Tryd.prog 50 #[.agg #[.slice fa fn fc, .slice (some ⟨g, 0, none⟩) 257 257], .slice a len cap, .int .i64 (k : Nat)] w fun e w' => e = .returned (.agg ((nodeT k es).map (Value.int .u8)).toArray) ∧ Below w.heap.size w w' := by
  have b1 := (Below.refl w.heap.size w).alloc (Nat.le_refl _) (.cells #[.slice fa fn fc, .slice (some ⟨g, 0, none⟩) 257 257] 76 (0, 0))
  have b2 := b1.alloc b1.size (.cells (byteCells 32 []) 23 (0, 0))
  have Kx := hid ((Blk.new (w := w) (n := w.heap.size) rfl #[.slice fa fn fc, .slice (some ⟨g, 0, none⟩) 257 257] 76).old (.cells (byteCells 32 []) 23 (0, 0)))
  have Kr := hid (Blk.new (w := (w.alloc (.cells #[.slice fa fn fc, .slice (some ⟨g, 0, none⟩) 257 257] 76 (0, 0)))) (n := w.heap.size + 1) (by simp only [World.size_alloc]) (byteCells 32 []) 23)
  have Hb := hid b2
  have hbz := b2.size
  have Hbs := hid (show w.heap.size + 1 + 1 = ((w.alloc (.cells #[.slice fa fn fc, .slice (some ⟨g, 0, none⟩) 257 257] 76 (0, 0))).alloc (.cells (byteCells 32 []) 23 (0, 0))).heap.size by simp only [World.size_alloc])
  have Htab := hid tab
  clear b1 b2 tab 
  have HE := hid (hE.below Hb.out)
  have HG := hid (hg.below Hb.out)
  have hlen := hE.length
  clear hE hg
  obtain rfl := List.eq_nil_of_length_eq_zero (show es.length = 0 by omega)
  have Hrg := hid (by have h := dig_rng HG.out (empN_each 257) (j := k) (by rw [empN_length]; omega); rw [empN_get (by omega)] at h; exact h)
  have hXX := nodeT_nil k
  have HX := hid (Dg.emptyL k)
  generalize hX1 : emptyL k = X at *
  subst h0
  go_enter Tryd.func50, Tryd.ntmps50
  have cx1 : ((w.alloc (.cells #[.slice fa fn fc, .slice (some ⟨g, 0, none⟩) 257 257] 76 (0, 0))).alloc (.cells (byteCells 32 []) 23 (0, 0))).cell? ⟨w.heap.size, 1, none⟩ = some (.slice (some ⟨g, 0, none⟩) 257 257) := by rw [Kx.out.cell]; rfl
  have HXX := hid hXX
  clear hXX
  go_wp2_with (first
     | (refine wpList_index_digs rfl 27 _ _ rfl Tryd.underlying27 size_digest g 0 257 257 rfl _ _ rfl k rfl (by omega) ?_)
     | (refine wpList_load_mid rfl 23 _ rfl g (0 + k * 32) rfl _ _ Hrg.out Tryd.underlying23 rfl (by rw [List.length_map, HX.out.len]; exact size_digest) ?_)
     | (
      refine wpList_store_blk rfl 23 _ _ rfl (w.heap.size + 1) (X.map (Value.int .u8)).toArray rfl rfl _ 23 Kr.out 32 size_digest zsize HX.out.size (ints_one _ _) ?_
      intro w99 hb99 hk99
      have HB99 := hid (hb99.below Hb.out Hb.out.size (by omega))
      have HK99 := hid hk99
      clear hb99 hk99))
  exact bodyPost_ret (v := .agg (X.map (Value.int .u8)).toArray) (results_blk Tryd.results50 _ (w.heap.size + 1) rfl _ 23 HK99.out _ Tryd.underlying23 rfl 32 size_digest HX.out.size) rfl ⟨by first | rfl | rw [HXX.out], HB99.out⟩
set_option maxHeartbeats 4000000 in
set_option maxRecDepth 100000 in
theorem node_place (fa : Option Addr) (fn fc g : Nat) (a : Option Addr) (len cap : Nat) (es : List (List Int × List Int)) (w : World) (hE : EntsAt w a len cap es) (hg : Blk w g (dcs (empN 257)) 23) (tab : ShaTab w) (h0 : 0 < len) :
    Calls Tryd.prog 50 #[.agg #[.slice fa fn fc, .slice (some ⟨g, 0, none⟩) 257 257], .slice a len cap, .int .i64 (0 : Nat)] w fun e w' => e = .returned (.agg ((nodeT 0 es).map (Value.int .u8)).toArray) ∧ Below w.heap.size w w' := by
  have b1 := (Below.refl w.heap.size w).alloc (Nat.le_refl _) (.cells #[.slice fa fn fc, .slice (some ⟨g, 0, none⟩) 257 257] 76 (0, 0))
  have b2 := b1.alloc b1.size (.cells (byteCells 32 []) 23 (0, 0))
  have Kx := hid ((Blk.new (w := w) (n := w.heap.size) rfl #[.slice fa fn fc, .slice (some ⟨g, 0, none⟩) 257 257] 76).old (.cells (byteCells 32 []) 23 (0, 0)))
  have Kr := hid (Blk.new (w := (w.alloc (.cells #[.slice fa fn fc, .slice (some ⟨g, 0, none⟩) 257 257] 76 (0, 0)))) (n := w.heap.size + 1) (by simp only [World.size_alloc]) (byteCells 32 []) 23)
  have Hb := hid b2
  have hbz := b2.size
  have Hbs := hid (show w.heap.size + 1 + 1 = ((w.alloc (.cells #[.slice fa fn fc, .slice (some ⟨g, 0, none⟩) 257 257] 76 (0, 0))).alloc (.cells (byteCells 32 []) 23 (0, 0))).heap.size by simp only [World.size_alloc])
  have Htab := hid tab
  clear b1 b2 tab 
  have HE := hid (hE.below Hb.out)
  have HG := hid (hg.below Hb.out)
  have hlen := hE.length
  clear hE hg
  obtain ⟨⟨d, c⟩, es, rfl⟩ : ∃ z l, es = z :: l := by
    cases es with
    | nil => simp at hlen; omega
    | cons z l => exact ⟨z, l, rfl⟩
  obtain ⟨x, o, rfl, hx, hc⟩ := HE.out.at_ (by omega)
  have hRg := hid (hc 0 (by omega))
  have hd : Dg d ∧ Dg c := HE.out.each (d, c) (by simp)
  have HDd := hid hd.1
  have HDc := hid hd.2
  have CL := hid (fun (W : World) (t : ShaTab W) => leaf_any d c W HDd.out HDc.out t)
  have HX := hid (Dg.leafE d c)
  have HXX := hid (show nodeT 0 ((d, c) :: es) = leafE d c from rfl)
  rw [List.getD_cons_zero] at hRg
  generalize leafE d c = X at *
  have hl0 : ¬ (len : Int) = 0 := by omega
  have hl1 : ((len : Int) == 0) = false := by simp; omega
  clear hc hd
  go_enter Tryd.func50, Tryd.ntmps50
  go_wp2_with (first
     | (refine wpList_index_k rfl 36 _ _ rfl Tryd.underlying36 size_entry x o len cap rfl _ _ rfl 0 rfl (by omega) ?_)
     | (refine wpList_load_mid rfl 25 _ rfl x (o + 0 * 64) rfl _ _ hRg.out Tryd.underlying25 rfl (by rw [List.length_map]; exact ent_size64 HDd.out HDc.out) ?_))
  refine (CL.out _ (Htab.out.below Hb.out)).mono ?_
  rintro e w1 ⟨rfl, bw1⟩
  have HBw1 := hid (Below.on Hb.out bw1)
  have hsw1 := HBw1.out.size
  have Kxw1 := hid (Kx.out.below bw1)
  have Krw1 := hid (Kr.out.below bw1)
  clear bw1
  go_wp2_with (
      refine wpList_store_blk rfl 23 _ _ rfl (w.heap.size + 1) (X.map (Value.int .u8)).toArray rfl rfl _ 23 Krw1.out 32 size_digest zsize HX.out.size (ints_one _ _) ?_
      intro w99 hb99 hk99
      have HB99 := hid (hb99.below HBw1.out HBw1.out.size (by omega))
      have HK99 := hid hk99
      clear hb99 hk99)
  exact bodyPost_ret (v := .agg (X.map (Value.int .u8)).toArray) (results_blk Tryd.results50 _ (w.heap.size + 1) rfl _ 23 HK99.out _ Tryd.underlying23 rfl 32 size_digest HX.out.size) rfl ⟨by first | rfl | rw [HXX.out], HB99.out⟩
theorem Dg.nodeT : ∀ (k : Nat) (es : List (List Int × List Int)), (∀ x ∈ es, Dg x.1 ∧ Dg x.2) → Dg (nodeT k es)
  | 0, [], _ => Dg.emptyL 0
  | 0, _ :: _, _ => Dg.leafE _ _
  | _ + 1, _, _ => Dg.nodeL _ _
set_option maxHeartbeats 4000000 in
set_option maxRecDepth 100000 in
theorem node_two (fa : Option Addr) (fn fc g : Nat) (a : Option Addr) (len cap : Nat) (es : List (List Int × List Int)) (k : Nat) (w : World) (hE : EntsAt w a len cap es) (hg : Blk w g (dcs (empN 257)) 23) (tab : ShaTab w) (h0 : 0 < len) (hmx : len ≤ 256) (hk : k < 256) (hes : SplitT (k + 1) es)
    (ih : ∀ (a : Option Addr) (len cap : Nat) (es : List (List Int × List Int)) (W : World), SplitT k es → EntsAt W a len cap es → len ≤ 256 → Blk W g (dcs (empN 257)) 23 → ShaTab W → Calls Tryd.prog 50 #[.agg #[.slice fa fn fc, .slice (some ⟨g, 0, none⟩) 257 257], .slice a len cap, .int .i64 (k : Nat)] W fun e w' => e = .returned (.agg ((nodeT k es).map (Value.int .u8)).toArray) ∧ Below W.heap.size W w') :
    Calls Tryd.prog 50 #[.agg #[.slice fa fn fc, .slice (some ⟨g, 0, none⟩) 257 257], .slice a len cap, .int .i64 ((k + 1) : Nat)] w fun e w' => e = .returned (.agg ((nodeT (k + 1) es).map (Value.int .u8)).toArray) ∧ Below w.heap.size w w' := by
  have b1 := (Below.refl w.heap.size w).alloc (Nat.le_refl _) (.cells #[.slice fa fn fc, .slice (some ⟨g, 0, none⟩) 257 257] 76 (0, 0))
  have b2 := b1.alloc b1.size (.cells (byteCells 32 []) 23 (0, 0))
  have Kx := hid ((Blk.new (w := w) (n := w.heap.size) rfl #[.slice fa fn fc, .slice (some ⟨g, 0, none⟩) 257 257] 76).old (.cells (byteCells 32 []) 23 (0, 0)))
  have Kr := hid (Blk.new (w := (w.alloc (.cells #[.slice fa fn fc, .slice (some ⟨g, 0, none⟩) 257 257] 76 (0, 0)))) (n := w.heap.size + 1) (by simp only [World.size_alloc]) (byteCells 32 []) 23)
  have Hb := hid b2
  have hbz := b2.size
  have Hbs := hid (show w.heap.size + 1 + 1 = ((w.alloc (.cells #[.slice fa fn fc, .slice (some ⟨g, 0, none⟩) 257 257] 76 (0, 0))).alloc (.cells (byteCells 32 []) 23 (0, 0))).heap.size by simp only [World.size_alloc])
  have Htab := hid tab
  clear b1 b2 tab 
  have HE := hid (hE.below Hb.out)
  have HG := hid (hg.below Hb.out)
  have hlen := hE.length
  clear hE hg
  have hl0 : ¬ (len : Int) = 0 := by omega
  have hl1 : ((len : Int) == 0) = false := by simp; omega
  have hk0 : ¬ ((k + 1 : Nat) : Int) = 0 := by omega
  have hk1 : (((k + 1 : Nat) : Int) == 0) = false := by simp; omega
  have hk2 : wrap64 (((k + 1 : Nat) : Int) - 1) = (k : Int) := by unfold wrap64; omega
  have HES := hid hes
  have HI := hid ih
  have CN := hid (fun (W : World) (t : ShaTab W) => lonode_any (nodeT k (es.filter fun x => !rightB k x)) (nodeT k (es.filter (rightB k))) W (Dg.nodeT k _ (fun x hx => HE.out.each x (List.mem_filter.1 hx).1)) (Dg.nodeT k _ (fun x hx => HE.out.each x (List.mem_filter.1 hx).1)) t)
  have hXX : nodeT (k + 1) es = nodeL (nodeT k (es.filter fun x => !rightB k x)) (nodeT k (es.filter (rightB k))) := rfl
  have HX := hid (Dg.nodeL (nodeT k (es.filter fun x => !rightB k x)) (nodeT k (es.filter (rightB k))))
  have HXX := hid hXX
  rw [hes.1] at HE
  have hL : ∀ x ∈ (es.filter fun x => !rightB k x), rightB k x = false := fun x hx => by simpa using (List.mem_filter.1 hx).2
  have hR : ∀ x ∈ es.filter (rightB k), rightB k x = true := fun x hx => (List.mem_filter.1 hx).2
  have hSL := hes.2.1
  have hSR := hes.2.2
  have CH := hid (fun (W : World) (h : EntsAt W a len cap ((es.filter fun x => !rightB k x) ++ es.filter (rightB k))) => halves_any a len cap _ _ k W h hmx hL hR (by omega))
  have HSL := hid hSL
  have HSR := hid hSR
  have hsum := HE.out.length
  rw [List.length_append] at hsum
  generalize (es.filter fun x => !rightB k x) = L at *
  generalize es.filter (rightB k) = R at *
  generalize hNL : nodeT k L = NL at *
  generalize hNR : nodeT k R = NR at *
  generalize nodeL NL NR = X at *
  have HNL := hid hNL
  have HNR := hid hNR
  clear hes ih hXX hL hR hSL hSR hNL hNR HES
  go_enter Tryd.func50, Tryd.ntmps50
  go_wp2_with fail
  refine (CH.out _ HE.out).mono ?_
  rintro e w1 ⟨a1, c1, a2, c2, rfl, e1, e2, b1⟩
  have HE1 := hid e1
  have HE2 := hid e2
  have HG1 := hid (HG.out.below b1)
  have HBw1 := hid (Below.on Hb.out b1)
  have hsw1 := HBw1.out.size
  have Kxw1 := hid (Kx.out.below b1)
  have Krw1 := hid (Kr.out.below b1)
  clear b1 e1 e2
  go_wp2_with fail
  refine wp_region_flow 11 (List.range 11) [] [] (by kernel_rfl) (by kernel_rfl) ?_
  apply Exists.intro
  refine ⟨fun w0 hb0 hF0 => ?_, ?_⟩
  · skip
    have x0 : ∀ w', (∃ x : Ext w0, w' = x.at_) → ∃ T, Blk w' (w.heap.size) #[.slice fa fn fc, .slice (some ⟨g, 0, none⟩) 257 257] T := fun w' ⟨x, hx⟩ => ⟨_, hx ▸ (Kxw1.out.below hb0).below x.same⟩
    have c0 := fun e : Ext w0 => (HNL.out ▸ HI.out a1 L.length c1 L e.at_ HSL.out (HE1.out.below (Below.on hb0 e.same)) (by omega) (HG1.out.below (Below.on hb0 e.same)) (Htab.out.below (Below.on HBw1.out (Below.on hb0 e.same))))
    have c1 := fun e : Ext w0 => (HNR.out ▸ HI.out a2 R.length c2 R e.at_ HSR.out (HE2.out.below (Below.on hb0 e.same)) (by omega) (HG1.out.below (Below.on hb0 e.same)) (Htab.out.below (Below.on HBw1.out (Below.on hb0 e.same))))
    have c2 := fun e : Ext w0 => CN.out e.at_ (Htab.out.below (Below.on HBw1.out (Below.on hb0 e.same)))
    simp only [pick, List.range, List.range.loop, List.getElem?_toArray, List.getElem?_cons_succ, List.getElem?_cons_zero, Option.toList_some, List.cons_append, List.nil_append]
    repeat (first | (go_big_quiet_want; refine quiet_load_blk 76 _ rfl (w.heap.size) rfl _ x0 _ Tryd.underlying76 rfl 2 size_forest rfl ?_; go_big_quiet_on; simp only [Act.put, List.setIfInBounds_toArray, List.set_cons_zero, List.set_cons_succ]) | go_big_quiet_step (first | (go_at_call 50; with_reducible exact Calls.ext (c0 _)) | (go_at_call 50; with_reducible exact Calls.ext (c1 _)) | (go_at_call 17; with_reducible exact Calls.ext (c2 _))))
    exact wpQuiet_nil rfl
  refine AlChk.nil ?_
  refine Walk.fin fun w2 hw2 _ _ => ?_
  simp only [List.drop_succ_cons, List.drop_zero]
  have HBw2 := hid (Below.on HBw1.out hw2)
  have hsw2 := HBw2.out.size
  have Kxw2 := hid (Kxw1.out.below hw2)
  have Krw2 := hid (Krw1.out.below hw2)
  clear hw2
  go_wp2_with (
      refine wpList_store_blk rfl 23 _ _ rfl (w.heap.size + 1) (X.map (Value.int .u8)).toArray rfl rfl _ 23 Krw2.out 32 size_digest zsize HX.out.size (ints_one _ _) ?_
      intro w99 hb99 hk99
      have HB99 := hid (hb99.below HBw2.out HBw2.out.size (by omega))
      have HK99 := hid hk99
      clear hb99 hk99)
  exact bodyPost_ret (v := .agg (X.map (Value.int .u8)).toArray) (results_blk Tryd.results50 _ (w.heap.size + 1) rfl _ 23 HK99.out _ Tryd.underlying23 rfl 32 size_digest HX.out.size) rfl ⟨by first | rfl | rw [HXX.out], HB99.out⟩
/-- The node of a level above all entries of a row, which may be halved. -/
theorem node_all (fa : Option Addr) (fn fc g : Nat) : ∀ (k : Nat), k ≤ 256 → ∀ (a : Option Addr) (len cap : Nat) (es : List (List Int × List Int)) (W : World), SplitT k es → EntsAt W a len cap es → len ≤ 256 → Blk W g (dcs (empN 257)) 23 → ShaTab W →
    Calls Tryd.prog 50 #[.agg #[.slice fa fn fc, .slice (some ⟨g, 0, none⟩) 257 257], .slice a len cap, .int .i64 (k : Nat)] W fun e w' => e = .returned (.agg ((nodeT k es).map (Value.int .u8)).toArray) ∧ Below W.heap.size W w'
  | 0, _, a, len, cap, es, W, _, hE, _, hg, tab => by
    rcases Nat.eq_zero_or_pos len with h | h
    · exact node_empty fa fn fc g a len cap es 0 W hE hg tab h (by omega)
    · exact node_place fa fn fc g a len cap es W hE hg tab h
  | k + 1, hk, a, len, cap, es, W, hs, hE, hmx, hg, tab => by
    rcases Nat.eq_zero_or_pos len with h | h
    · exact node_empty fa fn fc g a len cap es (k + 1) W hE hg tab h hk
    · exact node_two fa fn fc g a len cap es k W hE hg tab h hmx (by omega) hs (node_all fa fn fc g k (by omega))
end Go.Proofs.YthaicocfbmpnmaaDoor
