/-
  Layer 18: siblings' function: a walk over the places with a contract.
-/
import Derived.Test.YthaicocfbmpnmaaDoorPrI
namespace Go.Proofs.YthaicocfbmpnmaaDoor
open Go.ChangeShapes Go.WideShapes Go.ChangeAt Go.RowKit Go.Shelf
attribute [local go_sem] Oper.semAt_some

theorem quiet_cut_l {op : Oper} {a : Act} {C : World → Prop} {K : Act → Prop} (x y : Operand) (ho : op.op = .slice 27 x (some y) none none) (a0 : Option Addr) (len cap n : Nat) (v : Int) (hx : a.eval x = .slice a0 len cap) (hy : a.eval y = .int .i64 v) (hv : v = n) (hn : n ≤ len)
    (h : K (a.put op.dst (.slice (cutD a0 n cap) (len - n) (cap - n)))) : op.quiet Tryd.prog a C K :=
  ⟨.slice (cutD a0 n cap) (len - n) (cap - n), fun w' _ => by
    subst hv
    have hr := run_cutd_l (P := Tryd.prog) Tryd.underlying27 size_digest a0 len cap (n : Int) w' (by omega) (by omega)
    rw [Int.toNat_natCast] at hr
    have he : Tryd.prog.elem 27 = 23 := by simp [Program.elem, Tryd.underlying27]
    have hs := run_sliceAt_slice (P := Tryd.prog) (w := w') 27 (.slice a0 len cap) (some (.int .i64 n)) none none (by rw [he]; exact Tryd.underlying27)
    rw [hr] at hs
    unfold Oper.quietAt execOp
    simp only [ho, hx, hy, Option.map_none, Option.map_some, Sem.run_bind, Sem.run_pure, Result.andThen_ok, hs]
    simp [Oper.quietUpon], h⟩
theorem cut_one {w : World} {a : Option Addr} {len cap q : Nat} {ns : List (List Int)} (h : DigsAt w a (len - q) (cap - q) (ns.drop q)) (hq : q + 1 ≤ len) : DigsAt w (cutD a 1 (cap - q)) (len - (q + 1)) (cap - (q + 1)) (ns.drop (q + 1)) := by
  have h1 := h.cut 1 (len - q) (by omega) (Nat.le_refl _)
  rw [List.drop_drop, List.take_of_length_le (by have := h.length; rw [List.length_drop] at this; rw [List.length_drop]; omega), Nat.sub_sub, Nat.sub_sub, show q + 1 = q + 1 from rfl] at h1
  exact h1
set_option maxHeartbeats 4000000 in
set_option maxRecDepth 100000 in
theorem siblings_stops (n : Nat) (d : List Int) (ad : Option Addr) (len cap : Nat) (ns : List (List Int)) (pb : Nat) (w W0 : World) (hd : Dg d) (hn : knN d 256 = len) (hns : DigsAt w ad len cap ns) (hB : Below w.heap.size w W0) (hpb : w.heap.size < pb) (hk : Blk W0 pb (prC d (.slice ad len cap)).toArray 46) (tab : ShaTab W0) :
    SeqStopsK Fence.wide n Tryd.prog 86 #[.pointer (some ⟨pb, 0, none⟩)] (fun k : Fin 256 => #[.int .i64 (k.1 : Int), .agg ((sibL d ns k.1).map (Value.int .u8)).toArray]) (KeepC w.heap.size) (fun ys => ys = upF 256) (fun pre => ∃ k, k ≤ 256 ∧ pre = upF k) 256 W0 := fun l J Jx W hW hJ hJx hY h0 => by
  have HK := hid (hk.below hW)
  have HB := hid (Below.on hB hW)
  have HT := hid (tab.below hW)
  have HNS := hid hns
  have HY := hid hY
  have HJ := hid hJ
  have H0 := hid h0
  have hpl := HK.out.lt
  have hws := HB.out.size
  have CE := hid (fun (W : World) (t : ShaTab W) => empty_any W t)
  have hEe := hid (empN_each 257)
  have hEl := hid (empN_length 257)
  have hEg := hid (fun (k : Nat) (h : k < 257) => empN_get (n := 257) (k := k) h)
  generalize empN 257 = es at *
  have c1 : W.cell? ⟨pb, 32, none⟩ = some (.slice ad len cap) := prC_nodes hd HK.out
  clear hW hB tab hns hY hJ hJx h0 hk
  refine callsIn_of_wp Tryd.func86 rfl trivial ?_ rfl
  simp only [Tryd.ntmps86, List.size_toArray, List.length_cons, List.length_nil, Nat.reduceAdd, Nat.reduceSub, Array.replicate_succ, Array.replicate_zero, List.push_toArray, List.append_toArray, List.nil_append, List.cons_append]
  apply wpIn_seq_k
  intro _ _
  refine wpIn_region_as rfl rfl ?_
  go_wp2_with fail
  apply wpIn_seq_k
  intro _ _
  refine wpIn_region_as rfl rfl ?_
  go_wp2_with fail
  refine (CE.out _ HT.out).mono ?_
  rintro e w1 ⟨rfl, b1, k1⟩
  have HK1 := hid (HK.out.below b1)
  have HB1 := hid (Below.on HB.out b1)
  have hb1s := b1.size
  have HG1 := hid k1
  have HJ1 := hid (HJ.out [] W w1 none H0.out (grown_below b1) (by intro r e; cases e))
  have hcut : ∀ W' : World, (Instr.slice 27 (.slice (some ⟨W.heap.size, 0, none⟩) 257 257) none (some (.int .i64 256)) none).run Tryd.prog W' = .ok (.slice (some ⟨W.heap.size, 0, none⟩) 256 257) W' := fun W' => by
    have h := run_cutd_h (P := Tryd.prog) Tryd.underlying27 size_digest (some ⟨W.heap.size, 0, none⟩) 257 257 256 W' (by omega) (by omega)
    exact h
  clear b1 k1 c1
  go_wp2_with fail
  apply wpIn_block
  gi_loopw [3, 11] (fun rv kv wr => ∃ k : Nat, k ≤ 256 ∧ kv = .int .i64 k ∧ (∃ ra, rv = .slice ra (len - knN d k) (cap - knN d k) ∧ DigsAt w ra (len - knN d k) (cap - knN d k) (ns.drop (knN d k))) ∧ J (upF k) wr ∧ Below w.heap.size w wr ∧ Blk wr pb (prC d (.slice ad len cap)).toArray 46 ∧ Blk wr W.heap.size (dcs es) 23) (fun _ kv _ => 256 - (intOf kv).toNat)
  case atStart => exact ⟨0, Nat.zero_le _, rfl, ⟨ad, rfl, by rw [show knN d 0 = 0 from rfl]; exact HNS.out⟩, HJ1.out, HB1.out, HK1.out, HG1.out⟩
  case round =>
    obtain ⟨k, hk, rfl, ⟨ra, rfl, hra⟩, hj, bel, kp, kg⟩ := hrel
    have HRA := hid hra
    have HKr := hid kp
    have HGr := hid kg
    have HBr := hid bel
    have HJr := hid hj
    have hsr := bel.size
    have hplr := kp.lt
    have hglr := kg.lt
    clear kp kg bel hj hra
    by_cases hlt : k < 256
    · skip
      have hc0 : (k : Int) < 256 := by omega
      apply wpIn_seq_k
      intro _ _
      refine wpIn_region_as rfl rfl ?_
      go_wp2_with fail
      apply wpIn_seq_k
      intro _ _
      refine wpIn_cond_true rfl ?_
      apply wpIn_skip
      gi_step
      gi_step
      apply wpIn_seq_k
      intro _ _
      apply wpIn_block
      apply wpIn_seq_k
      intro _ _
      have hE : es.getD k [] = emptyL k := hEg.out k (by omega)
      have HE := hid (Dg.emptyL k)
      have Hr0 := hid (by have h := dig_rng HGr.out hEe.out (j := k) (by rw [hEl.out]; omega); rw [hE] at h; exact h)
      clear hE
      refine wpIn_region_as rfl rfl ?_
      go_wp2_with (first
               | (refine wpList_index_digs rfl 27 _ _ rfl Tryd.underlying27 size_digest W.heap.size 0 256 257 rfl _ _ rfl k rfl (by omega) ?_)
               | (refine wpList_load_mid rfl 23 _ rfl W.heap.size (0 + k * 32) rfl _ _ Hr0.out Tryd.underlying23 rfl (by rw [List.length_map, HE.out.len]; exact size_digest) ?_)
               | (
               refine wpList_store_blk rfl 23 _ _ rfl (wr.heap.size) ((emptyL k).map (Value.int .u8)).toArray rfl rfl _ 23 (Blk.new rfl (byteCells 32 []) _) 32 size_digest zsize HE.out.size (ints_one _ _) ?_
               intro w2 hb2 hk2
               have b2 := hb2.below ((Below.refl wr.heap.size wr).alloc (Nat.le_refl _) _) (by simp only [World.size_alloc]; omega) (Nat.le_refl _)
               have HB2 := hid b2
               have hs2 := b2.size
               have HK2 := hid (HKr.out.below b2)
               have HG2 := hid (HGr.out.below b2)
               have HS2 := hid hk2
               have hsl2 := hk2.lt
               clear hb2 hk2 b2))
      apply wpIn_seq_k
      intro _ _
      apply wpIn_seq_k
      intro _ _
      have hxx := dg_at hd (k / 8)
      have hlen := hd.len
      have hxe : w2.cell? ⟨pb, k / 8, none⟩ = some (.int .u8 (d.getD (k / 8) 0)) := by
        have h := prC_known HK2.out (k / 8) (.int .u8 (d.getD (k / 8) 0)) (by rw [List.getElem?_map, List.getD_eq_getElem?_getD, List.getElem?_eq_getElem (by omega)]; rfl)
        rw [Nat.zero_add] at h
        exact h
      have hI0 : ¬ (k : Int) / 8 < 0 := by omega
      have hI1 : ¬ (32 : Int) ≤ (k : Int) / 8 := by omega
      have hI2 : ¬ (k : Int) % 8 < 0 := by omega
      have hkb : knB d k = decide (d.getD (k / 8) 0 / 2 ^ (k % 8) % 2 = 1) := rfl
      have hsn : knN d (k + 1) = knN d k + (if knB d k then 1 else 0) := rfl
      have hsb : sibL d ns k = if knB d k then ns.getD (knN d k) [] else emptyL k := rfl
      have hmn := knN_mono d (show k + 1 ≤ 256 by omega)
      have HSd := hid (Dg.sibL hn HNS.out (k := k) (by omega))
      have HYk := hid (HY.out (upF k) ⟨k, hlt⟩)
      dsimp only at HYk
      generalize d.getD (k / 8) 0 = x at *
      have h2 : 0 ≤ x / 2 ^ (k % 8) ∧ x / 2 ^ (k % 8) < 256 := ⟨Int.ediv_nonneg hxx.1 (Int.le_of_lt (Int.pow_pos (by omega))), Int.lt_of_le_of_lt (Int.ediv_le_self _ hxx.1) hxx.2⟩
      have hbt := and_one' h2
      generalize sibL d ns k = Sb at *
      cases hB : knB d k
      · skip
        rw [hB] at hkb hsn hsb
        clear hB
        have hc1 : (bits .and .u8 (x / 2 ^ (k % 8)) 1 == 1) = false := by
          rw [hbt]
          have := of_decide_eq_false hkb.symm
          simpa using this
        rw [if_neg (by simp)] at hsn hsb
        rw [Nat.add_zero] at hsn
        rw [← hsb] at HS2
        generalize hq : knN d k = q at *
        have HN := hid hsn
        have HQ := hid hq
        have HSB := hid hsb
        clear hbt hkb hsn hq hsb h2 hxx
        refine wpIn_region_as rfl rfl ?_
        go_wp2_with fail
        refine wpIn_cond_false rfl ?_
        apply wpIn_skip
        gi_step
        gi_step
        have HJY := hid (HJ.out (upF k) wr w2 none HJr.out (grown_below HB2.out) (by intro r e; cases e))
        have HBY := hid (Below.on HBr.out HB2.out)
        have HKY := hid HK2.out
        have HGY := hid HG2.out
        have HSY := hid HS2.out
        have hsY := HBY.out.size
        obtain ⟨fn, tmps, assign, body, hy, hR⟩ := HYk.out w2 HJY.out (by rw [upF_length (by omega)]; exact hlt)
        have HR := hid hR
        clear hR
        apply wpIn_seq_k
        intro _ _
        apply wpIn_region_lit
        gi_wp2_with (refine wpListIn_one (F := Fence.wide) rfl rfl ?_; refine wpList_load_blk rfl 23 _ rfl (wr.heap.size) rfl _ 23 HSY.out _ Tryd.underlying23 rfl 32 size_digest HSd.out.size ?_; refine wpList_nil ⟨rfl, ?_⟩)
        refine ⟨fun h => (by simp [Fence.wide] at h), HR.out.mono ?_⟩
        rintro e W3 (⟨rfl, hJ3, hk3⟩ | ⟨rfl, hJx3⟩)
        · skip
          have HJ3 := hid hJ3
          have HK3 := hid hk3
          clear hJ3 hk3
          gi_wp2_with fail
          go_roundw
          case rel => exact ⟨k + 1, by omega, by simp, ⟨ra, by simp only [HN.out, Nat.add_zero], by simp only [HN.out, Nat.add_zero]; exact HRA.out⟩, by rw [upF_succ hlt]; exact HJ3.out, HBY.out.trans HK3.out.low, HK3.out.blk HKY.out (by omega), HK3.out.blk HGY.out (by omega)⟩
          case measure => simp [intOf]; omega
        · skip
          have HJ3 := hid hJx3
          clear hJx3
          gi_wp2_with fail
          refine bodyPost_ret (results_none rfl _ _ _) rfl ?_
          exact ⟨⟨_, rfl⟩, .inr ⟨_, ⟨k + 1, by omega, rfl⟩, by rw [upF_succ hlt]; exact HJ3.out⟩⟩
      · skip
        rw [hB] at hkb hsn hsb
        clear hB
        have hc1 : (bits .and .u8 (x / 2 ^ (k % 8)) 1 == 1) = true := by
          rw [hbt]
          have := of_decide_eq_true hkb.symm
          simpa using this
        rw [if_pos rfl] at hsn hsb
        generalize hq : knN d k = q at *
        have hql : q + 1 ≤ len := by omega
        have HN := hid hsn
        have HQ := hid hq
        have HSB := hid hsb
        clear hbt hkb hsn hq hsb h2 hxx
        obtain ⟨g, ro, rfl, hg, hr⟩ := HRA.out.at_ (by omega)
        have Hr1 := hid (by have h := hr 0 (by omega); rw [show (ns.drop q).getD 0 [] = ns.getD q [] by simp [List.getD_eq_getElem?_getD], ← HSB.out] at h; exact h)
        clear hr
        refine wpIn_region_as rfl rfl ?_
        go_wp2_with fail
        refine wpIn_cond_true rfl ?_
        refine wpIn_wide.2 ?_
        refine FlowB.wp_region_butIn [wr.heap.size] (fun wz => Blk wz wr.heap.size ((emptyL k).map (Value.int .u8)).toArray 23) 6 [0, 1, 2, 3, 4] [] [(.c 5, [], [])] (by kernel_rfl) (by kernel_rfl) HS2.out (fun _ _ h hb => h.below hb) ?_
        apply Exists.intro
        refine ⟨fun w0 hb0 hF0 => ?_, ?_⟩
        · skip
          have yr : ∀ w', (∃ x : Ext w0, w' = x.at_) → w'.rangeAt g (ro + 0 * 32) (Sb.map (Value.int .u8)) := fun w' ⟨x, hx⟩ => by
            rw [hx]
            exact rangeAt_below (w := w0) (fun j v hv => by
              have h1 := HB2.out
              rw [show w0.cell? ⟨g, ro + 0 * 32 + j, none⟩ = w.cell? ⟨g, ro + 0 * 32 + j, none⟩ from (hb0.below (Below.on HBr.out h1) (by have := h1.size; omega) (by intro b hb; simp only [List.mem_singleton] at hb; omega)).cell (p := ⟨g, ro + 0 * 32 + j, none⟩) hg]
              exact Hr1.out j v hv) (by have := hb0.size; have := HB2.out.size; omega) x.same
          simp only [pick, List.getElem?_toArray, List.getElem?_cons_succ, List.getElem?_cons_zero, Option.toList_some, List.cons_append, List.nil_append]
          repeat (first | (go_big_quiet_want; refine quiet_index_digs 27 _ _ rfl Tryd.underlying27 size_digest g ro (len - q) (cap - q) rfl _ _ rfl 0 rfl (by omega) ?_; go_big_quiet_on; simp only [Act.put, List.setIfInBounds_toArray, List.set_cons_zero, List.set_cons_succ]) | (go_big_quiet_want; refine quiet_load_mid 23 _ rfl g (ro + 0 * 32) rfl _ yr _ Tryd.underlying23 rfl (by rw [List.length_map, HSd.out.len]; exact size_digest) ?_; go_big_quiet_on; simp only [Act.put, List.setIfInBounds_toArray, List.set_cons_zero, List.set_cons_succ]) | (go_big_quiet_want; refine quiet_cut_l _ _ rfl (some ⟨g, ro, none⟩) (len - q) (cap - q) 1 _ rfl rfl rfl (by omega) ?_; go_big_quiet_on; simp only [Act.put, List.setIfInBounds_toArray, List.set_cons_zero, List.set_cons_succ]) | go_big_quiet_step (fail))
          exact wpQuiet_nil rfl
        refine FlowB.AlChk.nil ?_
        refine FlowB.Walk.skips rfl (fun wz => Blk wz wr.heap.size (Sb.map (Value.int .u8)).toArray 23) (fun _ _ h hb => h.below hb) rfl (fun w1 hb1 hF1 hG1 => ?_) ?_
        · exact FlowB.store_skips 23 _ _ rfl (wr.heap.size) (Sb.map (Value.int .u8)).toArray rfl rfl _ 23 hG1 32 size_digest HE.out.size HSd.out.size (ints_one _ _) (by simp) (fun w2 h2 h3 => h3)
        intro w1 hb1 hF1
        apply Exists.intro
        refine ⟨fun w2 hb2 hF2 => wpQuiet_nil rfl, ?_⟩
        refine FlowB.AlChk.nil ?_
        refine FlowB.Walk.fin fun w4 h4 _ hG4 => ?_
        simp only [List.drop_succ_cons, List.drop_zero]
        have HB4 := hid (h4.below HB2.out (by have := HB2.out.size; omega) (by intro b hb; simp only [List.mem_singleton] at hb; omega))
        have HK4 := hid (h4.blk HK2.out (by simp only [List.mem_singleton]; omega))
        have HG4 := hid (h4.blk HG2.out (by simp only [List.mem_singleton]; omega))
        have HS4 := hid hG4
        clear h4 hG4 hb1 hF1
        go_wp2_with fail
        have HJY := hid (HJ.out (upF k) wr w4 none HJr.out (grown_below HB4.out) (by intro r e; cases e))
        have HBY := hid (Below.on HBr.out HB4.out)
        have HKY := hid HK4.out
        have HGY := hid HG4.out
        have HSY := hid HS4.out
        have hsY := HBY.out.size
        obtain ⟨fn, tmps, assign, body, hy, hR⟩ := HYk.out w4 HJY.out (by rw [upF_length (by omega)]; exact hlt)
        have HR := hid hR
        clear hR
        apply wpIn_seq_k
        intro _ _
        apply wpIn_region_lit
        gi_wp2_with (refine wpListIn_one (F := Fence.wide) rfl rfl ?_; refine wpList_load_blk rfl 23 _ rfl (wr.heap.size) rfl _ 23 HSY.out _ Tryd.underlying23 rfl 32 size_digest HSd.out.size ?_; refine wpList_nil ⟨rfl, ?_⟩)
        refine ⟨fun h => (by simp [Fence.wide] at h), HR.out.mono ?_⟩
        rintro e W3 (⟨rfl, hJ3, hk3⟩ | ⟨rfl, hJx3⟩)
        · skip
          have HJ3 := hid hJ3
          have HK3 := hid hk3
          clear hJ3 hk3
          gi_wp2_with fail
          go_roundw
          case rel => exact ⟨k + 1, by omega, by simp, ⟨_, by rw [HN.out]; first | rfl | simp [Nat.sub_sub], by rw [HN.out]; exact cut_one HRA.out (by omega)⟩, by rw [upF_succ hlt]; exact HJ3.out, HBY.out.trans HK3.out.low, HK3.out.blk HKY.out (by omega), HK3.out.blk HGY.out (by omega)⟩
          case measure => simp [intOf]; omega
        · skip
          have HJ3 := hid hJx3
          clear hJx3
          gi_wp2_with fail
          refine bodyPost_ret (results_none rfl _ _ _) rfl ?_
          exact ⟨⟨_, rfl⟩, .inr ⟨_, ⟨k + 1, by omega, rfl⟩, by rw [upF_succ hlt]; exact HJ3.out⟩⟩
    · skip
      have hk7 : k = 256 := by omega
      subst hk7
      have hc0 : ¬ ((256 : Int) < 256) := by omega
      gi_wp2_with fail
      go_end0
      exact ⟨⟨_, rfl⟩, .inl HJr.out⟩
end Go.Proofs.YthaicocfbmpnmaaDoor
