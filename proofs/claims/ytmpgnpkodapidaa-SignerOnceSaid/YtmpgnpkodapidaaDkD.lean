/-
  Layer 12: the power fails.
-/
import Derived.Test.YtmpgnpkodapidaaDkC
namespace Go.Proofs.Ytmpgnpkodapidaa
open Go.ChangeShapes Go.WideShapes Go.ChangeAt Go.RowKit

theorem clamp_eq (z : Nat) (q : Int) : (if (0 : Int) < (if (z : Int) < q then (z : Int) else q) then (if (z : Int) < q then (z : Int) else q) else 0) = (clampZ z q : Int) := by
  unfold clampZ
  by_cases h1 : q < 0
  · rw [if_neg (show ¬ (z : Int) < q by omega), if_neg (by omega), if_pos h1]; rfl
  · by_cases h2 : (z : Int) < q
    · rw [if_pos h2, if_neg h1, if_pos h2]
      split <;> omega
    · rw [if_neg h2, if_neg h1, if_neg h2]
      split <;> omega
set_option maxHeartbeats 4000000 in
set_option maxRecDepth 100000 in
theorem quiet_cut_hn {op : Oper} {a : Act} {C : World → Prop} {K : Act → Prop} (x y : Operand) (ho : op.op = .slice 31 x none (some y) none) (a0 : Option Addr) (len cap j : Nat) (vx : Value) (hx : a.eval x = vx) (v : Int) (hy : a.eval y = .int .i64 v) (hvx : vx = .slice a0 len cap) (hv : v = j) (hn : j ≤ cap)
    (h : K (a.put op.dst (.slice a0 j cap))) : op.quiet Try.prog a C K :=
  ⟨.slice a0 j cap, fun w' _ => by
    subst hv
    subst hvx
    have he : Try.prog.elem 31 = 5 := by simp [Program.elem, Try.underlying31]
    have hr := run_cut_h (P := Try.prog) Try.underlying31 size_u8 a0 len cap (j : Int) w' (by omega) (by omega)
    have hs := run_sliceAt_slice (P := Try.prog) (w := w') 31 (.slice a0 len cap) none (some (.int .i64 j)) none (by rw [he]; exact Try.underlying31)
    rw [hr] at hs
    unfold Oper.quietAt execOp
    simp only [ho, hx, hy, Option.map_none, Option.map_some, Sem.run_bind, Sem.run_pure, Result.andThen_ok, hs, Int.toNat_natCast]
    simp [Oper.quietUpon], h⟩
set_option maxHeartbeats 4000000 in
set_option maxRecDepth 100000 in
theorem crash_any (w : World) (p bb z n : Nat) (B : List Int) (set : Bool) (af : Int) (kv : Value) (wa : Option Addr) (wc : Nat) (ws : List (Nat × List Int)) (ka : Option Addr) (kc : Nat) (ks : List Int) (hK : IntsAt w [p, bb] ka ks) (hkw : ∀ k ∈ ks, -9223372036854775808 ≤ k ∧ k ≤ 9223372036854775807) (hd : DkAt w p bb z n B (.slice wa ws.length wc) true set af kv) (hW : WaitAt w [p, bb] z wa wc ws) (hi : ∀ x ∈ ws, x.1 < n ∧ x.2.length = z) (hlw : ws.length ≤ 1000) :
    Calls Try.prog 18 #[.pointer (some ⟨p, 0, none⟩), .slice ka ks.length kc] w fun e w' => e = .returned (.tuple #[]) ∧ FlowB.ButIn [p, bb] w w' ∧ DkAt w' p bb z n (crashN z ks ws B ws.length) (.slice none 0 0) false set af kv := by
  have Kd := hid hd.kp
  have Hb := hid (Below.refl w.heap.size w)
  have HD := hid hd
  have cd0 : w.cell? ⟨p, 0, none⟩ = some (.int .i64 z) := by rw [Kd.out.cell]; rfl
  have cd2 : w.cell? ⟨p, 2, none⟩ = some ((.slice wa ws.length wc)) := by rw [Kd.out.cell]; rfl
  have cd3 : w.cell? ⟨p, 3, none⟩ = some (.bool true) := by rw [Kd.out.cell]; rfl
  go_enter Try.func18, Try.ntmps18
  go_wp2_with fail
  go_loopw [21] (fun iv wr => ∃ j : Nat, j ≤ ws.length ∧ iv = .int .i64 j ∧ FlowB.ButIn [p, bb] w wr ∧ DkAt wr p bb z n (crashN z ks ws B j) (.slice wa ws.length wc) true set af kv) (fun iv _ => ws.length - (intOf iv).toNat)
  case atStart => exact ⟨0, Nat.zero_le _, rfl, ButIn.of_below Hb.out, HD.out.below Hb.out⟩
  case round =>
    obtain ⟨j, hj, rfl, hbi, hdr⟩ := hrel
    have HIwr := hid hbi
    have HDr := hid hdr
    clear hbi hdr
    by_cases hlt : j < ws.length
    · skip
      have HRr := hid (Below.refl wr.heap.size wr)
      have Kdwr := hid HDr.out.kp
      have Kbwr := hid HDr.out.kb
      have hcI : (j : Int) < ws.length := by omega
      have HWr := hid (hW.butIn HIwr.out)
      have hwj0 := hi (ws.getD j (0, [])) (by rw [List.getD_eq_getElem?_getD, List.getElem?_eq_getElem hlt]; exact List.getElem_mem _)
      obtain ⟨hwle, hw0 | ⟨x, o, rfl, hx, hxl, hcell⟩⟩ := HWr.out
      · omega
      obtain ⟨hc0, ta, tc, hc1, hto⟩ := hcell j hlt
      obtain ⟨qi, qt, hX⟩ : ∃ qi qt, ws.getD j (0, []) = (qi, qt) := ⟨_, _, rfl⟩
      have Hnx := hid (fun (h : j < ks.length) => (show crashN z ks ws B (j + 1) = putS z qi qt (clampZ z (ks.getD j 0)) (crashN z ks ws B j) by rw [crashN, if_pos h, hX]))
      have Hno := hid (fun (h : ¬ j < ks.length) => (show crashN z ks ws B (j + 1) = crashN z ks ws B j by rw [crashN, if_neg h]))
      have hwj : qi < n ∧ qt.length = z := by rw [hX] at hwj0; exact hwj0
      rw [hX] at hc0 hto
      have HTO := hid (show TextO wr [p, bb] ta z tc qt from hto)
      have hRg : Hid (wr.rangeAt x (o + j * 2) [.int .i64 (qi : Int), .slice ta z tc]) := hid (fun k v hv => by
        match k, hv with
        | 0, hv => rw [Nat.add_zero, hc0]; exact hv
        | 1, hv => rw [hc1]; exact hv)
      clear hcell hto hc0 hc1 hX hwj0
      have Kdw1 := hid (Kdwr.out.old (.cells #[.int .i64 (qi : Int), .slice ta z tc] 85 (0, 0)))
      have hldw1 := Kdwr.out.lt
      have Kvw1 := hid (Blk.new (w := wr) rfl #[.int .i64 (qi : Int), .slice ta z tc] 85)
      have HBw1 := hid (HRr.out.alloc HRr.out.size (.cells #[.int .i64 (qi : Int), .slice ta z tc] 85 (0, 0)))
      have hsw1 := HBw1.out.size
      have hfw1 : wr.heap.size ≤ wr.heap.size := HRr.out.size
      by_cases hkl : j < ks.length
      · skip
        have hkI : (j : Int) < ks.length := by omega
        obtain ⟨hk0 | ⟨kx, ko, rfl, hkx, hkxl, hkc⟩⟩ := (hK.butIn HIwr.out)
        · omega
        have Hkc := hid (hkc j hkl)
        have hkr := hkw (ks.getD j 0) (by rw [List.getD_eq_getElem?_getD, List.getElem?_eq_getElem hkl]; exact List.getElem_mem _)
        have Hm := hid (clampZ_le z (ks.getD j 0))
        have Hz := hid (show clampZ z (ks.getD j 0) = if ks.getD j 0 < 0 then 0 else if (z : Int) < ks.getD j 0 then z else (ks.getD j 0).toNat from rfl)
        clear hkc
        have Hmx := hid (clamp_eq z (ks.getD j 0))
        have Hnx2 := hid (Hnx.out hkl)
        generalize hq : ks.getD j 0 = q at *
        generalize clampZ z q = m at *
        clear hq
        have cd0wr : wr.cell? ⟨p, 0, none⟩ = some (.int .i64 z) := by rw [Kdwr.out.cell]; rfl
        go_wp2_with (first
           | (refine wpList_index_s 2 rfl 73 _ _ rfl Try.underlying73 size_write x o ws.length wc rfl _ _ rfl j rfl hlt ?_)
           | (refine wpList_load_mid rfl 85 _ rfl x (o + j * 2) rfl _ _ hRg.out Try.underlying85 rfl size_write ?_))
        refine wp_region_flow 10 (List.range 10) [] [] (by kernel_rfl) (by kernel_rfl) ?_
        apply Exists.intro
        refine ⟨fun w0 hb0 hF0 => ?_, ?_⟩
        · skip
          have y0 : ∀ w', (∃ x : Ext w0, w' = x.at_) → w'.cell? ⟨p, 0, none⟩ = some (.int .i64 z) := fun w' ⟨x, hx⟩ => by rw [hx, ((Kdw1.out.below hb0).below x.same).cell]; rfl
          have yk : ∀ w', (∃ x : Ext w0, w' = x.at_) → w'.cell? ⟨kx, ko + j * 1, none⟩ = some (.int .i64 q) := fun w' ⟨x, hx⟩ => by rw [Nat.mul_one]; exact hx ▸ ((Below.on (Below.on HBw1.out hb0) x.same).cell (p := ⟨kx, ko + j, none⟩) hkxl).trans Hkc.out
          simp only [pick, List.range, List.range.loop, List.getElem?_toArray, List.getElem?_cons_succ, List.getElem?_cons_zero, Option.toList_some, List.cons_append, List.nil_append]
          repeat (first | (go_big_quiet_want; refine quiet_load_one 3 _ rfl ⟨p, 0, none⟩ rfl _ y0 _ Try.underlying3 rfl ?_; go_big_quiet_on; simp only [Act.put, List.setIfInBounds_toArray, List.set_cons_zero, List.set_cons_succ]) | (go_big_quiet_want; refine quiet_index_s 1 32 _ _ rfl Try.underlying32 size_dint kx ko ks.length kc rfl _ _ rfl j rfl hkl ?_; go_big_quiet_on; simp only [Act.put, List.setIfInBounds_toArray, List.set_cons_zero, List.set_cons_succ]) | (go_big_quiet_want; refine quiet_load_one 3 _ rfl ⟨kx, ko + j * 1, none⟩ rfl _ yk _ Try.underlying3 rfl ?_; go_big_quiet_on; simp only [Act.put, List.setIfInBounds_toArray, List.set_cons_zero, List.set_cons_succ]) | go_big_quiet_step (fail))
          exact wpQuiet_nil rfl
        refine AlChk.nil ?_
        refine Walk.fin fun w2 hw2 _ _ => ?_
        simp only [List.drop_succ_cons, List.drop_zero]
        have HBw2 := hid (Below.on HBw1.out hw2)
        have hsw2 := HBw2.out.size
        have Kdw2 := hid (Kdw1.out.below hw2)
        have Kvw2 := hid (Kvw1.out.below hw2)
        clear hw2
        rw [Hmx.out]
        generalize (if (z : Int) < q then (z : Int) else q) = mn
        have hmc : m ≤ tc := Nat.le_trans Hm.out HTO.out.text.le
        go_wp2_with fail
        refine wp_region_flow 8 (List.range 8) [] [] (by kernel_rfl) (by kernel_rfl) ?_
        apply Exists.intro
        refine ⟨fun w0 hb0 hF0 => ?_, ?_⟩
        · skip
          have y0 : ∀ w', (∃ x : Ext w0, w' = x.at_) → w'.cell? ⟨wr.heap.size, 0, none⟩ = some (.int .i64 (qi : Int)) := fun w' ⟨x, hx⟩ => by rw [hx, ((Kvw2.out.below hb0).below x.same).cell]; rfl
          have y1 : ∀ w', (∃ x : Ext w0, w' = x.at_) → w'.cell? ⟨wr.heap.size, 1, none⟩ = some (.slice ta z tc) := fun w' ⟨x, hx⟩ => by rw [hx, ((Kvw2.out.below hb0).below x.same).cell]; rfl
          have c0 := fun e : Ext w0 => sector_any e.at_ p bb z n _ _ true set af kv (HDr.out.below (Below.on (Below.on HBw2.out hb0) e.same)) qi hwj.1
          simp only [pick, List.range, List.range.loop, List.getElem?_toArray, List.getElem?_cons_succ, List.getElem?_cons_zero, Option.toList_some, List.cons_append, List.nil_append]
          repeat (first | (go_big_quiet_want; refine quiet_load_one 3 _ rfl ⟨wr.heap.size, 0, none⟩ rfl _ y0 _ Try.underlying3 rfl ?_; go_big_quiet_on; simp only [Act.put, List.setIfInBounds_toArray, List.set_cons_zero, List.set_cons_succ]) | (go_big_quiet_want; refine quiet_load_one 31 _ rfl ⟨wr.heap.size, 1, none⟩ rfl _ y1 _ Try.underlying31 rfl ?_; go_big_quiet_on; simp only [Act.put, List.setIfInBounds_toArray, List.set_cons_zero, List.set_cons_succ]) | (go_big_quiet_want; refine quiet_cut_hn _ _ rfl ta z tc m _ rfl _ rfl rfl rfl (by omega) ?_; go_big_quiet_on; simp only [Act.put, List.setIfInBounds_toArray, List.set_cons_zero, List.set_cons_succ]) | go_big_quiet_step (first | (go_at_call 45; with_reducible exact Calls.ext (c0 _))))
          exact wpQuiet_nil rfl
        refine AlChk.nil ?_
        refine Walk.fin fun w3 hw3 _ _ => ?_
        simp only [List.drop_succ_cons, List.drop_zero]
        have HBw3 := hid (Below.on HBw2.out hw3)
        have hsw3 := HBw3.out.size
        have Kdw3 := hid (Kdw2.out.below hw3)
        have Kvw3 := hid (Kvw2.out.below hw3)
        clear hw3
        have hDz := HDr.out.below HBw3.out
        have hTz := HTO.out.text.below HBw3.out
        have hml : qi * z + z ≤ (crashN z ks ws B j).length := by
          rw [hDz.len, ← Nat.succ_mul]
          exact Nat.mul_le_mul_right z hwj.1
        obtain ⟨hP, hQ⟩ := hDz.put qi hwj.1 qt m Hm.out (by rw [hTz.length]; exact Hm.out) hTz.small
        have hQ := ButIn.on (ButIn.of_below (S := [p, bb]) HBw3.out) hQ
        have htk : ((qt.take m).take m) = qt.take m := by rw [List.take_take, Nat.min_self]
        rw [← htk, List.map_take, List.map_take] at hP hQ
        have Hn0 := hid (show m = Nat.min m z from (Nat.min_eq_left Hm.out).symm)
        have Hfit := hid (show qi * z + z ≤ ((crashN z ks ws B j).map (Value.int .u8)).toArray.size by rw [List.size_toArray, List.length_map]; exact hml)
        have HP := hid hP
        have HQ := hid hQ
        have HDz := hid hDz
        have HTz := hid (hTz.headT m Hm.out)
        clear hDz hTz hP hQ htk
        go_wp2_with (with_reducible refine wpList_copy_text rfl _ _ _ _ rfl 5 Try.underlying31 size_u8 bb (qi * z) z ((crashN z ks ws B j).length - qi * z) rfl _ m _ rfl _ 5 HDz.out.kb _ HTz.out Hfit.out m Hn0.out ?_)
        exact ⟨⟨j + 1, by omega, by first | rfl | simp, ButIn.on HIwr.out HQ.out, by rw [Hnx2.out]; exact HP.out⟩, by simp [intOf]; omega⟩
      · skip
        have hkI : ¬ (j : Int) < ks.length := by omega
        go_wp2_with (first
           | (refine wpList_index_s 2 rfl 73 _ _ rfl Try.underlying73 size_write x o ws.length wc rfl _ _ rfl j rfl hlt ?_)
           | (refine wpList_load_mid rfl 85 _ rfl x (o + j * 2) rfl _ _ hRg.out Try.underlying85 rfl size_write ?_))
        exact ⟨⟨j + 1, by omega, by first | rfl | simp, ButIn.on HIwr.out (ButIn.of_below HBw1.out), by rw [Hno.out hkl]; exact HDr.out.below HBw1.out⟩, by simp [intOf]; omega⟩
    · skip
      have hjn : j = ws.length := by omega
      subst hjn
      have hcI : ¬ ((ws.length : Int) < ws.length) := by omega
      go_wp2_with (first
         | (
            refine wpList_store_cell rfl 73 _ _ rfl p 2 (.slice none 0 0) rfl rfl rfl rfl _ 75 HDr.out.kp (by simp [dkC]) size_waits ?_
            intro w9 hb9 hk9
            have Hb9 := hid hb9
            have Kd9 := hid (show Blk w9 p (dkC z (crashN z ks ws B ws.length).length bb (.slice none 0 0) true set af kv) 75 from hk9)
            clear hb9 hk9)
         | (
            refine wpList_store_cell rfl 4 _ _ rfl p 3 (.bool false) rfl rfl rfl rfl _ 75 Kd9.out (by simp [dkC]) size_bool ?_
            intro w8 hb8 hk8
            have Hb8 := hid (But.trans Hb9.out hb8)
            have Kd8 := hid (show Blk w8 p (dkC z (crashN z ks ws B ws.length).length bb (.slice none 0 0) false set af kv) 75 from hk8)
            clear hb8 hk8))
      go_returns
      exact ⟨by first | rfl | simp, ButIn.on HIwr.out (ButIn.of_but Hb8.out (by simp)), Kd8.out, Hb8.out.blk HDr.out.kb (Ne.symm HDr.out.ne), HDr.out.ne, HDr.out.len, HDr.out.z1, HDr.out.z2, HDr.out.n1, HDr.out.n2, HDr.out.small⟩
end Go.Proofs.Ytmpgnpkodapidaa
