/-
  Layer 13: a sync that is counted, a sync at which the power fails.
-/
import Derived.Test.YtmpgnpkodapidaaSkD
namespace Go.Proofs.Ytmpgnpkodapidaa
open Go.ChangeShapes Go.WideShapes Go.ChangeAt Go.RowKit

set_option maxHeartbeats 4000000 in
set_option maxRecDepth 100000 in
theorem sync_hit (w : World) (p bb z n : Nat) (B : List Int) (af : Int) (ka : Option Addr) (kc : Nat) (ks : List Int) (wa : Option Addr) (wc : Nat) (ws : List (Nat × List Int)) (hd : DkAt w p bb z n B (.slice wa ws.length wc) true true af (.slice ka ks.length kc)) (hW : WaitAt w [p, bb] z wa wc ws) (hi : ∀ x ∈ ws, x.1 < n ∧ x.2.length = z) (hlw : ws.length ≤ 1000) (h0 : af ≤ 0) (hK : IntsAt w [p, bb] ka ks) (hkw : ∀ k ∈ ks, -9223372036854775808 ≤ k ∧ k ≤ 9223372036854775807) :
    Calls Try.prog 17 #[.pointer (some ⟨p, 0, none⟩)] w fun e w' => e = .returned (.int .i64 9) ∧ FlowB.ButIn [p, bb] w w' ∧ DkAt w' p bb z n (crashN z ks ws B ws.length) (.slice none 0 0) false true af (.slice ka ks.length kc) := by
  have Kd := hid hd.kp
  have Hb := hid (Below.refl w.heap.size w)
  have HD := hid hd
  have HK := hid hK
  have HW := hid hW
  clear hK
  have cd0 : w.cell? ⟨p, 0, none⟩ = some (.int .i64 z) := by rw [Kd.out.cell]; rfl
  have cd2 : w.cell? ⟨p, 2, none⟩ = some ((.slice wa ws.length wc)) := by rw [Kd.out.cell]; rfl
  have cd3 : w.cell? ⟨p, 3, none⟩ = some (.bool true) := by rw [Kd.out.cell]; rfl
  go_enter Try.func17, Try.ntmps17
  go_wp2_with fail
  refine (fails_hit _ p bb z n B _ true af _ (HD.out.below Hb.out) h0).mono ?_
  rintro e w1 ⟨rfl, bw1⟩
  have HBw1 := hid bw1
  have c6 : w1.cell? ⟨p, 6, none⟩ = some (.slice ka ks.length kc) := by rw [(Kd.out.below bw1).cell]; rfl
  clear bw1
  go_wp2_with fail
  refine (crash_any w1 p bb z n B true af _ wa wc ws ka kc ks (HK.out.butIn (ButIn.of_below HBw1.out)) hkw (HD.out.below HBw1.out) (HW.out.butIn (ButIn.of_below HBw1.out)) hi hlw).mono ?_
  rintro e w2 ⟨rfl, i2, d2⟩
  have HI2 := hid (ButIn.on (ButIn.of_below HBw1.out) i2)
  have HD2 := hid d2
  clear i2 d2
  go_wp2_with fail
  go_returns
  exact ⟨rfl, HI2.out, HD2.out⟩
set_option maxHeartbeats 4000000 in
set_option maxRecDepth 100000 in
theorem sync_count (w : World) (p bb z n : Nat) (B : List Int) (af : Int) (kv : Value) (wa : Option Addr) (wc : Nat) (ws : List (Nat × List Int)) (hd : DkAt w p bb z n B (.slice wa ws.length wc) true true af kv) (hW : WaitAt w [p, bb] z wa wc ws) (hi : ∀ x ∈ ws, x.1 < n ∧ x.2.length = z) (hlw : ws.length ≤ 1000) (h0 : 0 < af) (h1 : af < 9223372036854775808) :
    Calls Try.prog 17 #[.pointer (some ⟨p, 0, none⟩)] w fun e w' => e = .returned (.int .i64 0) ∧ FlowB.ButIn [p, bb] w w' ∧ DkAt w' p bb z n (syncN z ws B ws.length) (.slice none 0 0) true true (af - 1) kv := by
  have Kd := hid hd.kp
  have Hb := hid (Below.refl w.heap.size w)
  have HD := hid hd
  have cd0 : w.cell? ⟨p, 0, none⟩ = some (.int .i64 z) := by rw [Kd.out.cell]; rfl
  have cd2 : w.cell? ⟨p, 2, none⟩ = some ((.slice wa ws.length wc)) := by rw [Kd.out.cell]; rfl
  have cd3 : w.cell? ⟨p, 3, none⟩ = some (.bool true) := by rw [Kd.out.cell]; rfl
  go_enter Try.func17, Try.ntmps17
  go_wp2_with fail
  refine (fails_count _ p bb z n B _ true af kv (HD.out.below Hb.out) h0 h1).mono ?_
  rintro e w1 ⟨rfl, bw1, dw1⟩
  have HX := hid (ButIn.of_but (S := [p, bb]) bw1 (by simp))
  have hW := hW.butIn HX.out
  clear HD Kd Hb hd
  have hd := dw1
  have HD := hid dw1
  have HBw1 := hid (Below.refl w1.heap.size w1)
  have Kdw1 := hid dw1.kp
  clear bw1 dw1
  have cd0w1 : w1.cell? ⟨p, 0, none⟩ = some (.int .i64 z) := by rw [Kdw1.out.cell]; rfl
  have cd2w1 : w1.cell? ⟨p, 2, none⟩ = some (.slice wa ws.length wc) := by rw [Kdw1.out.cell]; rfl
  have cd3w1 : w1.cell? ⟨p, 3, none⟩ = some (.bool true) := by rw [Kdw1.out.cell]; rfl
  go_wp2_with fail
  go_loopw [27] (fun iv wr => ∃ j : Nat, j ≤ ws.length ∧ iv = .int .i64 j ∧ FlowB.ButIn [p, bb] w1 wr ∧ DkAt wr p bb z n (syncN z ws B j) (.slice wa ws.length wc) true true (af - 1) kv) (fun iv _ => ws.length - (intOf iv).toNat)
  case atStart => exact ⟨0, Nat.zero_le _, rfl, ButIn.of_below HBw1.out, HD.out.below HBw1.out⟩
  case round =>
    obtain ⟨j, hj, rfl, hbi, hdr⟩ := hrel
    have HIwr := hid hbi
    have HDr := hid hdr
    clear hbi hdr
    by_cases hlt : j < ws.length
    · skip
      have HRr := hid (Below.refl wr.heap.size wr)
      have Kdwr := hid HDr.out.kp
      have Kbwr := hid HDr.out.kb
      have hcI : (j : Int) < ws.length := by omega
      have HWr := hid (hW.butIn HIwr.out)
      have hwj0 := hi (ws.getD j (0, [])) (by rw [List.getD_eq_getElem?_getD, List.getElem?_eq_getElem hlt]; exact List.getElem_mem _)
      obtain ⟨hwle, hw0 | ⟨x, o, rfl, hx, hxl, hcell⟩⟩ := HWr.out
      · omega
      obtain ⟨hc0, ta, tc, hc1, hto⟩ := hcell j hlt
      obtain ⟨qi, qt, hX⟩ : ∃ qi qt, ws.getD j (0, []) = (qi, qt) := ⟨_, _, rfl⟩
      have Hnx := hid (show syncN z ws B (j + 1) = putS z qi qt z (syncN z ws B j) by rw [syncN, hX])
      have hwj : qi < n ∧ qt.length = z := by rw [hX] at hwj0; exact hwj0
      rw [hX] at hc0 hto
      have HTO := hid (show TextO wr [p, bb] ta z tc qt from hto)
      have hRg : Hid (wr.rangeAt x (o + j * 2) [.int .i64 (qi : Int), .slice ta z tc]) := hid (fun k v hv => by
        match k, hv with
        | 0, hv => rw [Nat.add_zero, hc0]; exact hv
        | 1, hv => rw [hc1]; exact hv)
      clear hcell hto hc0 hc1 hX hwj0
      have Kvw1 := hid (Blk.new (w := wr) rfl #[.int .i64 (qi : Int), .slice ta z tc] 85)
      have HBw1 := hid (HRr.out.alloc HRr.out.size (.cells #[.int .i64 (qi : Int), .slice ta z tc] 85 (0, 0)))
      have hsw1 := HBw1.out.size
      have hfw1 : wr.heap.size ≤ wr.heap.size := HRr.out.size
      go_wp2_with (first
         | (refine wpList_index_s 2 rfl 73 _ _ rfl Try.underlying73 size_write x o ws.length wc rfl _ _ rfl j rfl hlt ?_)
         | (refine wpList_load_mid rfl 85 _ rfl x (o + j * 2) rfl _ _ hRg.out Try.underlying85 rfl size_write ?_))
      refine wp_region_flow 6 (List.range 6) [] [] (by kernel_rfl) (by kernel_rfl) ?_
      apply Exists.intro
      refine ⟨fun w0 hb0 hF0 => ?_, ?_⟩
      · skip
        have y0 : ∀ w', (∃ x : Ext w0, w' = x.at_) → w'.cell? ⟨wr.heap.size, 0, none⟩ = some (.int .i64 (qi : Int)) := fun w' ⟨x, hx⟩ => by rw [hx, ((Kvw1.out.below hb0).below x.same).cell]; rfl
        have y1 : ∀ w', (∃ x : Ext w0, w' = x.at_) → w'.cell? ⟨wr.heap.size, 1, none⟩ = some (.slice ta z tc) := fun w' ⟨x, hx⟩ => by rw [hx, ((Kvw1.out.below hb0).below x.same).cell]; rfl
        have c0 := fun e : Ext w0 => sector_any e.at_ p bb z n _ _ true true (af - 1) kv (HDr.out.below (Below.on (Below.on HBw1.out hb0) e.same)) qi hwj.1
        simp only [pick, List.range, List.range.loop, List.getElem?_toArray, List.getElem?_cons_succ, List.getElem?_cons_zero, Option.toList_some, List.cons_append, List.nil_append]
        repeat (first | (go_big_quiet_want; refine quiet_load_one 3 _ rfl ⟨wr.heap.size, 0, none⟩ rfl _ y0 _ Try.underlying3 rfl ?_; go_big_quiet_on; simp only [Act.put, List.setIfInBounds_toArray, List.set_cons_zero, List.set_cons_succ]) | (go_big_quiet_want; refine quiet_load_one 31 _ rfl ⟨wr.heap.size, 1, none⟩ rfl _ y1 _ Try.underlying31 rfl ?_; go_big_quiet_on; simp only [Act.put, List.setIfInBounds_toArray, List.set_cons_zero, List.set_cons_succ]) | go_big_quiet_step (first | (go_at_call 45; with_reducible exact Calls.ext (c0 _))))
        exact wpQuiet_nil rfl
      refine AlChk.nil ?_
      refine Walk.fin fun w2 hw2 _ _ => ?_
      simp only [List.drop_succ_cons, List.drop_zero]
      have HBw2 := hid (Below.on HBw1.out hw2)
      have hsw2 := HBw2.out.size
      have Kvw2 := hid (Kvw1.out.below hw2)
      clear hw2
      have hDz := HDr.out.below HBw2.out
      have hTz := HTO.out.text.below HBw2.out
      have hml : qi * z + z ≤ (syncN z ws B j).length := by
        rw [hDz.len, ← Nat.succ_mul]
        exact Nat.mul_le_mul_right z hwj.1
      obtain ⟨hP, hQ⟩ := hDz.put qi hwj.1 qt z (Nat.le_refl _) (by rw [hTz.length]; exact Nat.le_refl _) hTz.small
      rw [List.map_take] at hP hQ
      have Hn0 := hid (show z = Nat.min z z from (Nat.min_self z).symm)
      have Hfit := hid (show qi * z + z ≤ ((syncN z ws B j).map (Value.int .u8)).toArray.size by rw [List.size_toArray, List.length_map]; exact hml)
      have HP := hid hP
      have HQ := hid (ButIn.on (ButIn.of_below (S := [p, bb]) HBw2.out) hQ)
      have HDz := hid hDz
      have HTz := hid hTz
      clear hDz hTz hP hQ
      go_wp2_with (with_reducible refine wpList_copy_text rfl _ _ _ _ rfl 5 Try.underlying31 size_u8 bb (qi * z) z ((syncN z ws B j).length - qi * z) rfl _ z _ rfl _ 5 HDz.out.kb _ HTz.out Hfit.out z Hn0.out ?_)
      exact ⟨⟨j + 1, by omega, by first | rfl | simp, ButIn.on HIwr.out HQ.out, by rw [Hnx.out]; exact HP.out⟩, by simp [intOf]; omega⟩
    · skip
      have hjn : j = ws.length := by omega
      subst hjn
      have hcI : ¬ ((ws.length : Int) < ws.length) := by omega
      go_wp2_with (
            refine wpList_store_cell rfl 73 _ _ rfl p 2 (.slice none 0 0) rfl rfl rfl rfl _ 75 HDr.out.kp (by simp [dkC]) size_waits ?_
            intro w9 hb9 hk9
            have Hb9 := hid hb9
            have Kd9 := hid (show Blk w9 p (dkC z (syncN z ws B ws.length).length bb (.slice none 0 0) true true (af - 1) kv) 75 from hk9)
            clear hb9 hk9)
      go_returns
      exact ⟨by first | rfl | simp, ButIn.on HX.out (ButIn.on HIwr.out (ButIn.of_but Hb9.out (by simp))), Kd9.out, Hb9.out.blk HDr.out.kb (Ne.symm HDr.out.ne), HDr.out.ne, HDr.out.len, HDr.out.z1, HDr.out.z2, HDr.out.n1, HDr.out.n2, HDr.out.small⟩
end Go.Proofs.Ytmpgnpkodapidaa
