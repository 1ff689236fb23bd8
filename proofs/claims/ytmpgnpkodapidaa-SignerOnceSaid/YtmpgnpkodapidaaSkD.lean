/-
  Layer 13: a write that is counted.
-/
import Derived.Test.YtmpgnpkodapidaaSkC
namespace Go.Proofs.Ytmpgnpkodapidaa
open Go.ChangeShapes Go.WideShapes Go.ChangeAt Go.RowKit

set_option maxHeartbeats 4000000 in
set_option maxRecDepth 100000 in
theorem write_count (w : World) (p bb z n : Nat) (B : List Int) (af : Int) (kv : Value) (hd : DkAt w p bb z n B (.slice none 0 0) true true af kv) (i : Nat) (hi : i < n) (ta : Option Addr) (tc : Nat) (t : List Int) (hT : TextO w [p] ta z tc t) (h0 : 0 < af) (h1 : af < 9223372036854775808) :
    Calls Try.prog 16 #[.pointer (some ⟨p, 0, none⟩), .int .i64 i, .slice ta z tc] w fun e w' => ∃ wa wc, e = .returned (.int .i64 0) ∧ FlowB.ButIn [p, bb] w w' ∧ But p w w' ∧ DkAt w' p bb z n B (.slice wa 1 wc) true true (af - 1) kv ∧ WaitAt w' [p, bb] z wa wc [(i, t)] := by
  have hz2 := hd.z2
  have Kd := hid hd.kp
  have Hb := hid (Below.refl w.heap.size w)
  have HD := hid hd
  have HT := hid hT
  have cd0 : w.cell? ⟨p, 0, none⟩ = some (.int .i64 z) := by rw [Kd.out.cell]; rfl
  have cd2 : w.cell? ⟨p, 2, none⟩ = some ((.slice none 0 0)) := by rw [Kd.out.cell]; rfl
  have cd3 : w.cell? ⟨p, 3, none⟩ = some (.bool true) := by rw [Kd.out.cell]; rfl
  go_enter Try.func16, Try.ntmps16
  go_wp2_with fail
  refine (has_in _ p bb z n B _ true true af kv (HD.out.below Hb.out) (i : Int) (by omega) (by omega)).mono ?_
  rintro e w1 ⟨rfl, bw1⟩
  have HBw1 := hid (Below.on Hb.out bw1)
  have hsw1 := HBw1.out.size
  have Kdw1 := hid (Kd.out.below bw1)
  clear bw1
  have cd0w1 : w1.cell? ⟨p, 0, none⟩ = some (.int .i64 z) := by rw [Kdw1.out.cell]; rfl
  have cd2w1 : w1.cell? ⟨p, 2, none⟩ = some (.slice none 0 0) := by rw [Kdw1.out.cell]; rfl
  have cd3w1 : w1.cell? ⟨p, 3, none⟩ = some (.bool true) := by rw [Kdw1.out.cell]; rfl
  go_wp2_with fail
  refine (fails_count _ p bb z n B _ true af kv (HD.out.below HBw1.out) h0 h1).mono ?_
  rintro e w2 ⟨rfl, bw2, dw2⟩
  have HXb := hid (But.trans (But.of HBw1.out) bw2)
  have HX := hid (ButIn.of_but (S := [p, bb]) HXb.out (by simp))
  have HTT := hid (HT.out.butIn (ButIn.of_but (S := [p]) HXb.out (by simp)))
  clear HT HD HBw1 Kdw1 Kd Hb hd
  have hd := dw2
  have HT := hid HTT.out.text
  have HD := hid dw2
  have HBw2 := hid (Below.refl w2.heap.size w2)
  have Kdw2 := hid dw2.kp
  clear bw2 dw2
  have cd0w2 : w2.cell? ⟨p, 0, none⟩ = some (.int .i64 z) := by rw [Kdw2.out.cell]; rfl
  have cd2w2 : w2.cell? ⟨p, 2, none⟩ = some (.slice none 0 0) := by rw [Kdw2.out.cell]; rfl
  have cd3w2 : w2.cell? ⟨p, 3, none⟩ = some (.bool true) := by rw [Kdw2.out.cell]; rfl
  go_wp2_with fail
  refine wp_region_flow 11 [0, 1, 2, 3, 4, 5, 6] [] [(.c 7, [8], [9]), (.b 9, [], []), (.c 10, [], [])] (by kernel_rfl) (by kernel_rfl) ?_
  apply Exists.intro
  refine ⟨fun w0 hb0 hF0 => ?_, ?_⟩
  · skip
    have y0 : ∀ w', (∃ x : Ext w0, w' = x.at_) → w'.cell? ⟨p, 2, none⟩ = some (.slice none 0 0) := fun w' ⟨x, hx⟩ => by rw [hx, ((Kdw2.out.below hb0).below x.same).cell]; rfl
    simp only [pick, List.getElem?_toArray, List.getElem?_cons_succ, List.getElem?_cons_zero, Option.toList_some, List.cons_append, List.nil_append]
    repeat (first | (go_big_quiet_want; refine quiet_load_one 73 _ rfl ⟨p, 2, none⟩ rfl _ y0 _ Try.underlying73 rfl ?_; go_big_quiet_on; simp only [Act.put, List.setIfInBounds_toArray, List.set_cons_zero, List.set_cons_succ]) | go_big_quiet_step (fail))
    exact wpQuiet_nil rfl
  refine AlChk.nil ?_
  refine Walk.call rfl 42 #[.slice ta z tc] (fun v w' => ∃ a c, v = .slice a z c ∧ TextAt w' a z c t ∧ ∀ q : Addr, a = some q → w2.heap.size ≤ q.block) (fun v w' w'' h k => by obtain ⟨a, c, h1, h2, h3⟩ := h; exact ⟨a, c, h1, h2.below k, h3⟩) rfl (fun w1 hb1 hF1 => ⟨by go_simp, ?_⟩) ?_
  · refine (clone_any ((HT.out.below HBw2.out).below hb1) (by omega)).mono ?_
    rintro e w2 ⟨a, c, rfl, b2, t2, o2⟩
    exact ⟨_, rfl, b2, a, c, rfl, t2, fun q hq => Nat.le_trans hb1.size (o2 q hq).1⟩
  rintro v1 w1 hb1 hF1 ⟨a1, c1, rfl, _, ha1⟩
  apply Exists.intro
  refine ⟨fun w0 hb0 hF0 => ?_, ?_⟩
  · skip
    simp only [pick, List.getElem?_toArray, List.getElem?_cons_succ, List.getElem?_cons_zero, Option.toList_some, List.cons_append, List.nil_append, Act.put, List.setIfInBounds_toArray, List.set_cons_zero, List.set_cons_succ]
    repeat (first | go_big_quiet_step (fail))
    exact wpQuiet_nil rfl
  refine AlChk.one rfl (fun b => .slice (some ⟨b, 0, none⟩) 1 1) (.cells #[.int .i64 (i : Int), .slice a1 z c1] 85 (0, 0)) rfl (fun w3 hb3 hF3 => exec_build_write rfl (by go_simp)) ?_
  refine AlChk.nil ?_
  refine Walk.blk rfl (fun b => .slice (some ⟨b, 0, none⟩) 1 1) (.cells #[.int .i64 (i : Int), .slice a1 z c1] 85 (0, 0)) (by simp) ?_
  intro b9 wz hbz_ hFz hge9 _
  apply Exists.intro
  refine ⟨fun w4 hb4 hF4 => wpQuiet_nil rfl, ?_⟩
  refine AlChk.nil ?_
  refine Walk.does rfl (fun v w' => ∃ g c, v = .slice (some ⟨g, 0, none⟩) 1 c ∧ 1 ≤ c ∧ w2.heap.size ≤ g ∧ ∃ cur, Blk w' g cur 85 ∧ cur[0]? = some (.int .i64 (i : Int)) ∧ cur[1]? = some (.slice a1 z c1)) (fun v w' w'' h k => by obtain ⟨g, c, h1, h2, h3, cur, h4, h5⟩ := h; exact ⟨g, c, h1, h2, h3, cur, h4.below k, h5⟩) rfl (fun w1 hb1 hF1 => ?_) ?_
  · obtain ⟨g, c, w2, hr, hb2, hc2, hg2, cur, hk2, hc0, hc1⟩ := run_append_write (w := w1) (b := b9) (x := .int .i64 (i : Int)) (y := .slice a1 z c1) (T := 85) 73 hF1.2 rfl rfl
    refine ⟨_, w2, FlowB.exec_append rfl rfl rfl hr, hb2, g, c, rfl, hc2, Nat.le_trans hb1.size hg2, cur, hk2, hc0, hc1⟩
  rintro v2 w2 hb2 hF2 ⟨g, c, rfl, hc, hg, _⟩
  apply Exists.intro
  refine ⟨fun w4 hb4 hF4 => wpQuiet_nil rfl, ?_⟩
  refine AlChk.nil ?_
  refine Walk.fin fun w3 hw3 hFw3 _ => ?_
  simp only [List.drop_succ_cons, List.drop_zero]
  have HFF := hid hFw3
  have HBw3 := hid (Below.on HBw2.out hw3)
  have hsw3 := HBw3.out.size
  have Kdw3 := hid (Kdw2.out.below hw3)
  clear hw3 hFw3
  go_wp2_with (
        refine wpList_store_cell rfl 73 _ _ rfl p 2 (.slice (some ⟨g, 0, none⟩) 1 c) rfl rfl rfl rfl (dkC z B.length bb (.slice none 0 0) true true (af - 1) kv) 75 Kdw3.out (by simp [dkC]) size_waits ?_
        intro w9 hb9 hk9
        have Hb9 := hid hb9
        have Kd9 := hid (show Blk w9 p (dkC z B.length bb (.slice (some ⟨g, 0, none⟩) 1 c) true true (af - 1) kv) 75 from hk9)
        clear hb9 hk9)
  go_returns
  have hI := ButIn.on (ButIn.of_below (S := [p, bb]) HBw3.out) (ButIn.of_but (S := [p, bb]) Hb9.out (by simp))
  have hplt := hd.kp.lt
  have hblt := hd.kb.lt
  obtain ⟨q1, q2⟩ := HFF.out
  obtain ⟨g', c', he, _, _, cur, hk, h0, h1⟩ := q2
  obtain ⟨⟨_, a', c2, he2, ht, _⟩, _⟩ := q1
  cases he
  cases he2
  have hsz0 := HBw2.out.size
  refine ⟨_, _, rfl, ButIn.on HX.out hI, But.trans HXb.out (But.trans (But.of HBw3.out) Hb9.out), ⟨Kd9.out, Hb9.out.blk ((HD.out.kb).below HBw3.out) (Ne.symm hd.ne), hd.ne, hd.len, hd.z1, hd.z2, hd.n1, hd.n2, hd.small⟩, ?_⟩
  refine WaitAt.of_blk (Hb9.out.blk hk (by omega)) hc h0 h1 (by simp only [List.mem_cons, List.not_mem_nil, or_false]; omega) ⟨?_, fun q hq => by have := ha1 q hq; simp only [List.mem_cons, List.not_mem_nil, or_false]; omega⟩
  exact ht.butIn (S := [p]) (fun q hq => by have := ha1 q hq; simp only [List.mem_cons, List.not_mem_nil, or_false]; omega) (ButIn.of_but Hb9.out (by simp))
end Go.Proofs.Ytmpgnpkodapidaa
