/-
  Layer 18: has a proof as many nodes as it should, by the reference?
-/
import Derived.Test.YthaicocfbmpnmaaDoorPrA
namespace Go.Proofs.YthaicocfbmpnmaaDoor
open Go.ChangeShapes Go.WideShapes Go.ChangeAt Go.RowKit


set_option maxHeartbeats 4000000 in
set_option maxRecDepth 100000 in
theorem refwhole_any (d : List Int) (ad : Option Addr) (len cap : Nat) (w : World) (hd : Dg d) :
    Calls Tryd.prog 30 #[.agg (d.map (Value.int .u8)).toArray, .slice ad len cap] w fun e w' => e = .returned (.bool (decide (knN d 256 = len))) ∧ Below w.heap.size w w' := by
  have b1 := (Below.refl w.heap.size w).alloc (Nat.le_refl _) (.cells (d.map (Value.int .u8)).toArray 23 (0, 0))
  have Kd := hid (Blk.new (w := w) (n := w.heap.size) rfl (d.map (Value.int .u8)).toArray 23)
  have Hb := hid b1
  have hbz := b1.size
  have Hbs := hid (show w.heap.size + 1 = (w.alloc (.cells (d.map (Value.int .u8)).toArray 23 (0, 0))).heap.size by simp only [World.size_alloc])
  clear b1 
  go_enter Tryd.func30, Tryd.ntmps30
  go_wp2_with fail
  go_loopw [5, 6] (fun nv iv wr => ∃ k : Nat, k ≤ 256 ∧ iv = .int .i64 k ∧ nv = .int .i64 (knN d k : Nat) ∧ Blk wr w.heap.size (d.map (Value.int .u8)).toArray 23 ∧ Below w.heap.size w wr) (fun _ iv _ => 256 - (intOf iv).toNat)
  case atStart => exact ⟨0, Nat.zero_le _, rfl, rfl, Kd.out, Hb.out⟩
  case round =>
    obtain ⟨k, hk, rfl, rfl, kd, bel⟩ := hrel
    have Kdwr := hid kd
    have HBwr := hid bel
    have hswr := bel.size
    have hdlt := kd.lt
    clear kd bel
    have hnk := knN_le d k
    by_cases hlt : k < 256
    · skip
      have hc0 : (k : Int) < 256 := by omega
      have CK := hid (fun W : World => refkn_any d k W hd hlt)
      have HD0 := hid hd
      have HN := hid (show knN d (k + 1) = knN d k + (if knB d k then 1 else 0) from rfl)
      generalize hN : knN d k = n at *
      clear hN
      cases hB : knB d k
      · rw [hB] at CK HN
        clear hB
        go_wp2_with (refine wpList_load_blk rfl 23 _ rfl (w.heap.size) rfl _ 23 Kdwr.out _ Tryd.underlying23 rfl 32 size_digest HD0.out.size ?_)
        refine (CK.out _).mono ?_
        rintro e w21 ⟨rfl, bw21⟩
        have HBw21 := hid (Below.on HBwr.out bw21)
        have hsw21 := HBw21.out.size
        have Kdw21 := hid (Kdwr.out.below bw21)
        clear bw21
        go_wp2_with fail
        exact ⟨⟨k + 1, by omega, by first | rfl | simp, by rw [HN.out]; first | rfl | simp, Kdw21.out, HBw21.out⟩, by simp [intOf]; omega⟩
      · rw [hB] at CK HN
        clear hB
        go_wp2_with (refine wpList_load_blk rfl 23 _ rfl (w.heap.size) rfl _ 23 Kdwr.out _ Tryd.underlying23 rfl 32 size_digest HD0.out.size ?_)
        refine (CK.out _).mono ?_
        rintro e w21 ⟨rfl, bw21⟩
        have HBw21 := hid (Below.on HBwr.out bw21)
        have hsw21 := HBw21.out.size
        have Kdw21 := hid (Kdwr.out.below bw21)
        clear bw21
        go_wp2_with fail
        exact ⟨⟨k + 1, by omega, by first | rfl | simp, by rw [HN.out]; first | rfl | simp, Kdw21.out, HBw21.out⟩, by simp [intOf]; omega⟩
    · skip
      have hk7 : k = 256 := by omega
      subst hk7
      have hc0 : ¬ ((256 : Int) < 256) := by omega
      generalize hN : knN d 256 = n at *
      have HN := hid hN
      clear hN
      go_wp2_with fail
      go_returns
      refine ⟨?_, HBwr.out⟩
      rw [HN.out]
      by_cases hz : n = len
      · subst hz; rw [decide_eq_true rfl]; first | rfl | (show Ending.returned (.bool ((n : Int) == (n : Int))) = _; simp)
      · rw [decide_eq_false hz]; show Ending.returned (.bool ((n : Int) == (len : Int))) = _; rw [show ((n : Int) == (len : Int)) = false by simp; omega]; try rfl
end Go.Proofs.YthaicocfbmpnmaaDoor
