/-
  Layer 18: is a proof complete, by the program?
-/
import Derived.Test.YthaicocfbmpnmaaDoorPrB
namespace Go.Proofs.YthaicocfbmpnmaaDoor
open Go.ChangeShapes Go.WideShapes Go.ChangeAt Go.RowKit

theorem size_proof : (Tryd.prog.info? 46).map (·.size) = some 33 := by kernel_rfl
/-- A proof's cells. -/
def prC (d : List Int) (v : Value) : List Value := d.map (Value.int .u8) ++ [v]
theorem prC_size {d : List Int} (h : Dg d) (v : Value) : (prC d v).toArray.size = 33 := by simp [prC, h.len]
theorem prC_nodes {d : List Int} {v : Value} {w : World} {b : Nat} {T : TypeId} (h : Dg d) (k : Blk w b (prC d v).toArray T) : w.cell? ⟨b, 32, none⟩ = some v := by
  rw [k.cell, List.getElem?_toArray]
  simp [prC, h.len]
theorem prC_known {d : List Int} {v : Value} {w : World} {b : Nat} {T : TypeId} (k : Blk w b (prC d v).toArray T) : w.rangeAt b 0 (d.map (Value.int .u8)) := fun j u hu => by
  have hj : j < d.length := by have := (List.getElem?_eq_some_iff.1 hu).1; simpa using this
  rw [Nat.zero_add, k.cell, List.getElem?_toArray, ← hu]
  unfold prC
  rw [List.getElem?_append_left (by simpa using hj)]

set_option maxHeartbeats 4000000 in
set_option maxRecDepth 100000 in
theorem complete_any (d : List Int) (ad : Option Addr) (len cap : Nat) (w : World) (hd : Dg d) :
    Calls Tryd.prog 57 #[.agg (prC d (.slice ad len cap)).toArray] w fun e w' => e = .returned (.bool (decide (knN d 256 = len))) ∧ Below w.heap.size w w' := by
  have b1 := (Below.refl w.heap.size w).alloc (Nat.le_refl _) (.cells (prC d (.slice ad len cap)).toArray 46 (0, 0))
  have Kp := hid (Blk.new (w := w) (n := w.heap.size) rfl (prC d (.slice ad len cap)).toArray 46)
  have Hb := hid b1
  have hbz := b1.size
  have Hbs := hid (show w.heap.size + 1 = (w.alloc (.cells (prC d (.slice ad len cap)).toArray 46 (0, 0))).heap.size by simp only [World.size_alloc])
  clear b1 
  go_enter Tryd.func57, Tryd.ntmps57
  go_wp2_with (refine wpList_load_mid rfl 23 _ rfl (w.heap.size) 0 rfl _ _ (prC_known Kp.out) Tryd.underlying23 rfl (by rw [List.length_map, hd.len]; exact size_digest) ?_)
  go_loopw [3, 8] (fun nv iv wr => ∃ k : Nat, k ≤ 32 ∧ iv = .int .i64 k ∧ nv = .int .i64 (knN d (8 * k) : Nat) ∧ Blk wr w.heap.size (prC d (.slice ad len cap)).toArray 46 ∧ Below w.heap.size w wr) (fun _ iv _ => 32 - (intOf iv).toNat)
  case atStart => exact ⟨0, Nat.zero_le _, rfl, rfl, Kp.out, Hb.out⟩
  case round =>
    obtain ⟨k, hk, rfl, rfl, kd, bel⟩ := hrel
    have Kpwr := hid kd
    have HBwr := hid bel
    have hswr := bel.size
    clear kd bel
    have hnk := knN_le d (8 * k)
    by_cases hlt : k < 32
    · skip
      have hc0 : (k : Int) < 32 := by omega
      have hxx := dg_at hd k
      have hlen := hd.len
      have hix := fun W : World => run_index_ints (P := Tryd.prog) (t := 23) (e := 5) (n := 32) (k' := .i64) Tryd.underlying23 Tryd.underlying5 rfl rfl d hlen k hlt W
      have hob := onesB_le (d.getD k 0)
      have CK := hid (fun W : World => ones_any (d.getD k 0) W hxx.1 hxx.2)
      have HD0 := hid hd
      have HN := hid (knN_step d k)
      generalize d.getD k 0 = x at *
      generalize onesB x = z at *
      generalize hN : knN d (8 * k) = n at *
      clear hN
      go_wp2_with (go_at_call 85; refine (CK.out _).mono ?_; rintro e w' ⟨rfl, rfl⟩)
      exact ⟨⟨k + 1, by omega, by first | rfl | simp, by rw [HN.out]; first | rfl | simp, Kpwr.out, HBwr.out⟩, by simp [intOf]; omega⟩
    · skip
      have hk7 : k = 32 := by omega
      subst hk7
      have hc0 : ¬ ((32 : Int) < 32) := by omega
      have g32 := prC_nodes hd Kpwr.out
      generalize hN : knN d (8 * 32) = n at *
      have HN := hid hN
      clear hN
      go_wp2_with fail
      go_returns
      refine ⟨?_, HBwr.out⟩
      rw [show (256 : Nat) = 8 * 32 from rfl, HN.out]
      by_cases hz : n = len
      · subst hz; rw [decide_eq_true rfl]; first | rfl | (show Ending.returned (.bool ((n : Int) == (n : Int))) = _; simp)
      · rw [decide_eq_false hz]; show Ending.returned (.bool ((len : Int) == (n : Int))) = _; rw [show ((len : Int) == (n : Int)) = false by simp; omega]
end Go.Proofs.YthaicocfbmpnmaaDoor
