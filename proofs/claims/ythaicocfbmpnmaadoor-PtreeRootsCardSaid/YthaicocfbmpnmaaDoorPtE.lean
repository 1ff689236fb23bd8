/-
  Layer 17: the rows of the document's examples.
-/
import Derived.Test.YthaicocfbmpnmaaDoorPtD
import Derived.Carry
namespace Go.Proofs.YthaicocfbmpnmaaDoor
open Go.ChangeShapes Go.WideShapes Go.ChangeAt Go.RowKit

theorem size_forest : (Tryd.prog.info? 76).map (·.size) = some 2 := by kernel_rfl

set_option maxHeartbeats 4000000 in
set_option maxRecDepth 100000 in
theorem grow_none (w : World) (tab : ShaTab w) :
    Calls Tryd.prog 49 #[.slice none 0 0] w fun e w' => ∃ g, e = .returned (.tuple #[.agg #[.slice none 0 0, .slice (some ⟨g, 0, none⟩) 257 257], .int .i64 0]) ∧ w.heap.size ≤ g ∧ Below w.heap.size w w' ∧ Blk w' g (dcs (empN 257)) 23 := by
  have b1 := (Below.refl w.heap.size w).alloc (Nat.le_refl _) (.cells #[.slice none 0 0, .slice none 0 0] 76 (0, 0))
  have Kf := hid (Blk.new (w := w) (n := w.heap.size) rfl #[.slice none 0 0, .slice none 0 0] 76)
  have Hb := hid b1
  have hbz := b1.size
  have Hbs := hid (show w.heap.size + 1 = (w.alloc (.cells #[.slice none 0 0, .slice none 0 0] 76 (0, 0))).heap.size by simp only [World.size_alloc])
  have Htab := hid tab
  clear b1 tab 
  have hmm : ∀ W : World, (Instr.makeMap 117 none).run Tryd.prog W = .ok (.map (some W.heap.size)) (W.alloc (.map #[] 0)) := fun W => run_makeMap _ W
  go_enter Tryd.func49, Tryd.ntmps49
  go_wp2_with fail
  have b1 := Hb.out.alloc Hb.out.size (.map #[] 0)
  have Kf1 := hid (Kf.out.old (.map #[] 0))
  have Hb1 := hid b1
  clear b1
  generalize hW1 : (w.alloc (.cells #[.slice none 0 0, .slice none 0 0] 76 (0, 0))).alloc (.map #[] 0) = w1 at *
  have hs1 := Hb1.out.size
  have hf1 := Kf1.out.lt
  go_loopw [15] (fun iv wr => iv = .int .i64 0 ∧ wr = w1) (fun _ _ => 0)
  case atStart => exact ⟨rfl, rfl⟩
  case round =>
    obtain ⟨rfl, rfl⟩ := hrel
    go_wp2_with fail
    refine (valuesf_nil _).mono ?_
    rintro e w2 ⟨rfl, b2, k2⟩
    have Hb2 := hid (Below.on Hb1.out b2)
    have Kf2 := hid (Kf1.out.below b2)
    have Kv2 := hid k2
    have hs2 := Hb2.out.size
    clear b2 k2
    go_wp2_with fail
    refine (sorted_none _ _ _ _ Kv2.out).mono ?_
    rintro e w3 ⟨rfl, b3⟩
    have Hb3 := hid (Below.on Hb2.out b3)
    have Kf3 := hid (Kf2.out.below b3)
    have hs3 := Hb3.out.size
    clear b3
    go_wp2_with fail
    refine (empty_any _ (Htab.out.below Hb3.out)).mono ?_
    rintro e w4 ⟨rfl, b4, k4⟩
    have Hb4 := hid (Below.on Hb3.out b4)
    have Kf4 := hid (Kf3.out.below b4)
    have Kg4 := hid k4
    have hs4 := Hb4.out.size
    have hf3 := Kf3.out.lt
    clear b4 k4
    have Kgw21 : Hid (Blk ((w4.setCell ⟨w.heap.size, 0, none⟩ (.slice none 0 0)).setCell ⟨w.heap.size, 1, none⟩ (.slice (some ⟨w3.heap.size, 0, none⟩) 257 257)) (w3.heap.size) (dcs (empN 257)) 23) := hid (Blk.setAll_other (b := w.heap.size) (by have := Kg4.out.lt; omega) [.slice none 0 0, .slice (some ⟨w3.heap.size, 0, none⟩) 257 257] 0 _ Kg4.out)
    have q0w21 := (Kf4.out.cell 0).trans (show _ = some _ from rfl)
    have r0w21 := Kf4.out.free 0
    have q1w21 := (Kf4.out.cell 1).trans (show _ = some _ from rfl)
    have r1w21 := Kf4.out.free 1
    have Kfw21 : Hid (Blk ((w4.setCell ⟨w.heap.size, 0, none⟩ (.slice none 0 0)).setCell ⟨w.heap.size, 1, none⟩ (.slice (some ⟨w3.heap.size, 0, none⟩) 257 257)) (w.heap.size) #[.slice none 0 0, .slice (some ⟨w3.heap.size, 0, none⟩) 257 257] 76) := hid (Blk.setAll_self Kf4.out [.slice none 0 0, .slice (some ⟨w3.heap.size, 0, none⟩) 257 257] rfl)
    have HBw21 : Hid (Below w.heap.size w ((w4.setCell ⟨w.heap.size, 0, none⟩ (.slice none 0 0)).setCell ⟨w.heap.size, 1, none⟩ (.slice (some ⟨w3.heap.size, 0, none⟩) 257 257))) := hid (Below.setAll (by omega) [.slice none 0 0, .slice (some ⟨w3.heap.size, 0, none⟩) 257 257] 0 _ Hb4.out)
    have hsw21 := HBw21.out.size
    go_wp2_with fail
    exact bodyPost_ret (v := .tuple #[.agg #[.slice none 0 0, .slice (some ⟨w3.heap.size, 0, none⟩) 257 257], .int .i64 0]) (results_blk_tmp Tryd.results49 _ (w.heap.size) rfl _ rfl _ 76 Kfw21.out _ Tryd.underlying76 rfl 2 size_forest rfl) rfl ⟨_, rfl, hs3, HBw21.out, Kgw21.out⟩

set_option maxHeartbeats 4000000 in
set_option maxRecDepth 100000 in
theorem grow_many (a : Option Addr) (n c : Nat) (hn : 256 < n) (w : World) :
    Calls Tryd.prog 49 #[.slice a n c] w fun e w' => e = .returned (.tuple #[.agg #[.slice none 0 0, .slice none 0 0], .int .i64 3]) ∧ Below w.heap.size w w' := by
  have hI : (256 : Int) < n := by omega
  have b1 := (Below.refl w.heap.size w).alloc (Nat.le_refl _) (.cells #[.slice none 0 0, .slice none 0 0] 76 (0, 0))
  have Kf := hid (Blk.new (w := w) (n := w.heap.size) rfl #[.slice none 0 0, .slice none 0 0] 76)
  have Hb := hid b1
  have hbz := b1.size
  have Hbs := hid (show w.heap.size + 1 = (w.alloc (.cells #[.slice none 0 0, .slice none 0 0] 76 (0, 0))).heap.size by simp only [World.size_alloc])
  clear b1 
  go_enter Tryd.func49, Tryd.ntmps49
  go_wp2_with fail
  exact bodyPost_ret (v := .tuple #[.agg #[.slice none 0 0, .slice none 0 0], .int .i64 3]) (results_blk_tmp Tryd.results49 _ (w.heap.size) rfl _ rfl _ 76 Kf.out _ Tryd.underlying76 rfl 2 size_forest rfl) rfl ⟨rfl, Hb.out⟩
end Go.Proofs.YthaicocfbmpnmaaDoor
