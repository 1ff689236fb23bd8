/-
  Layer 12: the rows of the document's examples.
-/
import Derived.Test.YtmpgnpkodapidaaDkE
namespace Go.Proofs.Ytmpgnpkodapidaa
open Go.ChangeShapes Go.WideShapes Go.ChangeAt Go.RowKit

set_option maxHeartbeats 4000000 in
set_option maxRecDepth 100000 in
theorem knows12 (w : World) :
    Calls Try.prog 8 #[] w fun e w' => e = .returned (.bool true) ∧ Below w.heap.size w w' := by
  have Hb := hid (Below.refl w.heap.size w)
  go_enter Try.func8, Try.ntmps8
  go_wp2_with fail
  refine (new_good w 1 2 (by omega) (by omega) (by omega) (by omega)).mono ?_
  rintro e w1 ⟨p, bb, rfl, hp, hbb, b1, d1⟩
  have Hb1 := hid b1
  have HD1 := hid d1
  have hplt := d1.kp.lt
  have hblt := d1.kb.lt
  clear b1 d1
  go_wp2_with fail
  refine (write_nil _ 0 (.slice none 0 0)).mono ?_
  rintro e w2 ⟨rfl, b2⟩
  have Hb2 := hid (Below.on Hb1.out b2)
  have HD2 := hid (HD1.out.below b2)
  have hs2 := b2.size
  clear b2
  go_wp2_with fail
  refine (sectors_nil _).mono ?_
  rintro e w3 ⟨rfl, b3⟩
  have Hb3 := hid (Below.on Hb2.out b3)
  have HD3 := hid (HD2.out.below b3)
  have hs3 := b3.size
  clear b3
  go_wp2_with fail
  have HT3 := hid (TextAt.of_ints (Blk.new (w := w3) rfl #[.int .u8 1, .int .u8 2] 5) (bs := [1, 2]) (n := 2) rfl (by omega) (by simp))
  have HD3b := hid (HD3.out.below ((Below.refl _ _).alloc (Nat.le_refl _) (.cells #[.int .u8 1, .int .u8 2] 5 (0, 0))))
  have Hb3b := hid (Below.on Hb3.out ((Below.refl _ _).alloc (Nat.le_refl _) (.cells #[.int .u8 1, .int .u8 2] 5 (0, 0))))
  refine (write_first _ p bb 2 1 _ 0 _ HD3b.out 0 (by omega) (some ⟨w3.heap.size, 0, none⟩) 2 [1, 2] HT3.out).mono ?_
  rintro e w4 ⟨wa, wc, rfl, i4, _, d4, q4⟩
  have Hb4 := hid (i4.below Hb3b.out Hb3b.out.size (by simp only [List.mem_cons, List.not_mem_nil, or_false, forall_eq_or_imp, forall_eq]; omega))
  have HD4 := hid d4
  have HW4 := hid q4
  have hplt4 := d4.kp.lt
  have hblt4 := d4.kb.lt
  clear i4 d4 q4
  go_wp2_with fail
  have Hk4 := hid (Blk.new (w := w4) rfl #[.int .i64 1] 3)
  have b4 := (Below.refl w4.heap.size w4).alloc (Nat.le_refl _) (.cells #[.int .i64 1] 3 (0, 0))
  have HI4 : Hid (IntsAt (w4.alloc (.cells #[.int .i64 1] 3 (0, 0))) [p, bb] (some ⟨w4.heap.size, 0, none⟩) [1]) := hid ⟨.inr ⟨w4.heap.size, 0, rfl, by simp only [List.mem_cons, List.not_mem_nil, or_false]; omega, Hk4.out.lt, fun j hj => by
    obtain rfl : j = 0 := by simp at hj; omega
    rw [Hk4.out.cell]; rfl⟩⟩
  have Hb4b := hid (Below.on Hb4.out b4)
  have HD4b := hid (HD4.out.below b4)
  have HW4b := hid (HW4.out.butIn (ButIn.of_below b4))
  clear b4
  refine (crash_any _ p bb 2 1 _ false 0 _ wa wc [(0, [1, 2])] (some ⟨w4.heap.size, 0, none⟩) 1 [1] HI4.out (by simp) HD4b.out HW4b.out (by simp) (by simp)).mono ?_
  rintro e w5 ⟨rfl, i5, d5⟩
  have Hb5 := hid (i5.below Hb4b.out Hb4b.out.size (by simp only [List.mem_cons, List.not_mem_nil, or_false, forall_eq_or_imp, forall_eq]; omega))
  have HD5 := hid (show DkAt w5 p bb 2 1 [1, 0] (.slice none 0 0) false false 0 (.slice none 0 0) from d5)
  clear i5 d5
  go_wp2_with fail
  refine (read_off _ p bb 2 1 _ _ false 0 _ HD5.out 0).mono ?_
  rintro e w6 ⟨rfl, b6⟩
  have Hb6 := hid (Below.on Hb5.out b6)
  have HD6 := hid (HD5.out.below b6)
  clear b6
  go_wp2_with fail
  refine (image_any _ p bb 2 1 _ _ false false 0 _ HD6.out).mono ?_
  rintro e w7 ⟨a7, c7, rfl, b7, t7⟩
  have Hb7 := hid (Below.on Hb6.out b7)
  have HD7 := hid (HD6.out.below b7)
  have hcv := (show TextAt w7 a7 2 c7 [1, 0] from t7).string Try.underlying31 Try.underlying5 Try.underlying9
  have hqs : (strOfNums [1, 0]) = ⟨#[1, 0]⟩ := by decide
  have HT7 := hid t7
  clear b7 t7
  go_wp2_with fail
  refine (size_any _ p bb 2 1 _ _ false false 0 _ HD7.out).mono ?_
  rintro e w8 ⟨rfl, b8⟩
  have Hb8 := hid (Below.on Hb7.out b8)
  clear b8
  go_wp2_with fail
  go_returns
  exact ⟨by first | rfl | simp, Hb8.out⟩
end Go.Proofs.Ytmpgnpkodapidaa
