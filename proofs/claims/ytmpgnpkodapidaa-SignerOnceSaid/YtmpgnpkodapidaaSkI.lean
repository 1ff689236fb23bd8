/-
  Layer 13: no slots, a text that is too long, and the rows of the document's examples.
-/
import Derived.Test.YtmpgnpkodapidaaSkH
namespace Go.Proofs.Ytmpgnpkodapidaa
open Go.ChangeShapes Go.WideShapes Go.ChangeAt Go.RowKit

set_option maxHeartbeats 4000000 in
set_option maxRecDepth 100000 in
theorem read_nil (w : World) (i : Int) :
    Calls Try.prog 20 #[.pointer none, .int .i64 i] w fun e w' => e = .returned (.tuple #[.slice none 0 0, .int .i64 9]) ∧ Below w.heap.size w w' := by
  have Hb := hid (Below.refl w.heap.size w)
  go_enter Try.func20, Try.ntmps20
  go_wp2_with fail
  go_returns
  exact ⟨rfl, Hb.out⟩
set_option maxHeartbeats 4000000 in
set_option maxRecDepth 100000 in
theorem open_nil (w : World) (i : Int) :
    Calls Try.prog 22 #[.pointer none, .int .i64 i] w fun e w' => e = .returned (.tuple #[.pointer none, .int .i64 9]) ∧ Below w.heap.size w w' := by
  have b1 := (Below.refl w.heap.size w).alloc (Nat.le_refl _) (.cells #[.pointer none] 24 (0, 0))
  have Hb := hid b1
  clear b1
  go_enter Try.func22, Try.ntmps22
  go_wp2_with fail
  refine (read_nil _ i).mono ?_
  rintro e w1 ⟨rfl, b1⟩
  have HB1 := hid (Below.on Hb.out b1)
  clear b1
  go_wp2_with fail
  go_returns
  exact ⟨rfl, HB1.out⟩
set_option maxHeartbeats 4000000 in
set_option maxRecDepth 100000 in
theorem room_nil (w : World) :
    Calls Try.prog 46 #[.pointer none] w fun e w' => e = .returned (.int .i64 0) ∧ Below w.heap.size w w' := by
  have Hb := hid (Below.refl w.heap.size w)
  go_enter Try.func46, Try.ntmps46
  go_wp2_with fail
  go_returns
  exact ⟨rfl, Hb.out⟩
set_option maxHeartbeats 4000000 in
set_option maxRecDepth 100000 in
theorem replace_nil (w : World) (v : Value) :
    Calls Try.prog 24 #[.pointer none, v] w fun e w' => e = .returned (.int .i64 9) ∧ Below w.heap.size w w' := by
  have Hb := hid (Below.refl w.heap.size w)
  go_enter Try.func24, Try.ntmps24
  go_wp2_with fail
  go_returns
  exact ⟨rfl, Hb.out⟩
set_option maxHeartbeats 4000000 in
set_option maxRecDepth 100000 in
theorem replace_long (w : World) (q p : Nat) (at_ turn : Int) (tv : Value) (st : Bool) (bb z n : Nat) (B : List Int) (wv : Value) (on set : Bool) (af : Int) (kv : Value) (hd : DkAt w p bb z n B wv on set af kv) (hk : Blk w q (slC p at_ turn tv st) 88) (h18 : 18 ≤ z) (ba : Option Addr) (bn bc : Nat) (hl : z < bn + 18) :
    Calls Try.prog 24 #[.pointer (some ⟨q, 0, none⟩), .slice ba bn bc] w fun e w' => e = .returned (.int .i64 1) ∧ Below w.heap.size w w' := by
  have Ks := hid hk
  have HD := hid hd
  clear hk hd
  have qr : (z : Int) - 18 < (bn : Int) := by omega
  go_enter Try.func24, Try.ntmps24
  go_wp2_with fail
  refine (room_any _ q p at_ turn tv st bb z n B wv on set af kv HD.out Ks.out h18).mono ?_
  rintro e w1 ⟨rfl, b1⟩
  have HB1 := hid b1
  clear b1
  go_wp2_with fail
  go_returns
  exact ⟨rfl, HB1.out⟩
theorem conv_two (W : World) : (convert 31 31 (.slice (some ⟨W.heap.size, 0, none⟩) 2 2)).run Try.prog (W.alloc (.cells #[.int .u8 97, .int .u8 98] 5)) = .ok (.slice (some ⟨W.heap.size, 0, none⟩) 2 2) (W.alloc (.cells #[.int .u8 97, .int .u8 98] 5 (2, 3))) := by
  have h := Go.Lib.run_convert_bytes_const (P := Try.prog) W 31 5 #[.int .u8 97, .int .u8 98] 2 2 Try.underlying31 Try.underlying5
  simpa using h
theorem conv_three (W : World) : (convert 31 31 (.slice (some ⟨W.heap.size, 0, none⟩) 3 3)).run Try.prog (W.alloc (.cells #[.int .u8 97, .int .u8 98, .int .u8 99] 5)) = .ok (.slice (some ⟨W.heap.size, 0, none⟩) 3 3) (W.alloc (.cells #[.int .u8 97, .int .u8 98, .int .u8 99] 5 (3, 4))) := by
  have h := Go.Lib.run_convert_bytes_const (P := Try.prog) W 31 5 #[.int .u8 97, .int .u8 98, .int .u8 99] 3 3 Try.underlying31 Try.underlying5
  simpa using h
set_option maxHeartbeats 4000000 in
set_option maxRecDepth 100000 in
theorem knows13 (w : World) :
    Calls Try.prog 21 #[] w fun e w' => e = .returned (.bool true) ∧ Below w.heap.size w w' := by
  have Hb := hid (Below.refl w.heap.size w)
  have hc2 := conv_two
  have hc3 := conv_three
  go_enter Try.func21, Try.ntmps21
  go_wp2_with fail
  refine (new_good w 2 20 (by omega) (by omega) (by omega) (by omega)).mono ?_
  rintro e w1 ⟨p, bb, rfl, hp, hbb, b1, d1⟩
  have HB1 := hid b1
  have HD1 := hid d1
  have hs1 := b1.size
  have hpl := d1.kp.lt
  have hbl := d1.kb.lt
  clear b1 d1
  go_wp2_with fail
  refine (open_good w1 p bb 20 2 _ false 0 _ 0 HD1.out (by omega) (by omega)).mono ?_
  rintro e w2 ⟨q, ta, tn, tc, rfl, hq, b2, k2, t2⟩
  have HB2 := hid (Below.on HB1.out b2)
  have HD2 := hid (HD1.out.below b2)
  have HK2 := hid (show Blk w2 q (slC p (0 : Nat) (0 : Nat) (.slice ta tn tc) false) 88 from k2)
  have hs2 := b2.size
  have hql := k2.lt
  clear b2 k2 t2
  go_wp2_with fail
  refine (open_nil w2 0).mono ?_
  rintro e w3 ⟨rfl, b3⟩
  have HB3 := hid (Below.on HB2.out b3)
  have HD3 := hid (HD2.out.below b3)
  have HK3 := hid (HK2.out.below b3)
  have hs3 := b3.size
  clear b3
  go_wp2_with fail
  refine (room_any w3 q p _ _ _ _ bb 20 2 _ _ _ _ _ _ HD3.out HK3.out (by omega)).mono ?_
  rintro e w4 ⟨rfl, b4⟩
  have HB4 := hid (Below.on HB3.out b4)
  have HD4 := hid (HD3.out.below b4)
  have HK4 := hid (HK3.out.below b4)
  have hs4 := b4.size
  clear b4
  go_wp2_with fail
  refine (turn_any w4 q p _ _ _ _ HK4.out).mono ?_
  rintro e w5 ⟨rfl, b5⟩
  have HB5 := hid (Below.on HB4.out b5)
  have HD5 := hid (HD4.out.below b5)
  have HK5 := hid (HK4.out.below b5)
  have hs5 := b5.size
  clear b5
  go_wp2_with fail
  have b6 := (Below.refl w5.heap.size w5).alloc (Nat.le_refl _) (.cells #[.int .u8 97, .int .u8 98] 5 (2, 3))
  have HB6 := hid (Below.on HB5.out b6)
  have HD6 := hid (HD5.out.below b6)
  have HK6 := hid (HK5.out.below b6)
  have HT6 := hid (show TextAt (w5.alloc (.cells #[.int .u8 97, .int .u8 98] 5 (2, 3))) (some ⟨w5.heap.size, 0, none⟩) 2 2 [97, 98] from TextAt.made (w := w5) (bs := [97, 98]) (n := 2) (2, 3) rfl (by omega) (by simp))
  have hs6 := b6.size
  clear b6
  refine (replace_ok _ q p bb 20 2 _ 0 _ 0 0 _ (some ⟨w5.heap.size, 0, none⟩) 2 2 [97, 98] HD6.out HK6.out ⟨HT6.out, fun x hx => by cases hx; simp only [List.mem_cons, List.not_mem_nil, or_false]; omega⟩ (by omega) (by omega) (by omega) (by omega)).mono ?_
  rintro e w7 ⟨rfl, i7, d7, a7, c7, k7, t7, ht7⟩
  have HB7 := hid (i7.below HB6.out HB6.out.size (by simp only [List.mem_cons, List.not_mem_nil, or_false, forall_eq_or_imp, forall_eq]; omega))
  have HD7 := hid d7
  have HK7 := hid k7
  have HT7 := hid t7
  have hs7 := i7.size
  clear i7 d7 k7 t7
  go_wp2_with fail
  have b8 := (Below.refl w7.heap.size w7).alloc (Nat.le_refl _) (.cells #[.int .u8 97, .int .u8 98, .int .u8 99] 5 (3, 4))
  have HB8 := hid (Below.on HB7.out b8)
  have HD8 := hid (HD7.out.below b8)
  have HK8 := hid (HK7.out.below b8)
  have HT8 := hid (HT7.out.below b8)
  clear b8
  refine (replace_long _ q p _ _ _ _ bb 20 2 _ _ _ _ _ _ HD8.out HK8.out (by omega) (some ⟨w7.heap.size, 0, none⟩) 3 3 (by omega)).mono ?_
  rintro e w9 ⟨rfl, b9⟩
  have HB9 := hid (Below.on HB8.out b9)
  have HK9 := hid (HK8.out.below b9)
  have HT9 := hid (HT8.out.below b9)
  clear b9
  go_wp2_with fail
  refine (text_any w9 q p _ _ a7 2 c7 [97, 98] _ HK9.out HT9.out (by omega)).mono ?_
  rintro e w10 ⟨a10, c10, rfl, b10, t10, -⟩
  have HB10 := hid (Below.on HB9.out b10)
  have HK10 := hid (HK9.out.below b10)
  have hcv := t10.string Try.underlying31 Try.underlying5 Try.underlying9
  have hqs : (strOfNums [97, 98]) = ⟨#[97, 98]⟩ := by decide
  clear b10 t10
  go_wp2_with fail
  refine (turn_any w10 q p _ _ _ _ HK10.out).mono ?_
  rintro e w11 ⟨rfl, b11⟩
  have HB11 := hid (Below.on HB10.out b11)
  clear b11
  go_wp2_with fail
  refine (room_nil w11).mono ?_
  rintro e w12 ⟨rfl, b12⟩
  have HB12 := hid (Below.on HB11.out b12)
  clear b12
  go_wp2_with fail
  refine (replace_nil w12 _).mono ?_
  rintro e w13 ⟨rfl, b13⟩
  have HB13 := hid (Below.on HB12.out b13)
  clear b13
  go_wp2_with fail
  go_returns
  exact ⟨by first | rfl | simp, HB13.out⟩
end Go.Proofs.Ytmpgnpkodapidaa
