/-
  Layer 13: a slot is written.
-/
import Derived.Test.YtmpgnpkodapidaaSgC
namespace Go.Proofs.Ytmpgnpkodapidaa
open Go.ChangeShapes Go.WideShapes Go.ChangeAt Go.RowKit

/-- The bytes of a slot. -/
def slotB (z u : Nat) (b : List Int) : List Int := be 8 u ++ (be 2 b.length ++ (b ++ (List.replicate (z - 18 - b.length) 0 ++ be 8 u)))
theorem slotB_length {z u : Nat} {b : List Int} (h : b.length + 18 ≤ z) : (slotB z u b).length = z := by
  unfold slotB
  simp only [List.length_append, be_length, List.length_replicate]
  omega
set_option maxRecDepth 100000 in
/-- texts, whose values lie in a block -/
theorem TextsAt.of_blk {w : World} {g n cap : Nat} {T : TypeId} {vs : Array Value} {ts : List (List Int)} (h : Blk w g vs T) (hl : ts.length = n) (hc : n ≤ cap) (hm : cap ≤ 9223372036854775807) (hv : ∀ j, j < n → ∃ a l c, vs[j]? = some (.slice a l c) ∧ TextAt w a l c (ts.getD j [])) : TextsAt w (some ⟨g, 0, none⟩) n cap ts :=
  ⟨hl, hc, hm, .inr ⟨g, 0, rfl, h.lt, fun j hj => by
    obtain ⟨a, l, c, h1, h2⟩ := hv j hj
    exact ⟨a, l, c, by rw [Nat.zero_add, h.cell]; exact h1, h2⟩⟩⟩
theorem tmod_two (u : Nat) : Int.tmod (u : Int) 2 = ((u % 2 : Nat) : Int) := by
  rw [Int.tmod_eq_emod_of_nonneg (by omega)]; omega
set_option maxHeartbeats 4000000 in
set_option maxRecDepth 100000 in
theorem swrite_ok (w : World) (q p bb z n : Nat) (B : List Int) (af : Int) (kv : Value) (a0 T u : Nat) (tv : Value) (st : Bool) (ba : Option Addr) (bn bc : Nat) (b : List Int) (hd : DkAt w p bb z n B (.slice none 0 0) true false af kv) (hk : Blk w q (slC p a0 T tv st) 88) (hT : TextAt w ba bn bc b) (hbn : bn + 18 ≤ z) (ha : a0 + 2 ≤ n) (hu : u < 9223372036854775807) (hqp : q ≠ p ∧ q ≠ bb) :
    Calls Try.prog 51 #[.pointer (some ⟨q, 0, none⟩), .int .i64 u, .slice ba bn bc] w fun e w' => e = .returned (.int .i64 0) ∧ FlowB.ButIn [p, bb] w w' ∧ DkAt w' p bb z n (putS z (a0 + u % 2) (slotB z u b) z B) (.slice none 0 0) true false af kv := by
  have Hb := hid (Below.refl w.heap.size w)
  have Ks := hid hk
  have HD := hid hd
  have HT := hid hT
  have hz2 := hd.z2
  have hn2 := hd.n2
  have hbl := hT.length
  have hbs := hT.small
  have hbm := hT.max
  have hbe := hT.le
  have qu : (u : Int) % 18446744073709551616 = u := by omega
  have qm := tmod_two u
  obtain ⟨Z, hZ⟩ : ∃ Z : List Int, Z = List.replicate (z - 18 - bn) 0 := ⟨_, rfl⟩
  have hmk0 := fun W : World => make_bytes (z - 18 - bn) (by omega) W
  rw [← hZ] at hmk0
  have HMK := hid hmk0
  have HZL := hid hZ
  have HZS := hid (show ∀ x ∈ Z, 0 ≤ x ∧ x < 256 from fun x hx => by rw [hZ, List.mem_replicate] at hx; omega)
  clear hk hT hd hmk0 hZ
  go_enter Try.func51, Try.ntmps51
  go_wp2_with fail
  refine wp_region_flow 10 (List.range 10) [] [] (by kernel_rfl) (by kernel_rfl) ?_
  apply Exists.intro
  refine ⟨fun w0 hb0 hF0 => ?_, ?_⟩
  · skip
    have y1 : ∀ w', (∃ x : Ext w0, w' = x.at_) → w'.cell? ⟨q, 1, none⟩ = some (.int .i64 a0) := fun w' ⟨x, hx⟩ => by rw [hx, ((Ks.out.below hb0).below x.same).cell]; rfl
    simp only [pick, List.range, List.range.loop, List.getElem?_toArray, List.getElem?_cons_succ, List.getElem?_cons_zero, Option.toList_some, List.cons_append, List.nil_append]
    repeat (first | (go_big_quiet_want; refine quiet_load_one 3 _ rfl ⟨q, 1, none⟩ rfl _ y1 _ Try.underlying3 rfl ?_; go_big_quiet_on; simp only [Act.put, List.setIfInBounds_toArray, List.set_cons_zero, List.set_cons_succ]) | go_big_quiet_step (fail))
    exact wpQuiet_nil rfl
  refine AlChk.nil ?_
  refine Walk.fin fun w1 h1 _ _ => ?_
  simp only [List.drop_succ_cons, List.drop_zero]
  have HB1 := hid h1
  have Ks1 := hid (Ks.out.below h1)
  have HD1 := hid (HD.out.below h1)
  have HT1 := hid (HT.out.below h1)
  clear h1
  rcases (show u % 2 = 0 ∨ u % 2 = 1 by omega) with hpar | hpar
  · skip
    rw [hpar] at qm
    have ci : ∀ W : World, Blk W q (slC p a0 T tv st) 88 → W.cell? ⟨q, 0, none⟩ = some (.pointer (some ⟨p, 0, none⟩)) := fun W k => by rw [k.cell]; rfl
    have CI := hid ci
    clear ci
    go_wp2_with fail
    refine (number_any u 8 8 _ (by omega) (by omega) (by decide)).mono ?_
    rintro e w2 ⟨g1, hg1, rfl, b2, m2⟩
    have HB2 := hid (Below.on HB1.out b2)
    have Ks2 := hid (Ks1.out.below b2)
    have HD2 := hid (HD1.out.below b2)
    have HT2 := hid (HT1.out.below b2)
    have HM2 := hid m2
    clear b2 m2
    go_wp2_with fail
    refine (room_any _ q p a0 T tv st bb z n B (.slice none 0 0) true false af kv HD2.out Ks2.out (by omega)).mono ?_
    rintro e w3 ⟨rfl, b3⟩
    have HB3 := hid (Below.on HB2.out b3)
    have Ks3 := hid (Ks2.out.below b3)
    have HD3 := hid (HD2.out.below b3)
    have HT3 := hid (HT2.out.below b3)
    have HM3 := hid (HM2.out.below b3)
    clear b3
    have hmk : ∀ W : World, (Instr.makeSlice 31 (.int .i64 ((z : Int) - 18 - (bn : Int))) (.int .i64 ((z : Int) - 18 - (bn : Int)))).run Try.prog W = .ok (.slice (some ⟨W.heap.size, 0, none⟩) (z - 18 - bn) (z - 18 - bn)) (W.alloc (.cells (Z.map (Value.int .u8)).toArray 5)) := fun W => by
      have := HMK.out W
      rw [show ((z - 18 - bn : Nat) : Int) = (z : Int) - 18 - (bn : Int) by omega] at this
      exact this
    have ql : (bn : Int) % 18446744073709551616 = bn := by omega
    go_wp2_with fail
    have z4 := (Below.refl w3.heap.size w3).alloc (Nat.le_refl _) (.cells (Z.map (Value.int .u8)).toArray 5 (0, 0))
    have HZ := hid (Blk.new (w := w3) (n := w3.heap.size) rfl (Z.map (Value.int .u8)).toArray 5)
    have HB4 := hid (Below.on HB3.out z4)
    have Ks4 := hid (Ks3.out.below z4)
    have HD4 := hid (HD3.out.below z4)
    have HT4 := hid (HT3.out.below z4)
    have HM4 := hid (HM3.out.below z4)
    clear z4 hmk
    refine (number_any bn 2 2 _ (by omega) (by omega) (by decide)).mono ?_
    rintro e w5 ⟨g2, hg2, rfl, b5, m5⟩
    have HB5 := hid (Below.on HB4.out b5)
    have Ks5 := hid (Ks4.out.below b5)
    have HD5 := hid (HD4.out.below b5)
    have HT5 := hid (HT4.out.below b5)
    have HM5 := hid (HM4.out.below b5)
    have HZ5 := hid (HZ.out.below b5)
    have HN5 := hid m5
    have hs5 := HB5.out.size
    clear b5 m5
    go_wp2_with fail
    have c6 := (Below.refl w5.heap.size w5).alloc (Nat.le_refl _) (.cells #[.slice (some ⟨g1, 0, none⟩) 8 8, .slice (some ⟨g2, 0, none⟩) 2 2, .slice ba bn bc, .slice (some ⟨w3.heap.size, 0, none⟩) (z - 18 - bn) (z - 18 - bn), .slice (some ⟨g1, 0, none⟩) 8 8] 31 (0, 0))
    have Kc := hid (Blk.new (w := w5) (n := w5.heap.size) rfl #[.slice (some ⟨g1, 0, none⟩) 8 8, .slice (some ⟨g2, 0, none⟩) 2 2, .slice ba bn bc, .slice (some ⟨w3.heap.size, 0, none⟩) (z - 18 - bn) (z - 18 - bn), .slice (some ⟨g1, 0, none⟩) 8 8] 31)
    have HB6 := hid (Below.on HB5.out c6)
    have Ks6 := hid (Ks5.out.below c6)
    have HD6 := hid (HD5.out.below c6)
    have HT6 := hid (HT5.out.below c6)
    have HM6 := hid (HM5.out.below c6)
    have HZ6 := hid (HZ5.out.below c6)
    have HN6 := hid (HN5.out.below c6)
    clear c6
    have hcat := concat_any (some ⟨w5.heap.size, 0, none⟩) 5 5 [be 8 u, be 2 bn, b, Z, be 8 u] _ (TextsAt.of_blk Kc.out rfl (Nat.le_refl _) (by omega) fun j hj => by
      match j, hj with
      | 0, _ => exact ⟨_, _, _, rfl, TextAt.of_ints HM6.out (be_length _ _) (by omega) (be_small _ _)⟩
      | 1, _ => exact ⟨_, _, _, rfl, TextAt.of_ints HN6.out (be_length _ _) (by omega) (be_small _ _)⟩
      | 2, _ => exact ⟨_, _, _, rfl, HT6.out⟩
      | 3, _ => exact ⟨_, _, _, rfl, TextAt.of_ints HZ6.out (by rw [HZL.out]; simp) (by omega) HZS.out⟩
      | 4, _ => exact ⟨_, _, _, rfl, TextAt.of_ints HM6.out (be_length _ _) (by omega) (be_small _ _)⟩) (by simp only [sumLen, List.map_cons, List.map_nil, List.sum_cons, List.sum_nil, be_length]; rw [show Z.length = z - 18 - bn by rw [HZL.out]; simp]; omega)
    rw [show ([be 8 u, be 2 bn, b, Z, be 8 u] : List (List Int)).flatten = slotB z u b by unfold slotB; rw [hbl, HZL.out]; simp] at hcat
    have hsb := slotB_length (z := z) (u := u) (b := b) (by omega)
    refine hcat.mono ?_
    clear hcat
    rintro e w7 ⟨v7, rfl, b7, t7⟩
    obtain ⟨sa, sn, sc, rfl, t7⟩ := t7
    obtain rfl : z = sn := by rw [← hsb, t7.length]
    have HB7 := hid (Below.on HB6.out b7)
    have Ks7 := hid (Ks6.out.below b7)
    have HD7 := hid (HD6.out.below b7)
    have HS7 := hid t7
    have hs7 := HB7.out.size
    clear b7 t7
    have ci7 := CI.out _ Ks7.out
    go_wp2_with fail
    clear ci7
    have CW := write_first w7 p bb z n B af kv HD7.out (a0) (by omega) sa sc (slotB z u b) HS7.out
    refine CW.mono ?_
    rintro e w8 ⟨wa, wc, rfl, b8, bp8, d8, k8⟩
    have HX8 := hid (ButIn.on (ButIn.of_below HB7.out) b8)
    have HD8 := hid d8
    have HK8 := hid k8
    have Ks8 := hid (b8.blk Ks7.out (by simp; omega))
    clear b8 d8 k8 bp8 CW
    have ci8 := CI.out _ Ks8.out
    go_wp2_with fail
    clear ci8
    have CY := sync_any w8 p bb z n B af kv wa wc [(a0, slotB z u b)] HD8.out HK8.out (by
      intro x hx
      simp only [List.mem_singleton] at hx
      subst hx
      exact ⟨by show a0 < n; omega, hsb⟩) (by simp)
    refine CY.mono ?_
    rintro e w9 ⟨rfl, b9, d9⟩
    have HX9 := hid (ButIn.on HX8.out b9)
    have HD9 := hid d9
    clear b9 d9 CY
    go_wp2_with fail
    go_returns
    rw [hpar]
    exact ⟨rfl, HX9.out, HD9.out⟩
  · skip
    rw [hpar] at qm
    have ci : ∀ W : World, Blk W q (slC p a0 T tv st) 88 → W.cell? ⟨q, 0, none⟩ = some (.pointer (some ⟨p, 0, none⟩)) := fun W k => by rw [k.cell]; rfl
    have CI := hid ci
    clear ci
    go_wp2_with fail
    refine (number_any u 8 8 _ (by omega) (by omega) (by decide)).mono ?_
    rintro e w2 ⟨g1, hg1, rfl, b2, m2⟩
    have HB2 := hid (Below.on HB1.out b2)
    have Ks2 := hid (Ks1.out.below b2)
    have HD2 := hid (HD1.out.below b2)
    have HT2 := hid (HT1.out.below b2)
    have HM2 := hid m2
    clear b2 m2
    go_wp2_with fail
    refine (room_any _ q p a0 T tv st bb z n B (.slice none 0 0) true false af kv HD2.out Ks2.out (by omega)).mono ?_
    rintro e w3 ⟨rfl, b3⟩
    have HB3 := hid (Below.on HB2.out b3)
    have Ks3 := hid (Ks2.out.below b3)
    have HD3 := hid (HD2.out.below b3)
    have HT3 := hid (HT2.out.below b3)
    have HM3 := hid (HM2.out.below b3)
    clear b3
    have hmk : ∀ W : World, (Instr.makeSlice 31 (.int .i64 ((z : Int) - 18 - (bn : Int))) (.int .i64 ((z : Int) - 18 - (bn : Int)))).run Try.prog W = .ok (.slice (some ⟨W.heap.size, 0, none⟩) (z - 18 - bn) (z - 18 - bn)) (W.alloc (.cells (Z.map (Value.int .u8)).toArray 5)) := fun W => by
      have := HMK.out W
      rw [show ((z - 18 - bn : Nat) : Int) = (z : Int) - 18 - (bn : Int) by omega] at this
      exact this
    have ql : (bn : Int) % 18446744073709551616 = bn := by omega
    go_wp2_with fail
    have z4 := (Below.refl w3.heap.size w3).alloc (Nat.le_refl _) (.cells (Z.map (Value.int .u8)).toArray 5 (0, 0))
    have HZ := hid (Blk.new (w := w3) (n := w3.heap.size) rfl (Z.map (Value.int .u8)).toArray 5)
    have HB4 := hid (Below.on HB3.out z4)
    have Ks4 := hid (Ks3.out.below z4)
    have HD4 := hid (HD3.out.below z4)
    have HT4 := hid (HT3.out.below z4)
    have HM4 := hid (HM3.out.below z4)
    clear z4 hmk
    refine (number_any bn 2 2 _ (by omega) (by omega) (by decide)).mono ?_
    rintro e w5 ⟨g2, hg2, rfl, b5, m5⟩
    have HB5 := hid (Below.on HB4.out b5)
    have Ks5 := hid (Ks4.out.below b5)
    have HD5 := hid (HD4.out.below b5)
    have HT5 := hid (HT4.out.below b5)
    have HM5 := hid (HM4.out.below b5)
    have HZ5 := hid (HZ.out.below b5)
    have HN5 := hid m5
    have hs5 := HB5.out.size
    clear b5 m5
    go_wp2_with fail
    have c6 := (Below.refl w5.heap.size w5).alloc (Nat.le_refl _) (.cells #[.slice (some ⟨g1, 0, none⟩) 8 8, .slice (some ⟨g2, 0, none⟩) 2 2, .slice ba bn bc, .slice (some ⟨w3.heap.size, 0, none⟩) (z - 18 - bn) (z - 18 - bn), .slice (some ⟨g1, 0, none⟩) 8 8] 31 (0, 0))
    have Kc := hid (Blk.new (w := w5) (n := w5.heap.size) rfl #[.slice (some ⟨g1, 0, none⟩) 8 8, .slice (some ⟨g2, 0, none⟩) 2 2, .slice ba bn bc, .slice (some ⟨w3.heap.size, 0, none⟩) (z - 18 - bn) (z - 18 - bn), .slice (some ⟨g1, 0, none⟩) 8 8] 31)
    have HB6 := hid (Below.on HB5.out c6)
    have Ks6 := hid (Ks5.out.below c6)
    have HD6 := hid (HD5.out.below c6)
    have HT6 := hid (HT5.out.below c6)
    have HM6 := hid (HM5.out.below c6)
    have HZ6 := hid (HZ5.out.below c6)
    have HN6 := hid (HN5.out.below c6)
    clear c6
    have hcat := concat_any (some ⟨w5.heap.size, 0, none⟩) 5 5 [be 8 u, be 2 bn, b, Z, be 8 u] _ (TextsAt.of_blk Kc.out rfl (Nat.le_refl _) (by omega) fun j hj => by
      match j, hj with
      | 0, _ => exact ⟨_, _, _, rfl, TextAt.of_ints HM6.out (be_length _ _) (by omega) (be_small _ _)⟩
      | 1, _ => exact ⟨_, _, _, rfl, TextAt.of_ints HN6.out (be_length _ _) (by omega) (be_small _ _)⟩
      | 2, _ => exact ⟨_, _, _, rfl, HT6.out⟩
      | 3, _ => exact ⟨_, _, _, rfl, TextAt.of_ints HZ6.out (by rw [HZL.out]; simp) (by omega) HZS.out⟩
      | 4, _ => exact ⟨_, _, _, rfl, TextAt.of_ints HM6.out (be_length _ _) (by omega) (be_small _ _)⟩) (by simp only [sumLen, List.map_cons, List.map_nil, List.sum_cons, List.sum_nil, be_length]; rw [show Z.length = z - 18 - bn by rw [HZL.out]; simp]; omega)
    rw [show ([be 8 u, be 2 bn, b, Z, be 8 u] : List (List Int)).flatten = slotB z u b by unfold slotB; rw [hbl, HZL.out]; simp] at hcat
    have hsb := slotB_length (z := z) (u := u) (b := b) (by omega)
    refine hcat.mono ?_
    clear hcat
    rintro e w7 ⟨v7, rfl, b7, t7⟩
    obtain ⟨sa, sn, sc, rfl, t7⟩ := t7
    obtain rfl : z = sn := by rw [← hsb, t7.length]
    have HB7 := hid (Below.on HB6.out b7)
    have Ks7 := hid (Ks6.out.below b7)
    have HD7 := hid (HD6.out.below b7)
    have HS7 := hid t7
    have hs7 := HB7.out.size
    clear b7 t7
    have ci7 := CI.out _ Ks7.out
    go_wp2_with fail
    clear ci7
    have CW := write_first w7 p bb z n B af kv HD7.out (a0 + 1) (by omega) sa sc (slotB z u b) HS7.out
    rw [show ((a0 + 1 : Nat) : Int) = (a0 : Int) + 1 by omega] at CW
    refine CW.mono ?_
    rintro e w8 ⟨wa, wc, rfl, b8, bp8, d8, k8⟩
    have HX8 := hid (ButIn.on (ButIn.of_below HB7.out) b8)
    have HD8 := hid d8
    have HK8 := hid k8
    have Ks8 := hid (b8.blk Ks7.out (by simp; omega))
    clear b8 d8 k8 bp8 CW
    have ci8 := CI.out _ Ks8.out
    go_wp2_with fail
    clear ci8
    have CY := sync_any w8 p bb z n B af kv wa wc [(a0 + 1, slotB z u b)] HD8.out HK8.out (by
      intro x hx
      simp only [List.mem_singleton] at hx
      subst hx
      exact ⟨by show a0 + 1 < n; omega, hsb⟩) (by simp)
    refine CY.mono ?_
    rintro e w9 ⟨rfl, b9, d9⟩
    have HX9 := hid (ButIn.on HX8.out b9)
    have HD9 := hid d9
    clear b9 d9 CY
    go_wp2_with fail
    go_returns
    rw [hpar]
    exact ⟨rfl, HX9.out, HD9.out⟩
end Go.Proofs.Ytmpgnpkodapidaa
