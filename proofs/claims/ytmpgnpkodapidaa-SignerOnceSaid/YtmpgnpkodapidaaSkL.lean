/-
  Layer 13: Replace with any text; Fail, and where its list lies.
-/
import Derived.Test.YtmpgnpkodapidaaSkK
namespace Go.Proofs.Ytmpgnpkodapidaa
open Go.ChangeShapes Go.WideShapes Go.ChangeAt Go.RowKit

/-- A text outside some blocks; an empty one may lie anywhere. -/
structure TextW (w : World) (S : List Nat) (a : Option Addr) (len cap : Nat) (t : List Int) : Prop where
  text : TextAt w a len cap t
  out : 0 < len → ∀ p : Addr, a = some p → p.block ∉ S
theorem TextW.butIn {w w' : World} {S : List Nat} {a : Option Addr} {len cap : Nat} {t : List Int} (h : TextW w S a len cap t) (hb : FlowB.ButIn S w w') : TextW w' S a len cap t := by
  refine ⟨?_, h.out⟩
  by_cases h0 : 0 < len
  · exact h.text.butIn (h.out h0) hb
  · obtain ⟨⟨h1, h2, h3, h4, h5 | ⟨x, o, s, rfl, hc⟩⟩, -⟩ := h
    · exact ⟨h1, h2, h3, h4, .inl h5⟩
    · exact ⟨h1, h2, h3, h4, .inr ⟨x, o, s, rfl, fun j hj => absurd hj (by omega)⟩⟩
theorem TextW.sub {w : World} {S S' : List Nat} {a : Option Addr} {len cap : Nat} {t : List Int} (h : TextW w S a len cap t) (hs : ∀ b ∈ S', b ∈ S) : TextW w S' a len cap t := ⟨h.text, fun h0 p hp q => h.out h0 p hp (hs _ q)⟩
theorem TextO.weak {w : World} {S : List Nat} {a : Option Addr} {len cap : Nat} {t : List Int} (h : TextO w S a len cap t) : TextW w S a len cap t := ⟨h.text, fun _ => h.out⟩
set_option maxHeartbeats 4000000 in
set_option maxRecDepth 100000 in
theorem replace_okW (w : World) (q p bb z n : Nat) (B : List Int) (af : Int) (kv : Value) (a0 T : Nat) (tv : Value) (ba : Option Addr) (bn bc : Nat) (b : List Int) (hd : DkAt w p bb z n B (.slice none 0 0) true false af kv) (hk : Blk w q (slC p a0 T tv false) 88) (hT : TextW w [p, bb, q] ba bn bc b) (hbn : bn + 18 ≤ z) (ha : a0 + 2 ≤ n) (hu : T < 9223372036854775806) (hqp : q ≠ p ∧ q ≠ bb) :
    Calls Try.prog 24 #[.pointer (some ⟨q, 0, none⟩), .slice ba bn bc] w fun e w' => e = .returned (.int .i64 0) ∧ FlowB.ButIn [p, bb, q] w w' ∧ DkAt w' p bb z n (putS z (a0 + (T + 1) % 2) (slotB z (T + 1) b) z B) (.slice none 0 0) true false af kv ∧ ∃ a c, Blk w' q (slC p a0 ((T : Int) + 1) (.slice a bn c) false) 88 ∧ TextAt w' a bn c b ∧ ∀ x : Addr, a = some x → w.heap.size ≤ x.block := by
  have Hb := hid (Below.refl w.heap.size w)
  have Ks := hid hk
  have HD := hid hd
  have HT := hid hT
  have hz2 := hd.z2
  have hql := hk.lt
  have hbl := hT.text.length
  clear hk hT hd
  have qr : ¬ (z : Int) - 18 < (bn : Int) := by omega
  have cq : ∀ W : World, Blk W q (slC p a0 T tv false) 88 → W.cell? ⟨q, 4, none⟩ = some (.bool false) := fun W k => by rw [k.cell]; rfl
  have ct : ∀ W : World, Blk W q (slC p a0 T tv false) 88 → W.cell? ⟨q, 2, none⟩ = some (.int .i64 T) := fun W k => by rw [k.cell]; rfl
  have CQ := hid cq
  have CT := hid ct
  clear cq ct
  go_enter Try.func24, Try.ntmps24
  go_wp2_with fail
  refine (room_any _ q p a0 T tv false bb z n B (.slice none 0 0) true false af kv HD.out Ks.out (by omega)).mono ?_
  rintro e w1 ⟨rfl, b1⟩
  have HB1 := hid b1
  have Ks1 := hid (Ks.out.below b1)
  have HD1 := hid (HD.out.below b1)
  have HT1 := hid (HT.out.butIn (ButIn.of_below b1))
  clear b1
  have c4 := CQ.out _ Ks1.out
  have c2 := CT.out _ Ks1.out
  go_wp2_with fail
  clear c4 c2
  have CW := swrite_ok w1 q p bb z n B af kv a0 T (T + 1) tv false ba bn bc b HD1.out Ks1.out HT1.out.text hbn ha (by omega) hqp
  rw [show ((T + 1 : Nat) : Int) = (T : Int) + 1 by omega] at CW
  refine CW.mono ?_
  clear CW
  rintro e w2 ⟨rfl, b2, d2⟩
  have HX2 := hid (ButIn.on (ButIn.of_below HB1.out) b2)
  have HD2 := hid d2
  have Ks2 := hid (b2.blk Ks1.out (by simp; omega))
  have HT2 := hid (((HT1.out.sub (S' := [p, bb]) (by simp)).butIn b2).text)
  have hs2 := HX2.out.size
  clear b2 d2
  obtain ⟨B2, hE⟩ : ∃ B2, putS z (a0 + (T + 1) % 2) (slotB z (T + 1) b) z B = B2 := ⟨_, rfl⟩
  rw [hE] at HD2
  have HE := hid hE
  clear hE
  go_wp2_with fail
  refine wp_region_late 11 1 11 [0, 1, 2, 3, 4, 5, 6, 7] [] [(.c 8, [9, 10], [])] (by kernel_rfl) (by kernel_rfl) rfl (by kernel_rfl) (fun _ _ d _ _ h => by cases d <;> exact h) ?_
  simp only [late]
  apply Exists.intro
  refine ⟨fun w0 hb0 hF0 => ?_, ?_⟩
  · skip
    have y2 : ∀ w', (∃ x : Ext w0, w' = x.at_) → w'.cell? ⟨q, 2, none⟩ = some (.int .i64 T) := fun w' ⟨x, hx⟩ => by rw [hx]; exact CT.out _ ((Ks2.out.below hb0).below x.same)
    simp only [pick, List.getElem?_toArray, List.getElem?_cons_succ, List.getElem?_cons_zero, Option.toList_some, List.cons_append, List.nil_append]
    repeat (first | (go_big_quiet_want; refine quiet_load_one 3 _ rfl ⟨q, 2, none⟩ rfl _ y2 _ Try.underlying3 rfl ?_; go_big_quiet_on; simp only [Act.put, List.setIfInBounds_toArray, List.set_cons_zero, List.set_cons_succ]) | go_big_quiet_step (fail))
    exact wpQuiet_nil rfl
  refine AlChk.nil ?_
  refine Walk.call rfl 42 #[.slice ba bn bc] (fun v w' => ∃ a c, v = .slice a bn c ∧ TextAt w' a bn c b ∧ ∀ p : Addr, a = some p → w2.heap.size ≤ p.block) (fun v w' w'' h k => by obtain ⟨a, c, h1, h2, h3⟩ := h; exact ⟨a, c, h1, h2.below k, h3⟩) rfl (fun w1' hb1 hF1 => ⟨by go_simp, ?_⟩) ?_
  · refine (clone_any (HT2.out.below hb1) (by omega)).mono ?_
    rintro e w3 ⟨a', c', rfl, hb3, ht3, ho3⟩
    exact ⟨_, rfl, hb3, a', c', rfl, ht3, fun p hp => Nat.le_trans hb1.size (ho3 p hp).1⟩
  rintro v1 w1' hb1 hF1 ⟨a3, c3, rfl, -⟩
  apply Exists.intro
  refine ⟨fun w4 hb4 hF4 => ?_, ?_⟩
  · skip
    simp only [pick, List.getElem?_toArray, List.getElem?_cons_succ, List.getElem?_cons_zero, Option.toList_some, List.cons_append, List.nil_append, Act.put, List.setIfInBounds_toArray, List.set_cons_zero, List.set_cons_succ]
    repeat (first | go_big_quiet_step (fail))
    exact wpQuiet_nil rfl
  refine AlChk.nil ?_
  refine Walk.fin fun w5 h5 hF5 _ => ?_
  simp only [List.drop_succ_cons, List.drop_zero]
  have HX5 := hid (ButIn.on HX2.out (ButIn.of_below h5))
  have HD5 := hid (HD2.out.below h5)
  have Ks5 := hid (Ks2.out.below h5)
  have hs5 := h5.size
  obtain ⟨a4, c4, hq4, ht4, ho4⟩ := hF5.2
  cases hq4
  have HT5 := hid ht4
  have HO5 := hid ho4
  clear h5 hF5 ht4 ho4
  go_wp2_with (first
     | (
        refine wpList_store_cell rfl 3 _ _ rfl q 2 (.int .i64 ((T : Int) + 1)) rfl rfl rfl rfl _ 88 Ks5.out (by simp [slC]) size_dint ?_
        intro w6 hb6 hk6
        have Hq6 := hid hb6
        have Ks6 := hid (show Blk w6 q (slC p a0 ((T : Int) + 1) tv false) 88 from hk6)
        clear hb6 hk6)
     | (
        refine wpList_store_cell rfl 31 _ _ rfl q 3 (.slice a3 bn c3) rfl rfl rfl rfl _ 88 Ks6.out (by simp [slC]) size_dtext ?_
        intro w7 hb7 hk7
        have Hq7 := hid (But.trans Hq6.out hb7)
        have Ks7 := hid (show Blk w7 q (slC p a0 ((T : Int) + 1) (.slice a3 bn c3) false) 88 from hk7)
        clear hb7 hk7))
  have hqs := Ks2.out.lt
  go_returns
  rw [HE.out]
  refine ⟨rfl, ?_, HD5.out.but Hq7.out (Ne.symm hqp.1) (Ne.symm hqp.2), a3, c3, Ks7.out, HT5.out.butIn (S := [q]) (fun x hx => by have := HO5.out x hx; simp; omega) (ButIn.of_but Hq7.out (by simp)), fun x hx => by have := HO5.out x hx; omega⟩
  exact ButIn.on (ButIn.wide HX5.out (by simp)) (ButIn.of_but Hq7.out (by simp))
set_option maxHeartbeats 4000000 in
set_option maxRecDepth 100000 in
theorem replace_countW (w : World) (q p bb z n : Nat) (B : List Int) (af : Int) (ka : Option Addr) (kc : Nat) (ks : List Int) (a0 T : Nat) (tv : Value) (ba : Option Addr) (bn bc : Nat) (b : List Int) (hd : DkAt w p bb z n B (.slice none 0 0) true true af (.slice ka ks.length kc)) (hk : Blk w q (slC p a0 T tv false) 88) (hT : TextW w [p, bb, q] ba bn bc b) (hbn : bn + 18 ≤ z) (ha : a0 + 2 ≤ n) (hu : T < 9223372036854775806) (hqp : q ≠ p ∧ q ≠ bb) (hK : IntsAt w [p, bb] ka ks) (h0 : 2 ≤ af) (h1 : af < 9223372036854775808) :
    Calls Try.prog 24 #[.pointer (some ⟨q, 0, none⟩), .slice ba bn bc] w fun e w' => e = .returned (.int .i64 0) ∧ FlowB.ButIn [p, bb, q] w w' ∧ DkAt w' p bb z n (putS z (a0 + (T + 1) % 2) (slotB z (T + 1) b) z B) (.slice none 0 0) true true (af - 2) (.slice ka ks.length kc) ∧ ∃ a c, Blk w' q (slC p a0 ((T : Int) + 1) (.slice a bn c) false) 88 ∧ TextAt w' a bn c b ∧ ∀ x : Addr, a = some x → w.heap.size ≤ x.block := by
  have Hb := hid (Below.refl w.heap.size w)
  have Ks := hid hk
  have HD := hid hd
  have HK := hid hK
  have HT := hid hT
  have hz2 := hd.z2
  have hql := hk.lt
  have hbl := hT.text.length
  clear hk hT hd hK
  have qr : ¬ (z : Int) - 18 < (bn : Int) := by omega
  have cq : ∀ W : World, Blk W q (slC p a0 T tv false) 88 → W.cell? ⟨q, 4, none⟩ = some (.bool false) := fun W k => by rw [k.cell]; rfl
  have ct : ∀ W : World, Blk W q (slC p a0 T tv false) 88 → W.cell? ⟨q, 2, none⟩ = some (.int .i64 T) := fun W k => by rw [k.cell]; rfl
  have CQ := hid cq
  have CT := hid ct
  clear cq ct
  go_enter Try.func24, Try.ntmps24
  go_wp2_with fail
  refine (room_any _ q p a0 T tv false bb z n B (.slice none 0 0) true true af (.slice ka ks.length kc) HD.out Ks.out (by omega)).mono ?_
  rintro e w1 ⟨rfl, b1⟩
  have HB1 := hid b1
  have Ks1 := hid (Ks.out.below b1)
  have HD1 := hid (HD.out.below b1)
  have HT1 := hid (HT.out.butIn (ButIn.of_below b1))
  clear b1
  have c4 := CQ.out _ Ks1.out
  have c2 := CT.out _ Ks1.out
  go_wp2_with fail
  clear c4 c2
  have CW := swrite_count w1 q p bb z n B af ka kc ks a0 T (T + 1) tv false ba bn bc b HD1.out Ks1.out HT1.out.text hbn ha (by omega) hqp (HK.out.butIn (ButIn.of_below HB1.out)) h0 h1
  rw [show ((T + 1 : Nat) : Int) = (T : Int) + 1 by omega] at CW
  refine CW.mono ?_
  clear CW
  rintro e w2 ⟨rfl, b2, d2⟩
  have HX2 := hid (ButIn.on (ButIn.of_below HB1.out) b2)
  have HD2 := hid d2
  have Ks2 := hid (b2.blk Ks1.out (by simp; omega))
  have HT2 := hid (((HT1.out.sub (S' := [p, bb]) (by simp)).butIn b2).text)
  have hs2 := HX2.out.size
  clear b2 d2
  obtain ⟨B2, hE⟩ : ∃ B2, putS z (a0 + (T + 1) % 2) (slotB z (T + 1) b) z B = B2 := ⟨_, rfl⟩
  rw [hE] at HD2
  have HE := hid hE
  clear hE
  go_wp2_with fail
  refine wp_region_late 11 1 11 [0, 1, 2, 3, 4, 5, 6, 7] [] [(.c 8, [9, 10], [])] (by kernel_rfl) (by kernel_rfl) rfl (by kernel_rfl) (fun _ _ d _ _ h => by cases d <;> exact h) ?_
  simp only [late]
  apply Exists.intro
  refine ⟨fun w0 hb0 hF0 => ?_, ?_⟩
  · skip
    have y2 : ∀ w', (∃ x : Ext w0, w' = x.at_) → w'.cell? ⟨q, 2, none⟩ = some (.int .i64 T) := fun w' ⟨x, hx⟩ => by rw [hx]; exact CT.out _ ((Ks2.out.below hb0).below x.same)
    simp only [pick, List.getElem?_toArray, List.getElem?_cons_succ, List.getElem?_cons_zero, Option.toList_some, List.cons_append, List.nil_append]
    repeat (first | (go_big_quiet_want; refine quiet_load_one 3 _ rfl ⟨q, 2, none⟩ rfl _ y2 _ Try.underlying3 rfl ?_; go_big_quiet_on; simp only [Act.put, List.setIfInBounds_toArray, List.set_cons_zero, List.set_cons_succ]) | go_big_quiet_step (fail))
    exact wpQuiet_nil rfl
  refine AlChk.nil ?_
  refine Walk.call rfl 42 #[.slice ba bn bc] (fun v w' => ∃ a c, v = .slice a bn c ∧ TextAt w' a bn c b ∧ ∀ p : Addr, a = some p → w2.heap.size ≤ p.block) (fun v w' w'' h k => by obtain ⟨a, c, h1, h2, h3⟩ := h; exact ⟨a, c, h1, h2.below k, h3⟩) rfl (fun w1' hb1 hF1 => ⟨by go_simp, ?_⟩) ?_
  · refine (clone_any (HT2.out.below hb1) (by omega)).mono ?_
    rintro e w3 ⟨a', c', rfl, hb3, ht3, ho3⟩
    exact ⟨_, rfl, hb3, a', c', rfl, ht3, fun p hp => Nat.le_trans hb1.size (ho3 p hp).1⟩
  rintro v1 w1' hb1 hF1 ⟨a3, c3, rfl, -⟩
  apply Exists.intro
  refine ⟨fun w4 hb4 hF4 => ?_, ?_⟩
  · skip
    simp only [pick, List.getElem?_toArray, List.getElem?_cons_succ, List.getElem?_cons_zero, Option.toList_some, List.cons_append, List.nil_append, Act.put, List.setIfInBounds_toArray, List.set_cons_zero, List.set_cons_succ]
    repeat (first | go_big_quiet_step (fail))
    exact wpQuiet_nil rfl
  refine AlChk.nil ?_
  refine Walk.fin fun w5 h5 hF5 _ => ?_
  simp only [List.drop_succ_cons, List.drop_zero]
  have HX5 := hid (ButIn.on HX2.out (ButIn.of_below h5))
  have HD5 := hid (HD2.out.below h5)
  have Ks5 := hid (Ks2.out.below h5)
  have hs5 := h5.size
  obtain ⟨a4, c4, hq4, ht4, ho4⟩ := hF5.2
  cases hq4
  have HT5 := hid ht4
  have HO5 := hid ho4
  clear h5 hF5 ht4 ho4
  go_wp2_with (first
     | (
        refine wpList_store_cell rfl 3 _ _ rfl q 2 (.int .i64 ((T : Int) + 1)) rfl rfl rfl rfl _ 88 Ks5.out (by simp [slC]) size_dint ?_
        intro w6 hb6 hk6
        have Hq6 := hid hb6
        have Ks6 := hid (show Blk w6 q (slC p a0 ((T : Int) + 1) tv false) 88 from hk6)
        clear hb6 hk6)
     | (
        refine wpList_store_cell rfl 31 _ _ rfl q 3 (.slice a3 bn c3) rfl rfl rfl rfl _ 88 Ks6.out (by simp [slC]) size_dtext ?_
        intro w7 hb7 hk7
        have Hq7 := hid (But.trans Hq6.out hb7)
        have Ks7 := hid (show Blk w7 q (slC p a0 ((T : Int) + 1) (.slice a3 bn c3) false) 88 from hk7)
        clear hb7 hk7))
  have hqs := Ks2.out.lt
  go_returns
  rw [HE.out]
  refine ⟨rfl, ?_, HD5.out.but Hq7.out (Ne.symm hqp.1) (Ne.symm hqp.2), a3, c3, Ks7.out, HT5.out.butIn (S := [q]) (fun x hx => by have := HO5.out x hx; simp; omega) (ButIn.of_but Hq7.out (by simp)), fun x hx => by have := HO5.out x hx; omega⟩
  exact ButIn.on (ButIn.wide HX5.out (by simp)) (ButIn.of_but Hq7.out (by simp))
set_option maxHeartbeats 4000000 in
set_option maxRecDepth 100000 in
theorem replace_hit0W (w : World) (q p bb z n : Nat) (B : List Int) (af : Int) (ka : Option Addr) (kc : Nat) (ks : List Int) (a0 T : Nat) (tv : Value) (ba : Option Addr) (bn bc : Nat) (b : List Int) (hd : DkAt w p bb z n B (.slice none 0 0) true true af (.slice ka ks.length kc)) (hk : Blk w q (slC p a0 T tv false) 88) (hT : TextW w [p, bb, q] ba bn bc b) (hbn : bn + 18 ≤ z) (ha : a0 + 2 ≤ n) (hu : T < 9223372036854775806) (hqp : q ≠ p ∧ q ≠ bb) (hK : IntsAt w [p, bb] ka ks) (hkw : ∀ k ∈ ks, -9223372036854775808 ≤ k ∧ k ≤ 9223372036854775807) (h0 : af ≤ 0) :
    Calls Try.prog 24 #[.pointer (some ⟨q, 0, none⟩), .slice ba bn bc] w fun e w' => e = .returned (.int .i64 9) ∧ FlowB.ButIn [p, bb, q] w w' ∧ DkAt w' p bb z n (crashN z ks [(a0 + (T + 1) % 2, slotB z (T + 1) b)] B 1) (.slice none 0 0) false true af (.slice ka ks.length kc) ∧ Blk w' q (slC p a0 T tv true) 88 := by
  have Hb := hid (Below.refl w.heap.size w)
  have Ks := hid hk
  have HD := hid hd
  have HK := hid hK
  have HT := hid hT
  have hz2 := hd.z2
  have hql := hk.lt
  have hbl := hT.text.length
  clear hk hT hd hK
  have qr : ¬ (z : Int) - 18 < (bn : Int) := by omega
  have cq : ∀ W : World, Blk W q (slC p a0 T tv false) 88 → W.cell? ⟨q, 4, none⟩ = some (.bool false) := fun W k => by rw [k.cell]; rfl
  have ct : ∀ W : World, Blk W q (slC p a0 T tv false) 88 → W.cell? ⟨q, 2, none⟩ = some (.int .i64 T) := fun W k => by rw [k.cell]; rfl
  have CQ := hid cq
  have CT := hid ct
  clear cq ct
  go_enter Try.func24, Try.ntmps24
  go_wp2_with fail
  refine (room_any _ q p a0 T tv false bb z n B (.slice none 0 0) true true af (.slice ka ks.length kc) HD.out Ks.out (by omega)).mono ?_
  rintro e w1 ⟨rfl, b1⟩
  have HB1 := hid b1
  have Ks1 := hid (Ks.out.below b1)
  have HD1 := hid (HD.out.below b1)
  have HT1 := hid (HT.out.butIn (ButIn.of_below b1))
  clear b1
  have c4 := CQ.out _ Ks1.out
  have c2 := CT.out _ Ks1.out
  go_wp2_with fail
  clear c4 c2
  have CW := swrite_hit0 w1 q p bb z n B af ka kc ks a0 T (T + 1) tv false ba bn bc b HD1.out Ks1.out HT1.out.text hbn ha (by omega) (HK.out.butIn (ButIn.of_below HB1.out)) hkw h0
  rw [show ((T + 1 : Nat) : Int) = (T : Int) + 1 by omega] at CW
  refine CW.mono ?_
  clear CW
  rintro e w2 ⟨rfl, b2, d2⟩
  have HX2 := hid (ButIn.on (ButIn.of_below HB1.out) b2)
  have HD2 := hid d2
  have Ks2 := hid (b2.blk Ks1.out (by simp; omega))
  clear b2 d2
  go_wp2_with (
      refine wpList_store_cell rfl 4 _ _ rfl q 4 (.bool true) rfl rfl rfl rfl _ 88 Ks2.out (by simp [slC]) size_bool ?_
      intro w3 hb3 hk3
      have Hb3 := hid hb3
      have Ks3 := hid (show Blk w3 q (slC p a0 T tv true) 88 from hk3)
      clear hb3 hk3)
  go_returns
  exact ⟨by first | rfl | simp, ButIn.on (ButIn.wide HX2.out (by simp)) (ButIn.of_but Hb3.out (by simp)), HD2.out.but Hb3.out (Ne.symm hqp.1) (Ne.symm hqp.2), Ks3.out⟩
set_option maxHeartbeats 4000000 in
set_option maxRecDepth 100000 in
theorem replace_hit1W (w : World) (q p bb z n : Nat) (B : List Int) (af : Int) (ka : Option Addr) (kc : Nat) (ks : List Int) (a0 T : Nat) (tv : Value) (ba : Option Addr) (bn bc : Nat) (b : List Int) (hd : DkAt w p bb z n B (.slice none 0 0) true true af (.slice ka ks.length kc)) (hk : Blk w q (slC p a0 T tv false) 88) (hT : TextW w [p, bb, q] ba bn bc b) (hbn : bn + 18 ≤ z) (ha : a0 + 2 ≤ n) (hu : T < 9223372036854775806) (hqp : q ≠ p ∧ q ≠ bb) (hK : IntsAt w [p, bb] ka ks) (hkw : ∀ k ∈ ks, -9223372036854775808 ≤ k ∧ k ≤ 9223372036854775807) (h0 : af = 1) :
    Calls Try.prog 24 #[.pointer (some ⟨q, 0, none⟩), .slice ba bn bc] w fun e w' => e = .returned (.int .i64 9) ∧ FlowB.ButIn [p, bb, q] w w' ∧ DkAt w' p bb z n (crashN z ks [(a0 + (T + 1) % 2, slotB z (T + 1) b)] B 1) (.slice none 0 0) false true (af - 1) (.slice ka ks.length kc) ∧ Blk w' q (slC p a0 T tv true) 88 := by
  have Hb := hid (Below.refl w.heap.size w)
  have Ks := hid hk
  have HD := hid hd
  have HK := hid hK
  have HT := hid hT
  have hz2 := hd.z2
  have hql := hk.lt
  have hbl := hT.text.length
  clear hk hT hd hK
  have qr : ¬ (z : Int) - 18 < (bn : Int) := by omega
  have cq : ∀ W : World, Blk W q (slC p a0 T tv false) 88 → W.cell? ⟨q, 4, none⟩ = some (.bool false) := fun W k => by rw [k.cell]; rfl
  have ct : ∀ W : World, Blk W q (slC p a0 T tv false) 88 → W.cell? ⟨q, 2, none⟩ = some (.int .i64 T) := fun W k => by rw [k.cell]; rfl
  have CQ := hid cq
  have CT := hid ct
  clear cq ct
  go_enter Try.func24, Try.ntmps24
  go_wp2_with fail
  refine (room_any _ q p a0 T tv false bb z n B (.slice none 0 0) true true af (.slice ka ks.length kc) HD.out Ks.out (by omega)).mono ?_
  rintro e w1 ⟨rfl, b1⟩
  have HB1 := hid b1
  have Ks1 := hid (Ks.out.below b1)
  have HD1 := hid (HD.out.below b1)
  have HT1 := hid (HT.out.butIn (ButIn.of_below b1))
  clear b1
  have c4 := CQ.out _ Ks1.out
  have c2 := CT.out _ Ks1.out
  go_wp2_with fail
  clear c4 c2
  have CW := swrite_hit1 w1 q p bb z n B af ka kc ks a0 T (T + 1) tv false ba bn bc b HD1.out Ks1.out HT1.out.text hbn ha (by omega) hqp (HK.out.butIn (ButIn.of_below HB1.out)) hkw h0
  rw [show ((T + 1 : Nat) : Int) = (T : Int) + 1 by omega] at CW
  refine CW.mono ?_
  clear CW
  rintro e w2 ⟨rfl, b2, d2⟩
  have HX2 := hid (ButIn.on (ButIn.of_below HB1.out) b2)
  have HD2 := hid d2
  have Ks2 := hid (b2.blk Ks1.out (by simp; omega))
  clear b2 d2
  go_wp2_with (
      refine wpList_store_cell rfl 4 _ _ rfl q 4 (.bool true) rfl rfl rfl rfl _ 88 Ks2.out (by simp [slC]) size_bool ?_
      intro w3 hb3 hk3
      have Hb3 := hid hb3
      have Ks3 := hid (show Blk w3 q (slC p a0 T tv true) 88 from hk3)
      clear hb3 hk3)
  go_returns
  exact ⟨by first | rfl | simp, ButIn.on (ButIn.wide HX2.out (by simp)) (ButIn.of_but Hb3.out (by simp)), HD2.out.but Hb3.out (Ne.symm hqp.1) (Ne.symm hqp.2), Ks3.out⟩
set_option maxHeartbeats 4000000 in
set_option maxRecDepth 100000 in
theorem fail_at (w : World) (S : List Nat) (p bb z n : Nat) (B : List Int) (wv : Value) (on set : Bool) (af : Int) (kv : Value) (hd : DkAt w p bb z n B wv on set af kv) (k : Int) (hk0 : 0 ≤ k) (ka : Option Addr) (kc : Nat) (ks : List Int) (hpS : p ∈ S) (hS : ∀ b ∈ S, b < w.heap.size) (hK : IntsAt w S ka ks) (hl : ks.length ≤ 1000) (hn : ka = none → ks = [] ∧ kc = 0) :
    Calls Try.prog 23 #[.pointer (some ⟨p, 0, none⟩), .int .i64 k, .slice ka ks.length kc] w fun e w' => e = .returned (.tuple #[]) ∧ But p w w' ∧ ∃ a c, DkAt w' p bb z n B wv on true k (.slice a ks.length c) ∧ IntsAt w' S a ks := by
  have Kd := hid hd.kp
  have hd0 := hid hd
  have HK := hid hK
  clear hd hK
  go_enter Try.func23, Try.ntmps23
  go_wp2_with (first
     | (
        refine wpList_store_cell rfl 4 _ _ rfl p 4 (.bool false) rfl rfl rfl rfl _ 75 Kd.out (by simp [dkC]) size_bool ?_
        intro w1 hb1 hk1
        have Hb1 := hid (hb1)
        have Kd1 := hid (show Blk w1 p (dkC z B.length bb wv on false af kv) 75 from hk1)
        clear hb1 hk1)
     | (
        refine wpList_store_cell rfl 3 _ _ rfl p 5 (.int .i64 0) rfl rfl rfl rfl _ 75 Kd1.out (by simp [dkC]) size_dint ?_
        intro w2 hb2 hk2
        have Hb2 := hid (But.trans Hb1.out hb2)
        have Kd2 := hid (show Blk w2 p (dkC z B.length bb wv on false 0 kv) 75 from hk2)
        clear hb2 hk2)
     | (
        refine wpList_store_cell rfl 32 _ _ rfl p 6 (.slice none 0 0) rfl rfl rfl rfl _ 75 Kd2.out (by simp [dkC]) size_ints ?_
        intro w3 hb3 hk3
        have Hb3 := hid (But.trans Hb2.out hb3)
        have Kd3 := hid (show Blk w3 p (dkC z B.length bb wv on false 0 (.slice none 0 0)) 75 from hk3)
        clear hb3 hk3))
  refine (cloneI_any (S := S) (HK.out.butIn (ButIn.of_but Hb3.out hpS)) hl (fun b hb => Nat.lt_of_lt_of_le (hS b hb) Hb3.out.size) hn).mono ?_
  rintro e w4 ⟨a4, c4, rfl, b4, i4⟩
  have Hb4 := hid (But.trans Hb3.out (But.of b4))
  have Kd4 := hid (Kd3.out.below b4)
  have HI4 := hid i4
  clear b4 i4
  go_wp2_with (first
     | (
        refine wpList_store_cell rfl 4 _ _ rfl p 4 (.bool true) rfl rfl rfl rfl _ 75 Kd4.out (by simp [dkC]) size_bool ?_
        intro w5 hb5 hk5
        have Hb5 := hid (But.trans Hb4.out hb5)
        have HI5 := hid (HI4.out.butIn (ButIn.of_but hb5 hpS))
        have Kd5 := hid (show Blk w5 p (dkC z B.length bb wv on true 0 (.slice none 0 0)) 75 from hk5)
        clear hb5 hk5)
     | (
        refine wpList_store_cell rfl 3 _ _ rfl p 5 (.int .i64 k) rfl rfl rfl rfl _ 75 Kd5.out (by simp [dkC]) size_dint ?_
        intro w6 hb6 hk6
        have Hb6 := hid (But.trans Hb5.out hb6)
        have HI6 := hid (HI5.out.butIn (ButIn.of_but hb6 hpS))
        have Kd6 := hid (show Blk w6 p (dkC z B.length bb wv on true k (.slice none 0 0)) 75 from hk6)
        clear hb6 hk6)
     | (
        refine wpList_store_cell rfl 32 _ _ rfl p 6 (.slice a4 ks.length c4) rfl rfl rfl rfl _ 75 Kd6.out (by simp [dkC]) size_ints ?_
        intro w7 hb7 hk7
        have Hb7 := hid (But.trans Hb6.out hb7)
        have HI7 := hid (HI6.out.butIn (ButIn.of_but hb7 hpS))
        have Kd7 := hid (show Blk w7 p (dkC z B.length bb wv on true k (.slice a4 ks.length c4)) 75 from hk7)
        clear hb7 hk7))
  go_returns
  exact ⟨by first | rfl | simp, Hb7.out, a4, ⟨c4, Kd7.out, Hb7.out.blk hd0.out.kb (Ne.symm hd0.out.ne), hd0.out.ne, hd0.out.len, hd0.out.z1, hd0.out.z2, hd0.out.n1, hd0.out.n2, hd0.out.small⟩, HI7.out⟩
end Go.Proofs.Ytmpgnpkodapidaa
