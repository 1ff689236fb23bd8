/-
  Layer 13: SlotsKeep.
-/
import Derived.Test.YtmpgnpkodapidaaSkM
namespace Go.Proofs.Ytmpgnpkodapidaa
open Go.ChangeShapes Go.WideShapes Go.ChangeAt Go.RowKit

theorem size_deed13 : (Try.prog.info? 51).map (·.size) = some 5 := by kernel_rfl
theorem KeepS.zeros (z : Nat) (h : 18 ≤ z) : KeepS z 0 [] (List.replicate (2 * z) 0) := by
  have h0 : be 8 ((0 : Nat) : Int) = List.replicate 8 0 := be_zero 8
  refine ⟨List.replicate z 0, List.replicate z 0, ⟨by simp, .inl ⟨rfl, rfl, rfl⟩⟩, ⟨by simp, 0, .inr rfl, .inl ?_, ?_⟩, ?_⟩
  · rw [h0, List.take_replicate]; congr 1; omega
  · rw [h0, List.drop_replicate]; congr 1; omega
  · rw [if_pos rfl, List.replicate_append_replicate]; congr 1; omega
/-- what is left of a write that failed -/
theorem KeepS.torn {z t : Nat} {now b B B' : List Int} (h : KeepS z t now B) (ht : t < 255) (hn : now.length + 18 ≤ z) (hb : b.length + 18 ≤ z) (hB : B' = B ∨ ∃ c, c ≤ z ∧ B' = putS z ((t + 1) % 2) (slotB z (t + 1) b) c B) : KeepS z t now B' ∨ KeepS z (t + 1) b B' := by
  obtain rfl | ⟨c, hc, rfl⟩ := hB
  · exact .inl h
  · by_cases h1 : c = z
    · subst h1; exact .inr (h.whole hn hb)
    · exact .inl (h.part ht hb c (by omega))
theorem rangeAt_base {W w : World} {x o : Nat} {l : List Value} (h : W.rangeAt x o l) (hx : x < W.heap.size) (hb : Below W.heap.size W w) : w.rangeAt x o l := fun k v hv => by
  rw [hb.cell (p := ⟨x, o + k, none⟩) hx]; exact h k v hv
/-- The slots between two deeds. -/
structure K13 (W w : World) (p bb q t : Nat) (now : List Int) : Prop where
  below : Below W.heap.size W w
  dk : ∃ B set af kv, DkAt w p bb 100 2 B (.slice none 0 0) true set af kv ∧ FailAt w [p, bb, q] set af kv ∧ KeepS 100 t now B
  sl : ∃ ta tc, Blk w q (slC p (0 : Nat) (t : Nat) (.slice ta now.length tc) false) 88 ∧ TextAt w ta now.length tc now
  ql : W.heap.size ≤ q
  ne1 : q ≠ p ∧ q ≠ bb
  nl : now.length ≤ 82

set_option maxHeartbeats 4000000 in
set_option maxRecDepth 100000 in
theorem slotsKeep_any (la : Option Addr) (ln lc : Nat) (ds : List D13) (w : World) (hD : DeedsAt w la ln lc ds) :
    Calls Try.prog 5 #[.slice la ln lc] w fun e w' => e = .returned (.bool true) ∧ Below w.heap.size w w' := by
  have Hb := hid (Below.refl w.heap.size w)
  have HDS := hid hD
  clear hD
  go_enter Try.func5, Try.ntmps5
  go_wp2_with fail
  refine (new_good w 2 100 (by omega) (by omega) (by omega) (by omega)).mono ?_
  rintro e w1 ⟨p, bb, rfl, hp, hbb, b1, d1⟩
  have HB1 := hid b1
  have HD1 := hid d1
  have hs1 := b1.size
  have hpl := d1.kp.lt
  have hbl := d1.kb.lt
  clear b1 d1
  by_cases h40 : 40 < ln
  · have h40I : (40 : Int) < (ln : Int) := by omega
    go_wp2_with fail
    refine (knows13 w1).mono ?_
    rintro e w2 ⟨rfl, b2⟩
    have HB2 := hid (Below.on HB1.out b2)
    clear b2
    go_wp2_with fail
    go_returns
    exact ⟨rfl, HB2.out⟩
  have h40I : ¬ (40 : Int) < (ln : Int) := by omega
  go_wp2_with fail
  refine (open_good w1 p bb 100 2 _ false 0 _ 0 HD1.out (by omega) (by omega)).mono ?_
  rintro e w2 ⟨q0, ta, tn, tc, rfl, hq0, b2, k2, t2⟩
  have hz := KeepS.zeros 100 (by omega)
  rw [hz.open (by omega) (by simp) (by omega)] at k2 t2
  obtain rfl := t2.text.length
  have HK2 : Hid (K13 w w2 p bb q0 0 []) := hid ⟨Below.on HB1.out b2, ⟨_, _, _, _, HD1.out.below b2, .inl rfl, hz⟩, ⟨_, _, k2, t2.text⟩, by omega, by omega, by simp⟩
  clear b2 k2 t2 hz
  go_wp2_with fail
  go_loopw [5, 6, 7, 8] (fun sv fv nv iv wr => ∃ (j q t : Nat) (now : List Int), j ≤ ln ∧ iv = .int .i64 j ∧ sv = .pointer (some ⟨q, 0, none⟩) ∧ fv = .int .i64 0 ∧ nv = .string (strOfNums now) ∧ t ≤ j ∧ K13 w wr p bb q t now) (fun _ _ _ iv _ => ln - (intOf iv).toNat)
  case atStart => exact ⟨0, q0, 0, [], Nat.zero_le _, rfl, rfl, rfl, by first | rfl | decide, Nat.le_refl _, HK2.out⟩
  case round =>
    clear HK2 HD1 HB1
    obtain ⟨j, q, t, now, hj, rfl, rfl, rfl, rfl, htj, hK⟩ := hrel
    have HBr := hid hK.below
    obtain ⟨B, set, af, kv, hd, hF, hKeep⟩ := hK.dk
    obtain ⟨ta, tc, hk, hT⟩ := hK.sl
    have hql := hK.ql
    have hne := hK.ne1
    have hnl := hK.nl
    have HKeep := hid hKeep
    have HDr := hid hd
    have HFr := hid hF
    have Ksr := hid hk
    have HTr := hid hT
    have hnow := hT.small
    have hpr := hd.kp.lt
    have hbr := hd.kb.lt
    have hqr := hk.lt
    have hszr := HBr.out.size
    clear hK hd hF hKeep hk hT
    by_cases hlt : j < ln
    · have hjI : (j : Int) < (ln : Int) := by omega
      obtain ⟨hdl, hdle, h0 | ⟨x, o, rfl, hx, hcell⟩⟩ := HDS.out
      · omega
      obtain ⟨ba, bc, ka, kc, hdd⟩ := hcell j hlt
      clear hcell
      obtain ⟨d, hE⟩ : ∃ d, ds.getD j z13 = d := ⟨_, rfl⟩
      rw [hE] at hdd
      clear hE
      obtain ⟨b, cr, k, ks, ag⟩ := d
      have HRg := hid (show wr.rangeAt x (o + j * 5) [.slice ba b.length bc, .bool cr, .int .i64 k, .slice ka ks.length kc, .bool ag] from rangeAt_base hdd.cells hx HBr.out)
      have HT0 := hid (show TextAt w ba b.length bc b from hdd.text)
      have HI0 := hid (show IntsAt w [] ka ks from hdd.ints)
      have hkn : ka = none → ks = [] ∧ kc = 0 := hdd.none_
      have hkw : ∀ k ∈ ks, -9223372036854775808 ≤ k ∧ k ≤ 9223372036854775807 := hdd.wide
      have hkk : k ≤ 9223372036854775807 := hdd.num.2
      have hbs := HT0.out.small
      clear hdd
      have Kvw := hid (Blk.new (w := wr) rfl #[.slice ba b.length bc, .bool cr, .int .i64 k, .slice ka ks.length kc, .bool ag] 51)
      have bw := (Below.refl wr.heap.size wr).alloc (Nat.le_refl _) (.cells #[.slice ba b.length bc, .bool cr, .int .i64 k, .slice ka ks.length kc, .bool ag] 51 (0, 0))
      have HBw := hid (Below.on HBr.out bw)
      have HDw := hid (HDr.out.below bw)
      have HFw := hid (HFr.out.butIn (ButIn.of_below bw))
      have Ksw := hid (Ksr.out.below bw)
      have HTw := hid (HTr.out.below bw)
      have hszw := HBw.out.size
      clear bw
      have cv0w : (wr.alloc (.cells #[.slice ba b.length bc, .bool cr, .int .i64 k, .slice ka ks.length kc, .bool ag] 51 (0, 0))).cell? ⟨wr.heap.size, 0, none⟩ = some (.slice ba b.length bc) := by rw [Kvw.out.cell]; rfl
      have cv1w : (wr.alloc (.cells #[.slice ba b.length bc, .bool cr, .int .i64 k, .slice ka ks.length kc, .bool ag] 51 (0, 0))).cell? ⟨wr.heap.size, 1, none⟩ = some (.bool cr) := by rw [Kvw.out.cell]; rfl
      have cv2w : (wr.alloc (.cells #[.slice ba b.length bc, .bool cr, .int .i64 k, .slice ka ks.length kc, .bool ag] 51 (0, 0))).cell? ⟨wr.heap.size, 2, none⟩ = some (.int .i64 k) := by rw [Kvw.out.cell]; rfl
      have cv3w : (wr.alloc (.cells #[.slice ba b.length bc, .bool cr, .int .i64 k, .slice ka ks.length kc, .bool ag] 51 (0, 0))).cell? ⟨wr.heap.size, 3, none⟩ = some (.slice ka ks.length kc) := by rw [Kvw.out.cell]; rfl
      have cv4w : (wr.alloc (.cells #[.slice ba b.length bc, .bool cr, .int .i64 k, .slice ka ks.length kc, .bool ag] 51 (0, 0))).cell? ⟨wr.heap.size, 4, none⟩ = some (.bool ag) := by rw [Kvw.out.cell]; rfl
      by_cases hb82 : 82 < b.length
      · have hbI : (82 : Int) < (b.length : Int) := by omega
        go_wp2_with (first
          | (refine wpList_index_s 5 rfl 46 _ _ rfl Try.underlying46 size_deed13 x o ln lc rfl _ _ rfl j rfl hlt ?_)
          | (refine wpList_load_mid rfl 51 _ rfl x (o + j * 5) rfl _ _ HRg.out Try.underlying51 rfl size_deed13 ?_))
        refine (knows13 _).mono ?_
        rintro e w9 ⟨rfl, b9⟩
        have HB9 := hid (Below.on HBw.out b9)
        clear b9
        go_wp2_with fail
        go_returns
        exact ⟨rfl, HB9.out⟩
      have hbI : ¬ (82 : Int) < (b.length : Int) := by omega
      by_cases hk20 : 20 < ks.length
      · have hkI : (20 : Int) < (ks.length : Int) := by omega
        go_wp2_with (first
          | (refine wpList_index_s 5 rfl 46 _ _ rfl Try.underlying46 size_deed13 x o ln lc rfl _ _ rfl j rfl hlt ?_)
          | (refine wpList_load_mid rfl 51 _ rfl x (o + j * 5) rfl _ _ HRg.out Try.underlying51 rfl size_deed13 ?_))
        refine (knows13 _).mono ?_
        rintro e w9 ⟨rfl, b9⟩
        have HB9 := hid (Below.on HBw.out b9)
        clear b9
        go_wp2_with fail
        go_returns
        exact ⟨rfl, HB9.out⟩
      have hkI : ¬ (20 : Int) < (ks.length : Int) := by omega
      cases cr
      · skip
        go_wp2_with (first
          | (refine wpList_index_s 5 rfl 46 _ _ rfl Try.underlying46 size_deed13 x o ln lc rfl _ _ rfl j rfl hlt ?_)
          | (refine wpList_load_mid rfl 51 _ rfl x (o + j * 5) rfl _ _ HRg.out Try.underlying51 rfl size_deed13 ?_))
        clear cv0w cv1w cv2w cv3w cv4w
        refine (replace_all _ q p bb 100 2 B _ _ _ 0 t _ ba b.length bc b HDw.out HFw.out Ksw.out (HT0.out.base HBw.out (by simp only [List.mem_cons, List.not_mem_nil, or_false, forall_eq_or_imp, forall_eq]; omega)) (by omega) (by omega) (by omega) hne).mono ?_
        rintro e wR ⟨bR, hR⟩
        have HBR := hid (bR.below HBw.out HBw.out.size (by simp only [List.mem_cons, List.not_mem_nil, or_false, forall_eq_or_imp, forall_eq]; omega))
        have hszR := HBR.out.size
        cases ag
        · skip
          have KvR := hid (bR.blk Kvw.out (by simp; omega))
          clear bR
          have cv0R : wR.cell? ⟨wr.heap.size, 0, none⟩ = some (.slice ba b.length bc) := by rw [KvR.out.cell]; rfl
          have cv1R : wR.cell? ⟨wr.heap.size, 1, none⟩ = some (.bool false) := by rw [KvR.out.cell]; rfl
          have cv2R : wR.cell? ⟨wr.heap.size, 2, none⟩ = some (.int .i64 k) := by rw [KvR.out.cell]; rfl
          have cv3R : wR.cell? ⟨wr.heap.size, 3, none⟩ = some (.slice ka ks.length kc) := by rw [KvR.out.cell]; rfl
          have cv4R : wR.cell? ⟨wr.heap.size, 4, none⟩ = some (.bool false) := by rw [KvR.out.cell]; rfl
          have hcvR := (HT0.out.below HBR.out).string (src := 31) (dst := 9) Try.underlying31 Try.underlying5 Try.underlying9
          obtain ⟨rfl, ⟨set2, af2, kv2, dR, fR⟩, a2, c2, kR, tR, -⟩ | ⟨rfl, B2, set2, af2, kv2, hB2, dR, kR⟩ := hR
          · skip
            rw [Nat.zero_add] at dR
            have hKp := HKeep.out.whole (b := b) (by omega) (by omega)
            obtain ⟨B2, hB2⟩ : ∃ B2, putS 100 ((t + 1) % 2) (slotB 100 (t + 1) b) 100 B = B2 := ⟨_, rfl⟩
            rw [hB2] at dR hKp
            clear hB2
            have HKR := hid hKp
            have HDR := hid dR
            have HFR := hid fR
            have KsR := hid (show Blk wR q (slC p (0 : Nat) ((t + 1 : Nat) : Int) (.slice a2 b.length c2) false) 88 from kR)
            have HTR := hid tR
            clear dR fR kR tR hKp
            go_wp2_with fail
            clear hcvR
            clear cv0R cv1R cv2R cv3R cv4R
            have KvwR := hid KvR.out
            refine (text_any wR q p _ _ _ b.length _ b _ KsR.out HTR.out (by omega)).mono ?_
            rintro e wT ⟨aT, cT, rfl, bT, tT, -⟩
            have HBT := hid (Below.on HBR.out bT)
            have hcvT := tT.string (src := 31) (dst := 9) Try.underlying31 Try.underlying5 Try.underlying9
            have hcvB := (HT0.out.below HBT.out).string (src := 31) (dst := 9) Try.underlying31 Try.underlying5 Try.underlying9
            have KvT := hid (KvwR.out.below bT)
            have HDT := hid (HDR.out.below bT)
            have HFT := hid (HFR.out.butIn (ButIn.of_below bT))
            have KsT := hid (KsR.out.below bT)
            have HTT := hid (HTR.out.below bT)
            clear bT tT
            have cv0T : wT.cell? ⟨wr.heap.size, 0, none⟩ = some (.slice ba b.length bc) := by rw [KvT.out.cell]; rfl
            have cv1T : wT.cell? ⟨wr.heap.size, 1, none⟩ = some (.bool false) := by rw [KvT.out.cell]; rfl
            have cv2T : wT.cell? ⟨wr.heap.size, 2, none⟩ = some (.int .i64 k) := by rw [KvT.out.cell]; rfl
            have cv3T : wT.cell? ⟨wr.heap.size, 3, none⟩ = some (.slice ka ks.length kc) := by rw [KvT.out.cell]; rfl
            have cv4T : wT.cell? ⟨wr.heap.size, 4, none⟩ = some (.bool false) := by rw [KvT.out.cell]; rfl
            go_wp2_with fail
            exact ⟨⟨j + 1, q, t + 1, b, by omega, by first | rfl | simp, rfl, rfl, by first | rfl | simp, by omega, ⟨HBT.out, ⟨_, _, _, _, HDT.out, HFT.out, HKR.out⟩, ⟨_, _, KsT.out, HTT.out⟩, hql, hne, by omega⟩⟩, by simp [intOf]; omega⟩
          · skip
            rw [Nat.zero_add] at hB2
            have hKp := HKeep.out.torn (b := b) (by omega) (by omega) (by omega) hB2
            have HDR := hid dR
            clear dR kR hB2
            go_wp2_with fail
            clear hcvR
            clear cv0R cv1R cv2R cv3R cv4R
            obtain hKp | hKp := hKp
            · have HKR := hid hKp
              clear hKp
              refine (crash_all wR p bb 100 2 B2 _ _ _ _ ka kc ks (HI0.out.base HBR.out (by simp only [List.mem_cons, List.not_mem_nil, or_false, forall_eq_or_imp, forall_eq]; omega)) hkw HDR.out).mono ?_
              rintro e wC ⟨rfl, bC, dC⟩
              have HBC := hid (bC.below HBR.out HBR.out.size (by simp only [List.mem_cons, List.not_mem_nil, or_false, forall_eq_or_imp, forall_eq]; omega))
              have KvC := hid (bC.blk KvR.out (by simp; omega))
              have HDC := hid dC
              clear bC dC
              go_wp2_with fail
              refine (boot_any wC p bb 100 2 B2 _ _ _ _ _ HDC.out).mono ?_
              rintro e wB ⟨rfl, bB, dB⟩
              have HBB := hid ((ButIn.of_but (S := [p]) bB (by simp)).below HBC.out HBC.out.size (by simpa using hp))
              have KvB := hid (bB.blk KvC.out (by omega))
              have HDB := hid dB
              have hszB := HBB.out.size
              clear bB dB
              go_wp2_with fail
              refine (open_good wB p bb 100 2 B2 false 0 _ 0 HDB.out (by omega) (by omega)).mono ?_
              rintro e wO ⟨q2, ta2, tn2, tc2, rfl, hq2, bO, kO, tO⟩
              rw [(HKR.out).open (by omega) (by omega) (by omega)] at kO tO
              have hpO := HDB.out.kp.lt
              have hbO := HDB.out.kb.lt
              obtain rfl := tO.text.length
              have HBO := hid (Below.on HBB.out bO)
              have KvwO := hid (KvB.out.below bO)
              have HDO := hid (HDB.out.below bO)
              have HFO := hid (show FailAt wO [p, bb, q2] false 0 (.slice none 0 0) from .inl rfl)
              have KsO := hid (show Blk wO q2 (slC p (0 : Nat) ((t : Nat) : Int) (.slice ta2 (now).length tc2) false) 88 from kO)
              have HTO := hid tO.text
              clear bO kO tO
              have cv0O : wO.cell? ⟨wr.heap.size, 0, none⟩ = some (.slice ba b.length bc) := by rw [KvwO.out.cell]; rfl
              have cv1O : wO.cell? ⟨wr.heap.size, 1, none⟩ = some (.bool false) := by rw [KvwO.out.cell]; rfl
              have cv2O : wO.cell? ⟨wr.heap.size, 2, none⟩ = some (.int .i64 k) := by rw [KvwO.out.cell]; rfl
              have cv3O : wO.cell? ⟨wr.heap.size, 3, none⟩ = some (.slice ka ks.length kc) := by rw [KvwO.out.cell]; rfl
              have cv4O : wO.cell? ⟨wr.heap.size, 4, none⟩ = some (.bool false) := by rw [KvwO.out.cell]; rfl
              go_wp2_with fail
              clear cv0O cv1O cv2O cv3O cv4O
              refine (text_any wO q2 p _ _ _ now.length _ now _ KsO.out HTO.out (by omega)).mono ?_
              rintro e wT ⟨aT, cT, rfl, bT, tT, -⟩
              have HBT := hid (Below.on HBO.out bT)
              have hcvT := tT.string (src := 31) (dst := 9) Try.underlying31 Try.underlying5 Try.underlying9
              have hcvB := (HT0.out.below HBT.out).string (src := 31) (dst := 9) Try.underlying31 Try.underlying5 Try.underlying9
              have KvT := hid (KvwO.out.below bT)
              have HDT := hid (HDO.out.below bT)
              have HFT := hid (HFO.out.butIn (ButIn.of_below bT))
              have KsT := hid (KsO.out.below bT)
              have HTT := hid (HTO.out.below bT)
              clear bT tT
              have cv0T : wT.cell? ⟨wr.heap.size, 0, none⟩ = some (.slice ba b.length bc) := by rw [KvT.out.cell]; rfl
              have cv1T : wT.cell? ⟨wr.heap.size, 1, none⟩ = some (.bool false) := by rw [KvT.out.cell]; rfl
              have cv2T : wT.cell? ⟨wr.heap.size, 2, none⟩ = some (.int .i64 k) := by rw [KvT.out.cell]; rfl
              have cv3T : wT.cell? ⟨wr.heap.size, 3, none⟩ = some (.slice ka ks.length kc) := by rw [KvT.out.cell]; rfl
              have cv4T : wT.cell? ⟨wr.heap.size, 4, none⟩ = some (.bool false) := by rw [KvT.out.cell]; rfl
              go_wp2_with fail
              exact ⟨⟨j + 1, q2, t, now, by omega, by first | rfl | simp, rfl, rfl, by first | rfl | simp, by omega, ⟨HBT.out, ⟨_, _, _, _, HDT.out, HFT.out, HKR.out⟩, ⟨_, _, KsT.out, HTT.out⟩, by omega, by omega, by omega⟩⟩, by simp [intOf]; omega⟩
            · have HKR := hid hKp
              clear hKp
              have hqs := eqStrB hbs hnow
              by_cases hbn : b = now
              · subst hbn
                refine (crash_all wR p bb 100 2 B2 _ _ _ _ ka kc ks (HI0.out.base HBR.out (by simp only [List.mem_cons, List.not_mem_nil, or_false, forall_eq_or_imp, forall_eq]; omega)) hkw HDR.out).mono ?_
                rintro e wC ⟨rfl, bC, dC⟩
                have HBC := hid (bC.below HBR.out HBR.out.size (by simp only [List.mem_cons, List.not_mem_nil, or_false, forall_eq_or_imp, forall_eq]; omega))
                have KvC := hid (bC.blk KvR.out (by simp; omega))
                have HDC := hid dC
                clear bC dC
                go_wp2_with fail
                refine (boot_any wC p bb 100 2 B2 _ _ _ _ _ HDC.out).mono ?_
                rintro e wB ⟨rfl, bB, dB⟩
                have HBB := hid ((ButIn.of_but (S := [p]) bB (by simp)).below HBC.out HBC.out.size (by simpa using hp))
                have KvB := hid (bB.blk KvC.out (by omega))
                have HDB := hid dB
                have hszB := HBB.out.size
                clear bB dB
                go_wp2_with fail
                refine (open_good wB p bb 100 2 B2 false 0 _ 0 HDB.out (by omega) (by omega)).mono ?_
                rintro e wO ⟨q2, ta2, tn2, tc2, rfl, hq2, bO, kO, tO⟩
                rw [(HKR.out).open (by omega) (by omega) (by omega)] at kO tO
                have hpO := HDB.out.kp.lt
                have hbO := HDB.out.kb.lt
                obtain rfl := tO.text.length
                have HBO := hid (Below.on HBB.out bO)
                have KvwO := hid (KvB.out.below bO)
                have HDO := hid (HDB.out.below bO)
                have HFO := hid (show FailAt wO [p, bb, q2] false 0 (.slice none 0 0) from .inl rfl)
                have KsO := hid (show Blk wO q2 (slC p (0 : Nat) ((t + 1 : Nat) : Int) (.slice ta2 (b).length tc2) false) 88 from kO)
                have HTO := hid tO.text
                clear bO kO tO
                have cv0O : wO.cell? ⟨wr.heap.size, 0, none⟩ = some (.slice ba b.length bc) := by rw [KvwO.out.cell]; rfl
                have cv1O : wO.cell? ⟨wr.heap.size, 1, none⟩ = some (.bool false) := by rw [KvwO.out.cell]; rfl
                have cv2O : wO.cell? ⟨wr.heap.size, 2, none⟩ = some (.int .i64 k) := by rw [KvwO.out.cell]; rfl
                have cv3O : wO.cell? ⟨wr.heap.size, 3, none⟩ = some (.slice ka ks.length kc) := by rw [KvwO.out.cell]; rfl
                have cv4O : wO.cell? ⟨wr.heap.size, 4, none⟩ = some (.bool false) := by rw [KvwO.out.cell]; rfl
                go_wp2_with fail
                clear cv0O cv1O cv2O cv3O cv4O
                refine (text_any wO q2 p _ _ _ b.length _ b _ KsO.out HTO.out (by omega)).mono ?_
                rintro e wT ⟨aT, cT, rfl, bT, tT, -⟩
                have HBT := hid (Below.on HBO.out bT)
                have hcvT := tT.string (src := 31) (dst := 9) Try.underlying31 Try.underlying5 Try.underlying9
                have hcvB := (HT0.out.below HBT.out).string (src := 31) (dst := 9) Try.underlying31 Try.underlying5 Try.underlying9
                have KvT := hid (KvwO.out.below bT)
                have HDT := hid (HDO.out.below bT)
                have HFT := hid (HFO.out.butIn (ButIn.of_below bT))
                have KsT := hid (KsO.out.below bT)
                have HTT := hid (HTO.out.below bT)
                clear bT tT
                have cv0T : wT.cell? ⟨wr.heap.size, 0, none⟩ = some (.slice ba b.length bc) := by rw [KvT.out.cell]; rfl
                have cv1T : wT.cell? ⟨wr.heap.size, 1, none⟩ = some (.bool false) := by rw [KvT.out.cell]; rfl
                have cv2T : wT.cell? ⟨wr.heap.size, 2, none⟩ = some (.int .i64 k) := by rw [KvT.out.cell]; rfl
                have cv3T : wT.cell? ⟨wr.heap.size, 3, none⟩ = some (.slice ka ks.length kc) := by rw [KvT.out.cell]; rfl
                have cv4T : wT.cell? ⟨wr.heap.size, 4, none⟩ = some (.bool false) := by rw [KvT.out.cell]; rfl
                go_wp2_with fail
                exact ⟨⟨j + 1, q2, t + 1, b, by omega, by first | rfl | simp, rfl, rfl, by first | rfl | simp, by omega, ⟨HBT.out, ⟨_, _, _, _, HDT.out, HFT.out, HKR.out⟩, ⟨_, _, KsT.out, HTT.out⟩, by omega, by omega, by omega⟩⟩, by simp [intOf]; omega⟩
              · rw [decide_eq_false hbn] at hqs
                refine (crash_all wR p bb 100 2 B2 _ _ _ _ ka kc ks (HI0.out.base HBR.out (by simp only [List.mem_cons, List.not_mem_nil, or_false, forall_eq_or_imp, forall_eq]; omega)) hkw HDR.out).mono ?_
                rintro e wC ⟨rfl, bC, dC⟩
                have HBC := hid (bC.below HBR.out HBR.out.size (by simp only [List.mem_cons, List.not_mem_nil, or_false, forall_eq_or_imp, forall_eq]; omega))
                have KvC := hid (bC.blk KvR.out (by simp; omega))
                have HDC := hid dC
                clear bC dC
                go_wp2_with fail
                refine (boot_any wC p bb 100 2 B2 _ _ _ _ _ HDC.out).mono ?_
                rintro e wB ⟨rfl, bB, dB⟩
                have HBB := hid ((ButIn.of_but (S := [p]) bB (by simp)).below HBC.out HBC.out.size (by simpa using hp))
                have KvB := hid (bB.blk KvC.out (by omega))
                have HDB := hid dB
                have hszB := HBB.out.size
                clear bB dB
                go_wp2_with fail
                refine (open_good wB p bb 100 2 B2 false 0 _ 0 HDB.out (by omega) (by omega)).mono ?_
                rintro e wO ⟨q2, ta2, tn2, tc2, rfl, hq2, bO, kO, tO⟩
                rw [(HKR.out).open (by omega) (by omega) (by omega)] at kO tO
                have hpO := HDB.out.kp.lt
                have hbO := HDB.out.kb.lt
                obtain rfl := tO.text.length
                have HBO := hid (Below.on HBB.out bO)
                have KvwO := hid (KvB.out.below bO)
                have HDO := hid (HDB.out.below bO)
                have HFO := hid (show FailAt wO [p, bb, q2] false 0 (.slice none 0 0) from .inl rfl)
                have KsO := hid (show Blk wO q2 (slC p (0 : Nat) ((t + 1 : Nat) : Int) (.slice ta2 (b).length tc2) false) 88 from kO)
                have HTO := hid tO.text
                clear bO kO tO
                have cv0O : wO.cell? ⟨wr.heap.size, 0, none⟩ = some (.slice ba b.length bc) := by rw [KvwO.out.cell]; rfl
                have cv1O : wO.cell? ⟨wr.heap.size, 1, none⟩ = some (.bool false) := by rw [KvwO.out.cell]; rfl
                have cv2O : wO.cell? ⟨wr.heap.size, 2, none⟩ = some (.int .i64 k) := by rw [KvwO.out.cell]; rfl
                have cv3O : wO.cell? ⟨wr.heap.size, 3, none⟩ = some (.slice ka ks.length kc) := by rw [KvwO.out.cell]; rfl
                have cv4O : wO.cell? ⟨wr.heap.size, 4, none⟩ = some (.bool false) := by rw [KvwO.out.cell]; rfl
                go_wp2_with fail
                clear cv0O cv1O cv2O cv3O cv4O
                refine (text_any wO q2 p _ _ _ b.length _ b _ KsO.out HTO.out (by omega)).mono ?_
                rintro e wT ⟨aT, cT, rfl, bT, tT, -⟩
                have HBT := hid (Below.on HBO.out bT)
                have hcvT := tT.string (src := 31) (dst := 9) Try.underlying31 Try.underlying5 Try.underlying9
                have hcvB := (HT0.out.below HBT.out).string (src := 31) (dst := 9) Try.underlying31 Try.underlying5 Try.underlying9
                have KvT := hid (KvwO.out.below bT)
                have HDT := hid (HDO.out.below bT)
                have HFT := hid (HFO.out.butIn (ButIn.of_below bT))
                have KsT := hid (KsO.out.below bT)
                have HTT := hid (HTO.out.below bT)
                clear bT tT
                have cv0T : wT.cell? ⟨wr.heap.size, 0, none⟩ = some (.slice ba b.length bc) := by rw [KvT.out.cell]; rfl
                have cv1T : wT.cell? ⟨wr.heap.size, 1, none⟩ = some (.bool false) := by rw [KvT.out.cell]; rfl
                have cv2T : wT.cell? ⟨wr.heap.size, 2, none⟩ = some (.int .i64 k) := by rw [KvT.out.cell]; rfl
                have cv3T : wT.cell? ⟨wr.heap.size, 3, none⟩ = some (.slice ka ks.length kc) := by rw [KvT.out.cell]; rfl
                have cv4T : wT.cell? ⟨wr.heap.size, 4, none⟩ = some (.bool false) := by rw [KvT.out.cell]; rfl
                go_wp2_with fail
                exact ⟨⟨j + 1, q2, t + 1, b, by omega, by first | rfl | simp, rfl, rfl, by first | rfl | simp, by omega, ⟨HBT.out, ⟨_, _, _, _, HDT.out, HFT.out, HKR.out⟩, ⟨_, _, KsT.out, HTT.out⟩, by omega, by omega, by omega⟩⟩, by simp [intOf]; omega⟩
        · skip
          have KvR := hid (bR.blk Kvw.out (by simp; omega))
          clear bR
          have cv0R : wR.cell? ⟨wr.heap.size, 0, none⟩ = some (.slice ba b.length bc) := by rw [KvR.out.cell]; rfl
          have cv1R : wR.cell? ⟨wr.heap.size, 1, none⟩ = some (.bool false) := by rw [KvR.out.cell]; rfl
          have cv2R : wR.cell? ⟨wr.heap.size, 2, none⟩ = some (.int .i64 k) := by rw [KvR.out.cell]; rfl
          have cv3R : wR.cell? ⟨wr.heap.size, 3, none⟩ = some (.slice ka ks.length kc) := by rw [KvR.out.cell]; rfl
          have cv4R : wR.cell? ⟨wr.heap.size, 4, none⟩ = some (.bool true) := by rw [KvR.out.cell]; rfl
          have hcvR := (HT0.out.below HBR.out).string (src := 31) (dst := 9) Try.underlying31 Try.underlying5 Try.underlying9
          obtain ⟨rfl, ⟨set2, af2, kv2, dR, fR⟩, a2, c2, kR, tR, -⟩ | ⟨rfl, B2, set2, af2, kv2, hB2, dR, kR⟩ := hR
          · skip
            rw [Nat.zero_add] at dR
            have hKp := HKeep.out.whole (b := b) (by omega) (by omega)
            obtain ⟨B2, hB2⟩ : ∃ B2, putS 100 ((t + 1) % 2) (slotB 100 (t + 1) b) 100 B = B2 := ⟨_, rfl⟩
            rw [hB2] at dR hKp
            clear hB2
            have HKR := hid hKp
            have HDR := hid dR
            have HFR := hid fR
            have KsR := hid (show Blk wR q (slC p (0 : Nat) ((t + 1 : Nat) : Int) (.slice a2 b.length c2) false) 88 from kR)
            have HTR := hid tR
            clear dR fR kR tR hKp
            go_wp2_with fail
            clear hcvR
            clear cv0R cv1R cv2R cv3R cv4R
            refine (crash_all wR p bb 100 2 B2 _ _ _ _ ka kc ks (HI0.out.base HBR.out (by simp only [List.mem_cons, List.not_mem_nil, or_false, forall_eq_or_imp, forall_eq]; omega)) hkw HDR.out).mono ?_
            rintro e wC ⟨rfl, bC, dC⟩
            have HBC := hid (bC.below HBR.out HBR.out.size (by simp only [List.mem_cons, List.not_mem_nil, or_false, forall_eq_or_imp, forall_eq]; omega))
            have KvC := hid (bC.blk KvR.out (by simp; omega))
            have HDC := hid dC
            clear bC dC
            go_wp2_with fail
            refine (boot_any wC p bb 100 2 B2 _ _ _ _ _ HDC.out).mono ?_
            rintro e wB ⟨rfl, bB, dB⟩
            have HBB := hid ((ButIn.of_but (S := [p]) bB (by simp)).below HBC.out HBC.out.size (by simpa using hp))
            have KvB := hid (bB.blk KvC.out (by omega))
            have HDB := hid dB
            have hszB := HBB.out.size
            clear bB dB
            go_wp2_with fail
            refine (open_good wB p bb 100 2 B2 false 0 _ 0 HDB.out (by omega) (by omega)).mono ?_
            rintro e wO ⟨q2, ta2, tn2, tc2, rfl, hq2, bO, kO, tO⟩
            rw [(HKR.out).open (by omega) (by omega) (by omega)] at kO tO
            have hpO := HDB.out.kp.lt
            have hbO := HDB.out.kb.lt
            obtain rfl := tO.text.length
            have HBO := hid (Below.on HBB.out bO)
            have KvwO := hid (KvB.out.below bO)
            have HDO := hid (HDB.out.below bO)
            have HFO := hid (show FailAt wO [p, bb, q2] false 0 (.slice none 0 0) from .inl rfl)
            have KsO := hid (show Blk wO q2 (slC p (0 : Nat) ((t + 1 : Nat) : Int) (.slice ta2 (b).length tc2) false) 88 from kO)
            have HTO := hid tO.text
            clear bO kO tO
            have cv0O : wO.cell? ⟨wr.heap.size, 0, none⟩ = some (.slice ba b.length bc) := by rw [KvwO.out.cell]; rfl
            have cv1O : wO.cell? ⟨wr.heap.size, 1, none⟩ = some (.bool false) := by rw [KvwO.out.cell]; rfl
            have cv2O : wO.cell? ⟨wr.heap.size, 2, none⟩ = some (.int .i64 k) := by rw [KvwO.out.cell]; rfl
            have cv3O : wO.cell? ⟨wr.heap.size, 3, none⟩ = some (.slice ka ks.length kc) := by rw [KvwO.out.cell]; rfl
            have cv4O : wO.cell? ⟨wr.heap.size, 4, none⟩ = some (.bool true) := by rw [KvwO.out.cell]; rfl
            go_wp2_with fail
            clear cv0O cv1O cv2O cv3O cv4O
            refine (text_any wO q2 p _ _ _ b.length _ b _ KsO.out HTO.out (by omega)).mono ?_
            rintro e wT ⟨aT, cT, rfl, bT, tT, -⟩
            have HBT := hid (Below.on HBO.out bT)
            have hcvT := tT.string (src := 31) (dst := 9) Try.underlying31 Try.underlying5 Try.underlying9
            have hcvB := (HT0.out.below HBT.out).string (src := 31) (dst := 9) Try.underlying31 Try.underlying5 Try.underlying9
            have KvT := hid (KvwO.out.below bT)
            have HDT := hid (HDO.out.below bT)
            have HFT := hid (HFO.out.butIn (ButIn.of_below bT))
            have KsT := hid (KsO.out.below bT)
            have HTT := hid (HTO.out.below bT)
            clear bT tT
            have cv0T : wT.cell? ⟨wr.heap.size, 0, none⟩ = some (.slice ba b.length bc) := by rw [KvT.out.cell]; rfl
            have cv1T : wT.cell? ⟨wr.heap.size, 1, none⟩ = some (.bool false) := by rw [KvT.out.cell]; rfl
            have cv2T : wT.cell? ⟨wr.heap.size, 2, none⟩ = some (.int .i64 k) := by rw [KvT.out.cell]; rfl
            have cv3T : wT.cell? ⟨wr.heap.size, 3, none⟩ = some (.slice ka ks.length kc) := by rw [KvT.out.cell]; rfl
            have cv4T : wT.cell? ⟨wr.heap.size, 4, none⟩ = some (.bool true) := by rw [KvT.out.cell]; rfl
            go_wp2_with fail
            exact ⟨⟨j + 1, q2, t + 1, b, by omega, by first | rfl | simp, rfl, rfl, by first | rfl | simp, by omega, ⟨HBT.out, ⟨_, _, _, _, HDT.out, HFT.out, HKR.out⟩, ⟨_, _, KsT.out, HTT.out⟩, by omega, by omega, by omega⟩⟩, by simp [intOf]; omega⟩
          · skip
            rw [Nat.zero_add] at hB2
            have hKp := HKeep.out.torn (b := b) (by omega) (by omega) (by omega) hB2
            have HDR := hid dR
            clear dR kR hB2
            go_wp2_with fail
            clear hcvR
            clear cv0R cv1R cv2R cv3R cv4R
            obtain hKp | hKp := hKp
            · have HKR := hid hKp
              clear hKp
              refine (crash_all wR p bb 100 2 B2 _ _ _ _ ka kc ks (HI0.out.base HBR.out (by simp only [List.mem_cons, List.not_mem_nil, or_false, forall_eq_or_imp, forall_eq]; omega)) hkw HDR.out).mono ?_
              rintro e wC ⟨rfl, bC, dC⟩
              have HBC := hid (bC.below HBR.out HBR.out.size (by simp only [List.mem_cons, List.not_mem_nil, or_false, forall_eq_or_imp, forall_eq]; omega))
              have KvC := hid (bC.blk KvR.out (by simp; omega))
              have HDC := hid dC
              clear bC dC
              go_wp2_with fail
              refine (boot_any wC p bb 100 2 B2 _ _ _ _ _ HDC.out).mono ?_
              rintro e wB ⟨rfl, bB, dB⟩
              have HBB := hid ((ButIn.of_but (S := [p]) bB (by simp)).below HBC.out HBC.out.size (by simpa using hp))
              have KvB := hid (bB.blk KvC.out (by omega))
              have HDB := hid dB
              have hszB := HBB.out.size
              clear bB dB
              go_wp2_with fail
              refine (open_good wB p bb 100 2 B2 false 0 _ 0 HDB.out (by omega) (by omega)).mono ?_
              rintro e wO ⟨q2, ta2, tn2, tc2, rfl, hq2, bO, kO, tO⟩
              rw [(HKR.out).open (by omega) (by omega) (by omega)] at kO tO
              have hpO := HDB.out.kp.lt
              have hbO := HDB.out.kb.lt
              obtain rfl := tO.text.length
              have HBO := hid (Below.on HBB.out bO)
              have KvwO := hid (KvB.out.below bO)
              have HDO := hid (HDB.out.below bO)
              have HFO := hid (show FailAt wO [p, bb, q2] false 0 (.slice none 0 0) from .inl rfl)
              have KsO := hid (show Blk wO q2 (slC p (0 : Nat) ((t : Nat) : Int) (.slice ta2 (now).length tc2) false) 88 from kO)
              have HTO := hid tO.text
              clear bO kO tO
              have cv0O : wO.cell? ⟨wr.heap.size, 0, none⟩ = some (.slice ba b.length bc) := by rw [KvwO.out.cell]; rfl
              have cv1O : wO.cell? ⟨wr.heap.size, 1, none⟩ = some (.bool false) := by rw [KvwO.out.cell]; rfl
              have cv2O : wO.cell? ⟨wr.heap.size, 2, none⟩ = some (.int .i64 k) := by rw [KvwO.out.cell]; rfl
              have cv3O : wO.cell? ⟨wr.heap.size, 3, none⟩ = some (.slice ka ks.length kc) := by rw [KvwO.out.cell]; rfl
              have cv4O : wO.cell? ⟨wr.heap.size, 4, none⟩ = some (.bool true) := by rw [KvwO.out.cell]; rfl
              go_wp2_with fail
              clear cv0O cv1O cv2O cv3O cv4O
              refine (text_any wO q2 p _ _ _ now.length _ now _ KsO.out HTO.out (by omega)).mono ?_
              rintro e wT ⟨aT, cT, rfl, bT, tT, -⟩
              have HBT := hid (Below.on HBO.out bT)
              have hcvT := tT.string (src := 31) (dst := 9) Try.underlying31 Try.underlying5 Try.underlying9
              have hcvB := (HT0.out.below HBT.out).string (src := 31) (dst := 9) Try.underlying31 Try.underlying5 Try.underlying9
              have KvT := hid (KvwO.out.below bT)
              have HDT := hid (HDO.out.below bT)
              have HFT := hid (HFO.out.butIn (ButIn.of_below bT))
              have KsT := hid (KsO.out.below bT)
              have HTT := hid (HTO.out.below bT)
              clear bT tT
              have cv0T : wT.cell? ⟨wr.heap.size, 0, none⟩ = some (.slice ba b.length bc) := by rw [KvT.out.cell]; rfl
              have cv1T : wT.cell? ⟨wr.heap.size, 1, none⟩ = some (.bool false) := by rw [KvT.out.cell]; rfl
              have cv2T : wT.cell? ⟨wr.heap.size, 2, none⟩ = some (.int .i64 k) := by rw [KvT.out.cell]; rfl
              have cv3T : wT.cell? ⟨wr.heap.size, 3, none⟩ = some (.slice ka ks.length kc) := by rw [KvT.out.cell]; rfl
              have cv4T : wT.cell? ⟨wr.heap.size, 4, none⟩ = some (.bool true) := by rw [KvT.out.cell]; rfl
              go_wp2_with fail
              exact ⟨⟨j + 1, q2, t, now, by omega, by first | rfl | simp, rfl, rfl, by first | rfl | simp, by omega, ⟨HBT.out, ⟨_, _, _, _, HDT.out, HFT.out, HKR.out⟩, ⟨_, _, KsT.out, HTT.out⟩, by omega, by omega, by omega⟩⟩, by simp [intOf]; omega⟩
            · have HKR := hid hKp
              clear hKp
              have hqs := eqStrB hbs hnow
              by_cases hbn : b = now
              · subst hbn
                refine (crash_all wR p bb 100 2 B2 _ _ _ _ ka kc ks (HI0.out.base HBR.out (by simp only [List.mem_cons, List.not_mem_nil, or_false, forall_eq_or_imp, forall_eq]; omega)) hkw HDR.out).mono ?_
                rintro e wC ⟨rfl, bC, dC⟩
                have HBC := hid (bC.below HBR.out HBR.out.size (by simp only [List.mem_cons, List.not_mem_nil, or_false, forall_eq_or_imp, forall_eq]; omega))
                have KvC := hid (bC.blk KvR.out (by simp; omega))
                have HDC := hid dC
                clear bC dC
                go_wp2_with fail
                refine (boot_any wC p bb 100 2 B2 _ _ _ _ _ HDC.out).mono ?_
                rintro e wB ⟨rfl, bB, dB⟩
                have HBB := hid ((ButIn.of_but (S := [p]) bB (by simp)).below HBC.out HBC.out.size (by simpa using hp))
                have KvB := hid (bB.blk KvC.out (by omega))
                have HDB := hid dB
                have hszB := HBB.out.size
                clear bB dB
                go_wp2_with fail
                refine (open_good wB p bb 100 2 B2 false 0 _ 0 HDB.out (by omega) (by omega)).mono ?_
                rintro e wO ⟨q2, ta2, tn2, tc2, rfl, hq2, bO, kO, tO⟩
                rw [(HKR.out).open (by omega) (by omega) (by omega)] at kO tO
                have hpO := HDB.out.kp.lt
                have hbO := HDB.out.kb.lt
                obtain rfl := tO.text.length
                have HBO := hid (Below.on HBB.out bO)
                have KvwO := hid (KvB.out.below bO)
                have HDO := hid (HDB.out.below bO)
                have HFO := hid (show FailAt wO [p, bb, q2] false 0 (.slice none 0 0) from .inl rfl)
                have KsO := hid (show Blk wO q2 (slC p (0 : Nat) ((t + 1 : Nat) : Int) (.slice ta2 (b).length tc2) false) 88 from kO)
                have HTO := hid tO.text
                clear bO kO tO
                have cv0O : wO.cell? ⟨wr.heap.size, 0, none⟩ = some (.slice ba b.length bc) := by rw [KvwO.out.cell]; rfl
                have cv1O : wO.cell? ⟨wr.heap.size, 1, none⟩ = some (.bool false) := by rw [KvwO.out.cell]; rfl
                have cv2O : wO.cell? ⟨wr.heap.size, 2, none⟩ = some (.int .i64 k) := by rw [KvwO.out.cell]; rfl
                have cv3O : wO.cell? ⟨wr.heap.size, 3, none⟩ = some (.slice ka ks.length kc) := by rw [KvwO.out.cell]; rfl
                have cv4O : wO.cell? ⟨wr.heap.size, 4, none⟩ = some (.bool true) := by rw [KvwO.out.cell]; rfl
                go_wp2_with fail
                clear cv0O cv1O cv2O cv3O cv4O
                refine (text_any wO q2 p _ _ _ b.length _ b _ KsO.out HTO.out (by omega)).mono ?_
                rintro e wT ⟨aT, cT, rfl, bT, tT, -⟩
                have HBT := hid (Below.on HBO.out bT)
                have hcvT := tT.string (src := 31) (dst := 9) Try.underlying31 Try.underlying5 Try.underlying9
                have hcvB := (HT0.out.below HBT.out).string (src := 31) (dst := 9) Try.underlying31 Try.underlying5 Try.underlying9
                have KvT := hid (KvwO.out.below bT)
                have HDT := hid (HDO.out.below bT)
                have HFT := hid (HFO.out.butIn (ButIn.of_below bT))
                have KsT := hid (KsO.out.below bT)
                have HTT := hid (HTO.out.below bT)
                clear bT tT
                have cv0T : wT.cell? ⟨wr.heap.size, 0, none⟩ = some (.slice ba b.length bc) := by rw [KvT.out.cell]; rfl
                have cv1T : wT.cell? ⟨wr.heap.size, 1, none⟩ = some (.bool false) := by rw [KvT.out.cell]; rfl
                have cv2T : wT.cell? ⟨wr.heap.size, 2, none⟩ = some (.int .i64 k) := by rw [KvT.out.cell]; rfl
                have cv3T : wT.cell? ⟨wr.heap.size, 3, none⟩ = some (.slice ka ks.length kc) := by rw [KvT.out.cell]; rfl
                have cv4T : wT.cell? ⟨wr.heap.size, 4, none⟩ = some (.bool true) := by rw [KvT.out.cell]; rfl
                go_wp2_with fail
                exact ⟨⟨j + 1, q2, t + 1, b, by omega, by first | rfl | simp, rfl, rfl, by first | rfl | simp, by omega, ⟨HBT.out, ⟨_, _, _, _, HDT.out, HFT.out, HKR.out⟩, ⟨_, _, KsT.out, HTT.out⟩, by omega, by omega, by omega⟩⟩, by simp [intOf]; omega⟩
              · rw [decide_eq_false hbn] at hqs
                refine (crash_all wR p bb 100 2 B2 _ _ _ _ ka kc ks (HI0.out.base HBR.out (by simp only [List.mem_cons, List.not_mem_nil, or_false, forall_eq_or_imp, forall_eq]; omega)) hkw HDR.out).mono ?_
                rintro e wC ⟨rfl, bC, dC⟩
                have HBC := hid (bC.below HBR.out HBR.out.size (by simp only [List.mem_cons, List.not_mem_nil, or_false, forall_eq_or_imp, forall_eq]; omega))
                have KvC := hid (bC.blk KvR.out (by simp; omega))
                have HDC := hid dC
                clear bC dC
                go_wp2_with fail
                refine (boot_any wC p bb 100 2 B2 _ _ _ _ _ HDC.out).mono ?_
                rintro e wB ⟨rfl, bB, dB⟩
                have HBB := hid ((ButIn.of_but (S := [p]) bB (by simp)).below HBC.out HBC.out.size (by simpa using hp))
                have KvB := hid (bB.blk KvC.out (by omega))
                have HDB := hid dB
                have hszB := HBB.out.size
                clear bB dB
                go_wp2_with fail
                refine (open_good wB p bb 100 2 B2 false 0 _ 0 HDB.out (by omega) (by omega)).mono ?_
                rintro e wO ⟨q2, ta2, tn2, tc2, rfl, hq2, bO, kO, tO⟩
                rw [(HKR.out).open (by omega) (by omega) (by omega)] at kO tO
                have hpO := HDB.out.kp.lt
                have hbO := HDB.out.kb.lt
                obtain rfl := tO.text.length
                have HBO := hid (Below.on HBB.out bO)
                have KvwO := hid (KvB.out.below bO)
                have HDO := hid (HDB.out.below bO)
                have HFO := hid (show FailAt wO [p, bb, q2] false 0 (.slice none 0 0) from .inl rfl)
                have KsO := hid (show Blk wO q2 (slC p (0 : Nat) ((t + 1 : Nat) : Int) (.slice ta2 (b).length tc2) false) 88 from kO)
                have HTO := hid tO.text
                clear bO kO tO
                have cv0O : wO.cell? ⟨wr.heap.size, 0, none⟩ = some (.slice ba b.length bc) := by rw [KvwO.out.cell]; rfl
                have cv1O : wO.cell? ⟨wr.heap.size, 1, none⟩ = some (.bool false) := by rw [KvwO.out.cell]; rfl
                have cv2O : wO.cell? ⟨wr.heap.size, 2, none⟩ = some (.int .i64 k) := by rw [KvwO.out.cell]; rfl
                have cv3O : wO.cell? ⟨wr.heap.size, 3, none⟩ = some (.slice ka ks.length kc) := by rw [KvwO.out.cell]; rfl
                have cv4O : wO.cell? ⟨wr.heap.size, 4, none⟩ = some (.bool true) := by rw [KvwO.out.cell]; rfl
                go_wp2_with fail
                clear cv0O cv1O cv2O cv3O cv4O
                refine (text_any wO q2 p _ _ _ b.length _ b _ KsO.out HTO.out (by omega)).mono ?_
                rintro e wT ⟨aT, cT, rfl, bT, tT, -⟩
                have HBT := hid (Below.on HBO.out bT)
                have hcvT := tT.string (src := 31) (dst := 9) Try.underlying31 Try.underlying5 Try.underlying9
                have hcvB := (HT0.out.below HBT.out).string (src := 31) (dst := 9) Try.underlying31 Try.underlying5 Try.underlying9
                have KvT := hid (KvwO.out.below bT)
                have HDT := hid (HDO.out.below bT)
                have HFT := hid (HFO.out.butIn (ButIn.of_below bT))
                have KsT := hid (KsO.out.below bT)
                have HTT := hid (HTO.out.below bT)
                clear bT tT
                have cv0T : wT.cell? ⟨wr.heap.size, 0, none⟩ = some (.slice ba b.length bc) := by rw [KvT.out.cell]; rfl
                have cv1T : wT.cell? ⟨wr.heap.size, 1, none⟩ = some (.bool false) := by rw [KvT.out.cell]; rfl
                have cv2T : wT.cell? ⟨wr.heap.size, 2, none⟩ = some (.int .i64 k) := by rw [KvT.out.cell]; rfl
                have cv3T : wT.cell? ⟨wr.heap.size, 3, none⟩ = some (.slice ka ks.length kc) := by rw [KvT.out.cell]; rfl
                have cv4T : wT.cell? ⟨wr.heap.size, 4, none⟩ = some (.bool true) := by rw [KvT.out.cell]; rfl
                go_wp2_with fail
                exact ⟨⟨j + 1, q2, t + 1, b, by omega, by first | rfl | simp, rfl, rfl, by first | rfl | simp, by omega, ⟨HBT.out, ⟨_, _, _, _, HDT.out, HFT.out, HKR.out⟩, ⟨_, _, KsT.out, HTT.out⟩, by omega, by omega, by omega⟩⟩, by simp [intOf]; omega⟩
      · skip
        go_wp2_with (first
          | (refine wpList_index_s 5 rfl 46 _ _ rfl Try.underlying46 size_deed13 x o ln lc rfl _ _ rfl j rfl hlt ?_)
          | (refine wpList_load_mid rfl 51 _ rfl x (o + j * 5) rfl _ _ HRg.out Try.underlying51 rfl size_deed13 ?_))
        clear cv0w cv1w cv2w cv3w cv4w
        refine (fail_all _ [p, bb, q] p bb 100 2 B _ _ _ _ _ HDw.out k hkk ka kc ks (by simp) (by have := HDw.out.kp.lt; have := HDw.out.kb.lt; have := Ksw.out.lt; simp only [List.mem_cons, List.not_mem_nil, or_false, forall_eq_or_imp, forall_eq]; omega) (HI0.out.base HBw.out (by simp only [List.mem_cons, List.not_mem_nil, or_false, forall_eq_or_imp, forall_eq]; omega)) (by omega) hkn hkw).mono ?_
        rintro e wF ⟨rfl, bF, set1, af1, kv1, dF, fF⟩
        have HBF := hid ((ButIn.of_but (S := [p]) bF (by simp)).below HBw.out HBw.out.size (by simpa using hp))
        have KvF := hid (bF.blk Kvw.out (by omega))
        have HDF := hid dF
        have HFF := hid fF
        have KsF := hid (bF.blk Ksw.out (by omega))
        clear bF dF fF
        have cv0F : wF.cell? ⟨wr.heap.size, 0, none⟩ = some (.slice ba b.length bc) := by rw [KvF.out.cell]; rfl
        have cv1F : wF.cell? ⟨wr.heap.size, 1, none⟩ = some (.bool true) := by rw [KvF.out.cell]; rfl
        have cv2F : wF.cell? ⟨wr.heap.size, 2, none⟩ = some (.int .i64 k) := by rw [KvF.out.cell]; rfl
        have cv3F : wF.cell? ⟨wr.heap.size, 3, none⟩ = some (.slice ka ks.length kc) := by rw [KvF.out.cell]; rfl
        have cv4F : wF.cell? ⟨wr.heap.size, 4, none⟩ = some (.bool ag) := by rw [KvF.out.cell]; rfl
        go_wp2_with fail
        clear cv0F cv1F cv2F cv3F cv4F
        refine (replace_all _ q p bb 100 2 B _ _ _ 0 t _ ba b.length bc b HDF.out HFF.out KsF.out (HT0.out.base HBF.out (by simp only [List.mem_cons, List.not_mem_nil, or_false, forall_eq_or_imp, forall_eq]; omega)) (by omega) (by omega) (by omega) hne).mono ?_
        rintro e wR ⟨bR, hR⟩
        have HBR := hid (bR.below HBF.out HBF.out.size (by simp only [List.mem_cons, List.not_mem_nil, or_false, forall_eq_or_imp, forall_eq]; omega))
        have hszR := HBR.out.size
        cases ag
        · skip
          have KvR := hid (bR.blk KvF.out (by simp; omega))
          clear bR
          have cv0R : wR.cell? ⟨wr.heap.size, 0, none⟩ = some (.slice ba b.length bc) := by rw [KvR.out.cell]; rfl
          have cv1R : wR.cell? ⟨wr.heap.size, 1, none⟩ = some (.bool true) := by rw [KvR.out.cell]; rfl
          have cv2R : wR.cell? ⟨wr.heap.size, 2, none⟩ = some (.int .i64 k) := by rw [KvR.out.cell]; rfl
          have cv3R : wR.cell? ⟨wr.heap.size, 3, none⟩ = some (.slice ka ks.length kc) := by rw [KvR.out.cell]; rfl
          have cv4R : wR.cell? ⟨wr.heap.size, 4, none⟩ = some (.bool false) := by rw [KvR.out.cell]; rfl
          have hcvR := (HT0.out.below HBR.out).string (src := 31) (dst := 9) Try.underlying31 Try.underlying5 Try.underlying9
          obtain ⟨rfl, ⟨set2, af2, kv2, dR, fR⟩, a2, c2, kR, tR, -⟩ | ⟨rfl, B2, set2, af2, kv2, hB2, dR, kR⟩ := hR
          · skip
            rw [Nat.zero_add] at dR
            have hKp := HKeep.out.whole (b := b) (by omega) (by omega)
            obtain ⟨B2, hB2⟩ : ∃ B2, putS 100 ((t + 1) % 2) (slotB 100 (t + 1) b) 100 B = B2 := ⟨_, rfl⟩
            rw [hB2] at dR hKp
            clear hB2
            have HKR := hid hKp
            have HDR := hid dR
            have HFR := hid fR
            have KsR := hid (show Blk wR q (slC p (0 : Nat) ((t + 1 : Nat) : Int) (.slice a2 b.length c2) false) 88 from kR)
            have HTR := hid tR
            clear dR fR kR tR hKp
            go_wp2_with fail
            clear hcvR
            clear cv0R cv1R cv2R cv3R cv4R
            have KvwR := hid KvR.out
            refine (text_any wR q p _ _ _ b.length _ b _ KsR.out HTR.out (by omega)).mono ?_
            rintro e wT ⟨aT, cT, rfl, bT, tT, -⟩
            have HBT := hid (Below.on HBR.out bT)
            have hcvT := tT.string (src := 31) (dst := 9) Try.underlying31 Try.underlying5 Try.underlying9
            have hcvB := (HT0.out.below HBT.out).string (src := 31) (dst := 9) Try.underlying31 Try.underlying5 Try.underlying9
            have KvT := hid (KvwR.out.below bT)
            have HDT := hid (HDR.out.below bT)
            have HFT := hid (HFR.out.butIn (ButIn.of_below bT))
            have KsT := hid (KsR.out.below bT)
            have HTT := hid (HTR.out.below bT)
            clear bT tT
            have cv0T : wT.cell? ⟨wr.heap.size, 0, none⟩ = some (.slice ba b.length bc) := by rw [KvT.out.cell]; rfl
            have cv1T : wT.cell? ⟨wr.heap.size, 1, none⟩ = some (.bool true) := by rw [KvT.out.cell]; rfl
            have cv2T : wT.cell? ⟨wr.heap.size, 2, none⟩ = some (.int .i64 k) := by rw [KvT.out.cell]; rfl
            have cv3T : wT.cell? ⟨wr.heap.size, 3, none⟩ = some (.slice ka ks.length kc) := by rw [KvT.out.cell]; rfl
            have cv4T : wT.cell? ⟨wr.heap.size, 4, none⟩ = some (.bool false) := by rw [KvT.out.cell]; rfl
            go_wp2_with fail
            exact ⟨⟨j + 1, q, t + 1, b, by omega, by first | rfl | simp, rfl, rfl, by first | rfl | simp, by omega, ⟨HBT.out, ⟨_, _, _, _, HDT.out, HFT.out, HKR.out⟩, ⟨_, _, KsT.out, HTT.out⟩, hql, hne, by omega⟩⟩, by simp [intOf]; omega⟩
          · skip
            rw [Nat.zero_add] at hB2
            have hKp := HKeep.out.torn (b := b) (by omega) (by omega) (by omega) hB2
            have HDR := hid dR
            clear dR kR hB2
            go_wp2_with fail
            clear hcvR
            clear cv0R cv1R cv2R cv3R cv4R
            obtain hKp | hKp := hKp
            · have HKR := hid hKp
              clear hKp
              refine (crash_all wR p bb 100 2 B2 _ _ _ _ ka kc ks (HI0.out.base HBR.out (by simp only [List.mem_cons, List.not_mem_nil, or_false, forall_eq_or_imp, forall_eq]; omega)) hkw HDR.out).mono ?_
              rintro e wC ⟨rfl, bC, dC⟩
              have HBC := hid (bC.below HBR.out HBR.out.size (by simp only [List.mem_cons, List.not_mem_nil, or_false, forall_eq_or_imp, forall_eq]; omega))
              have KvC := hid (bC.blk KvR.out (by simp; omega))
              have HDC := hid dC
              clear bC dC
              go_wp2_with fail
              refine (boot_any wC p bb 100 2 B2 _ _ _ _ _ HDC.out).mono ?_
              rintro e wB ⟨rfl, bB, dB⟩
              have HBB := hid ((ButIn.of_but (S := [p]) bB (by simp)).below HBC.out HBC.out.size (by simpa using hp))
              have KvB := hid (bB.blk KvC.out (by omega))
              have HDB := hid dB
              have hszB := HBB.out.size
              clear bB dB
              go_wp2_with fail
              refine (open_good wB p bb 100 2 B2 false 0 _ 0 HDB.out (by omega) (by omega)).mono ?_
              rintro e wO ⟨q2, ta2, tn2, tc2, rfl, hq2, bO, kO, tO⟩
              rw [(HKR.out).open (by omega) (by omega) (by omega)] at kO tO
              have hpO := HDB.out.kp.lt
              have hbO := HDB.out.kb.lt
              obtain rfl := tO.text.length
              have HBO := hid (Below.on HBB.out bO)
              have KvwO := hid (KvB.out.below bO)
              have HDO := hid (HDB.out.below bO)
              have HFO := hid (show FailAt wO [p, bb, q2] false 0 (.slice none 0 0) from .inl rfl)
              have KsO := hid (show Blk wO q2 (slC p (0 : Nat) ((t : Nat) : Int) (.slice ta2 (now).length tc2) false) 88 from kO)
              have HTO := hid tO.text
              clear bO kO tO
              have cv0O : wO.cell? ⟨wr.heap.size, 0, none⟩ = some (.slice ba b.length bc) := by rw [KvwO.out.cell]; rfl
              have cv1O : wO.cell? ⟨wr.heap.size, 1, none⟩ = some (.bool true) := by rw [KvwO.out.cell]; rfl
              have cv2O : wO.cell? ⟨wr.heap.size, 2, none⟩ = some (.int .i64 k) := by rw [KvwO.out.cell]; rfl
              have cv3O : wO.cell? ⟨wr.heap.size, 3, none⟩ = some (.slice ka ks.length kc) := by rw [KvwO.out.cell]; rfl
              have cv4O : wO.cell? ⟨wr.heap.size, 4, none⟩ = some (.bool false) := by rw [KvwO.out.cell]; rfl
              go_wp2_with fail
              clear cv0O cv1O cv2O cv3O cv4O
              refine (text_any wO q2 p _ _ _ now.length _ now _ KsO.out HTO.out (by omega)).mono ?_
              rintro e wT ⟨aT, cT, rfl, bT, tT, -⟩
              have HBT := hid (Below.on HBO.out bT)
              have hcvT := tT.string (src := 31) (dst := 9) Try.underlying31 Try.underlying5 Try.underlying9
              have hcvB := (HT0.out.below HBT.out).string (src := 31) (dst := 9) Try.underlying31 Try.underlying5 Try.underlying9
              have KvT := hid (KvwO.out.below bT)
              have HDT := hid (HDO.out.below bT)
              have HFT := hid (HFO.out.butIn (ButIn.of_below bT))
              have KsT := hid (KsO.out.below bT)
              have HTT := hid (HTO.out.below bT)
              clear bT tT
              have cv0T : wT.cell? ⟨wr.heap.size, 0, none⟩ = some (.slice ba b.length bc) := by rw [KvT.out.cell]; rfl
              have cv1T : wT.cell? ⟨wr.heap.size, 1, none⟩ = some (.bool true) := by rw [KvT.out.cell]; rfl
              have cv2T : wT.cell? ⟨wr.heap.size, 2, none⟩ = some (.int .i64 k) := by rw [KvT.out.cell]; rfl
              have cv3T : wT.cell? ⟨wr.heap.size, 3, none⟩ = some (.slice ka ks.length kc) := by rw [KvT.out.cell]; rfl
              have cv4T : wT.cell? ⟨wr.heap.size, 4, none⟩ = some (.bool false) := by rw [KvT.out.cell]; rfl
              go_wp2_with fail
              exact ⟨⟨j + 1, q2, t, now, by omega, by first | rfl | simp, rfl, rfl, by first | rfl | simp, by omega, ⟨HBT.out, ⟨_, _, _, _, HDT.out, HFT.out, HKR.out⟩, ⟨_, _, KsT.out, HTT.out⟩, by omega, by omega, by omega⟩⟩, by simp [intOf]; omega⟩
            · have HKR := hid hKp
              clear hKp
              have hqs := eqStrB hbs hnow
              by_cases hbn : b = now
              · subst hbn
                refine (crash_all wR p bb 100 2 B2 _ _ _ _ ka kc ks (HI0.out.base HBR.out (by simp only [List.mem_cons, List.not_mem_nil, or_false, forall_eq_or_imp, forall_eq]; omega)) hkw HDR.out).mono ?_
                rintro e wC ⟨rfl, bC, dC⟩
                have HBC := hid (bC.below HBR.out HBR.out.size (by simp only [List.mem_cons, List.not_mem_nil, or_false, forall_eq_or_imp, forall_eq]; omega))
                have KvC := hid (bC.blk KvR.out (by simp; omega))
                have HDC := hid dC
                clear bC dC
                go_wp2_with fail
                refine (boot_any wC p bb 100 2 B2 _ _ _ _ _ HDC.out).mono ?_
                rintro e wB ⟨rfl, bB, dB⟩
                have HBB := hid ((ButIn.of_but (S := [p]) bB (by simp)).below HBC.out HBC.out.size (by simpa using hp))
                have KvB := hid (bB.blk KvC.out (by omega))
                have HDB := hid dB
                have hszB := HBB.out.size
                clear bB dB
                go_wp2_with fail
                refine (open_good wB p bb 100 2 B2 false 0 _ 0 HDB.out (by omega) (by omega)).mono ?_
                rintro e wO ⟨q2, ta2, tn2, tc2, rfl, hq2, bO, kO, tO⟩
                rw [(HKR.out).open (by omega) (by omega) (by omega)] at kO tO
                have hpO := HDB.out.kp.lt
                have hbO := HDB.out.kb.lt
                obtain rfl := tO.text.length
                have HBO := hid (Below.on HBB.out bO)
                have KvwO := hid (KvB.out.below bO)
                have HDO := hid (HDB.out.below bO)
                have HFO := hid (show FailAt wO [p, bb, q2] false 0 (.slice none 0 0) from .inl rfl)
                have KsO := hid (show Blk wO q2 (slC p (0 : Nat) ((t + 1 : Nat) : Int) (.slice ta2 (b).length tc2) false) 88 from kO)
                have HTO := hid tO.text
                clear bO kO tO
                have cv0O : wO.cell? ⟨wr.heap.size, 0, none⟩ = some (.slice ba b.length bc) := by rw [KvwO.out.cell]; rfl
                have cv1O : wO.cell? ⟨wr.heap.size, 1, none⟩ = some (.bool true) := by rw [KvwO.out.cell]; rfl
                have cv2O : wO.cell? ⟨wr.heap.size, 2, none⟩ = some (.int .i64 k) := by rw [KvwO.out.cell]; rfl
                have cv3O : wO.cell? ⟨wr.heap.size, 3, none⟩ = some (.slice ka ks.length kc) := by rw [KvwO.out.cell]; rfl
                have cv4O : wO.cell? ⟨wr.heap.size, 4, none⟩ = some (.bool false) := by rw [KvwO.out.cell]; rfl
                go_wp2_with fail
                clear cv0O cv1O cv2O cv3O cv4O
                refine (text_any wO q2 p _ _ _ b.length _ b _ KsO.out HTO.out (by omega)).mono ?_
                rintro e wT ⟨aT, cT, rfl, bT, tT, -⟩
                have HBT := hid (Below.on HBO.out bT)
                have hcvT := tT.string (src := 31) (dst := 9) Try.underlying31 Try.underlying5 Try.underlying9
                have hcvB := (HT0.out.below HBT.out).string (src := 31) (dst := 9) Try.underlying31 Try.underlying5 Try.underlying9
                have KvT := hid (KvwO.out.below bT)
                have HDT := hid (HDO.out.below bT)
                have HFT := hid (HFO.out.butIn (ButIn.of_below bT))
                have KsT := hid (KsO.out.below bT)
                have HTT := hid (HTO.out.below bT)
                clear bT tT
                have cv0T : wT.cell? ⟨wr.heap.size, 0, none⟩ = some (.slice ba b.length bc) := by rw [KvT.out.cell]; rfl
                have cv1T : wT.cell? ⟨wr.heap.size, 1, none⟩ = some (.bool true) := by rw [KvT.out.cell]; rfl
                have cv2T : wT.cell? ⟨wr.heap.size, 2, none⟩ = some (.int .i64 k) := by rw [KvT.out.cell]; rfl
                have cv3T : wT.cell? ⟨wr.heap.size, 3, none⟩ = some (.slice ka ks.length kc) := by rw [KvT.out.cell]; rfl
                have cv4T : wT.cell? ⟨wr.heap.size, 4, none⟩ = some (.bool false) := by rw [KvT.out.cell]; rfl
                go_wp2_with fail
                exact ⟨⟨j + 1, q2, t + 1, b, by omega, by first | rfl | simp, rfl, rfl, by first | rfl | simp, by omega, ⟨HBT.out, ⟨_, _, _, _, HDT.out, HFT.out, HKR.out⟩, ⟨_, _, KsT.out, HTT.out⟩, by omega, by omega, by omega⟩⟩, by simp [intOf]; omega⟩
              · rw [decide_eq_false hbn] at hqs
                refine (crash_all wR p bb 100 2 B2 _ _ _ _ ka kc ks (HI0.out.base HBR.out (by simp only [List.mem_cons, List.not_mem_nil, or_false, forall_eq_or_imp, forall_eq]; omega)) hkw HDR.out).mono ?_
                rintro e wC ⟨rfl, bC, dC⟩
                have HBC := hid (bC.below HBR.out HBR.out.size (by simp only [List.mem_cons, List.not_mem_nil, or_false, forall_eq_or_imp, forall_eq]; omega))
                have KvC := hid (bC.blk KvR.out (by simp; omega))
                have HDC := hid dC
                clear bC dC
                go_wp2_with fail
                refine (boot_any wC p bb 100 2 B2 _ _ _ _ _ HDC.out).mono ?_
                rintro e wB ⟨rfl, bB, dB⟩
                have HBB := hid ((ButIn.of_but (S := [p]) bB (by simp)).below HBC.out HBC.out.size (by simpa using hp))
                have KvB := hid (bB.blk KvC.out (by omega))
                have HDB := hid dB
                have hszB := HBB.out.size
                clear bB dB
                go_wp2_with fail
                refine (open_good wB p bb 100 2 B2 false 0 _ 0 HDB.out (by omega) (by omega)).mono ?_
                rintro e wO ⟨q2, ta2, tn2, tc2, rfl, hq2, bO, kO, tO⟩
                rw [(HKR.out).open (by omega) (by omega) (by omega)] at kO tO
                have hpO := HDB.out.kp.lt
                have hbO := HDB.out.kb.lt
                obtain rfl := tO.text.length
                have HBO := hid (Below.on HBB.out bO)
                have KvwO := hid (KvB.out.below bO)
                have HDO := hid (HDB.out.below bO)
                have HFO := hid (show FailAt wO [p, bb, q2] false 0 (.slice none 0 0) from .inl rfl)
                have KsO := hid (show Blk wO q2 (slC p (0 : Nat) ((t + 1 : Nat) : Int) (.slice ta2 (b).length tc2) false) 88 from kO)
                have HTO := hid tO.text
                clear bO kO tO
                have cv0O : wO.cell? ⟨wr.heap.size, 0, none⟩ = some (.slice ba b.length bc) := by rw [KvwO.out.cell]; rfl
                have cv1O : wO.cell? ⟨wr.heap.size, 1, none⟩ = some (.bool true) := by rw [KvwO.out.cell]; rfl
                have cv2O : wO.cell? ⟨wr.heap.size, 2, none⟩ = some (.int .i64 k) := by rw [KvwO.out.cell]; rfl
                have cv3O : wO.cell? ⟨wr.heap.size, 3, none⟩ = some (.slice ka ks.length kc) := by rw [KvwO.out.cell]; rfl
                have cv4O : wO.cell? ⟨wr.heap.size, 4, none⟩ = some (.bool false) := by rw [KvwO.out.cell]; rfl
                go_wp2_with fail
                clear cv0O cv1O cv2O cv3O cv4O
                refine (text_any wO q2 p _ _ _ b.length _ b _ KsO.out HTO.out (by omega)).mono ?_
                rintro e wT ⟨aT, cT, rfl, bT, tT, -⟩
                have HBT := hid (Below.on HBO.out bT)
                have hcvT := tT.string (src := 31) (dst := 9) Try.underlying31 Try.underlying5 Try.underlying9
                have hcvB := (HT0.out.below HBT.out).string (src := 31) (dst := 9) Try.underlying31 Try.underlying5 Try.underlying9
                have KvT := hid (KvwO.out.below bT)
                have HDT := hid (HDO.out.below bT)
                have HFT := hid (HFO.out.butIn (ButIn.of_below bT))
                have KsT := hid (KsO.out.below bT)
                have HTT := hid (HTO.out.below bT)
                clear bT tT
                have cv0T : wT.cell? ⟨wr.heap.size, 0, none⟩ = some (.slice ba b.length bc) := by rw [KvT.out.cell]; rfl
                have cv1T : wT.cell? ⟨wr.heap.size, 1, none⟩ = some (.bool true) := by rw [KvT.out.cell]; rfl
                have cv2T : wT.cell? ⟨wr.heap.size, 2, none⟩ = some (.int .i64 k) := by rw [KvT.out.cell]; rfl
                have cv3T : wT.cell? ⟨wr.heap.size, 3, none⟩ = some (.slice ka ks.length kc) := by rw [KvT.out.cell]; rfl
                have cv4T : wT.cell? ⟨wr.heap.size, 4, none⟩ = some (.bool false) := by rw [KvT.out.cell]; rfl
                go_wp2_with fail
                exact ⟨⟨j + 1, q2, t + 1, b, by omega, by first | rfl | simp, rfl, rfl, by first | rfl | simp, by omega, ⟨HBT.out, ⟨_, _, _, _, HDT.out, HFT.out, HKR.out⟩, ⟨_, _, KsT.out, HTT.out⟩, by omega, by omega, by omega⟩⟩, by simp [intOf]; omega⟩
        · skip
          have KvR := hid (bR.blk KvF.out (by simp; omega))
          clear bR
          have cv0R : wR.cell? ⟨wr.heap.size, 0, none⟩ = some (.slice ba b.length bc) := by rw [KvR.out.cell]; rfl
          have cv1R : wR.cell? ⟨wr.heap.size, 1, none⟩ = some (.bool true) := by rw [KvR.out.cell]; rfl
          have cv2R : wR.cell? ⟨wr.heap.size, 2, none⟩ = some (.int .i64 k) := by rw [KvR.out.cell]; rfl
          have cv3R : wR.cell? ⟨wr.heap.size, 3, none⟩ = some (.slice ka ks.length kc) := by rw [KvR.out.cell]; rfl
          have cv4R : wR.cell? ⟨wr.heap.size, 4, none⟩ = some (.bool true) := by rw [KvR.out.cell]; rfl
          have hcvR := (HT0.out.below HBR.out).string (src := 31) (dst := 9) Try.underlying31 Try.underlying5 Try.underlying9
          obtain ⟨rfl, ⟨set2, af2, kv2, dR, fR⟩, a2, c2, kR, tR, -⟩ | ⟨rfl, B2, set2, af2, kv2, hB2, dR, kR⟩ := hR
          · skip
            rw [Nat.zero_add] at dR
            have hKp := HKeep.out.whole (b := b) (by omega) (by omega)
            obtain ⟨B2, hB2⟩ : ∃ B2, putS 100 ((t + 1) % 2) (slotB 100 (t + 1) b) 100 B = B2 := ⟨_, rfl⟩
            rw [hB2] at dR hKp
            clear hB2
            have HKR := hid hKp
            have HDR := hid dR
            have HFR := hid fR
            have KsR := hid (show Blk wR q (slC p (0 : Nat) ((t + 1 : Nat) : Int) (.slice a2 b.length c2) false) 88 from kR)
            have HTR := hid tR
            clear dR fR kR tR hKp
            go_wp2_with fail
            clear hcvR
            clear cv0R cv1R cv2R cv3R cv4R
            refine (crash_all wR p bb 100 2 B2 _ _ _ _ ka kc ks (HI0.out.base HBR.out (by simp only [List.mem_cons, List.not_mem_nil, or_false, forall_eq_or_imp, forall_eq]; omega)) hkw HDR.out).mono ?_
            rintro e wC ⟨rfl, bC, dC⟩
            have HBC := hid (bC.below HBR.out HBR.out.size (by simp only [List.mem_cons, List.not_mem_nil, or_false, forall_eq_or_imp, forall_eq]; omega))
            have KvC := hid (bC.blk KvR.out (by simp; omega))
            have HDC := hid dC
            clear bC dC
            go_wp2_with fail
            refine (boot_any wC p bb 100 2 B2 _ _ _ _ _ HDC.out).mono ?_
            rintro e wB ⟨rfl, bB, dB⟩
            have HBB := hid ((ButIn.of_but (S := [p]) bB (by simp)).below HBC.out HBC.out.size (by simpa using hp))
            have KvB := hid (bB.blk KvC.out (by omega))
            have HDB := hid dB
            have hszB := HBB.out.size
            clear bB dB
            go_wp2_with fail
            refine (open_good wB p bb 100 2 B2 false 0 _ 0 HDB.out (by omega) (by omega)).mono ?_
            rintro e wO ⟨q2, ta2, tn2, tc2, rfl, hq2, bO, kO, tO⟩
            rw [(HKR.out).open (by omega) (by omega) (by omega)] at kO tO
            have hpO := HDB.out.kp.lt
            have hbO := HDB.out.kb.lt
            obtain rfl := tO.text.length
            have HBO := hid (Below.on HBB.out bO)
            have KvwO := hid (KvB.out.below bO)
            have HDO := hid (HDB.out.below bO)
            have HFO := hid (show FailAt wO [p, bb, q2] false 0 (.slice none 0 0) from .inl rfl)
            have KsO := hid (show Blk wO q2 (slC p (0 : Nat) ((t + 1 : Nat) : Int) (.slice ta2 (b).length tc2) false) 88 from kO)
            have HTO := hid tO.text
            clear bO kO tO
            have cv0O : wO.cell? ⟨wr.heap.size, 0, none⟩ = some (.slice ba b.length bc) := by rw [KvwO.out.cell]; rfl
            have cv1O : wO.cell? ⟨wr.heap.size, 1, none⟩ = some (.bool true) := by rw [KvwO.out.cell]; rfl
            have cv2O : wO.cell? ⟨wr.heap.size, 2, none⟩ = some (.int .i64 k) := by rw [KvwO.out.cell]; rfl
            have cv3O : wO.cell? ⟨wr.heap.size, 3, none⟩ = some (.slice ka ks.length kc) := by rw [KvwO.out.cell]; rfl
            have cv4O : wO.cell? ⟨wr.heap.size, 4, none⟩ = some (.bool true) := by rw [KvwO.out.cell]; rfl
            go_wp2_with fail
            clear cv0O cv1O cv2O cv3O cv4O
            refine (text_any wO q2 p _ _ _ b.length _ b _ KsO.out HTO.out (by omega)).mono ?_
            rintro e wT ⟨aT, cT, rfl, bT, tT, -⟩
            have HBT := hid (Below.on HBO.out bT)
            have hcvT := tT.string (src := 31) (dst := 9) Try.underlying31 Try.underlying5 Try.underlying9
            have hcvB := (HT0.out.below HBT.out).string (src := 31) (dst := 9) Try.underlying31 Try.underlying5 Try.underlying9
            have KvT := hid (KvwO.out.below bT)
            have HDT := hid (HDO.out.below bT)
            have HFT := hid (HFO.out.butIn (ButIn.of_below bT))
            have KsT := hid (KsO.out.below bT)
            have HTT := hid (HTO.out.below bT)
            clear bT tT
            have cv0T : wT.cell? ⟨wr.heap.size, 0, none⟩ = some (.slice ba b.length bc) := by rw [KvT.out.cell]; rfl
            have cv1T : wT.cell? ⟨wr.heap.size, 1, none⟩ = some (.bool true) := by rw [KvT.out.cell]; rfl
            have cv2T : wT.cell? ⟨wr.heap.size, 2, none⟩ = some (.int .i64 k) := by rw [KvT.out.cell]; rfl
            have cv3T : wT.cell? ⟨wr.heap.size, 3, none⟩ = some (.slice ka ks.length kc) := by rw [KvT.out.cell]; rfl
            have cv4T : wT.cell? ⟨wr.heap.size, 4, none⟩ = some (.bool true) := by rw [KvT.out.cell]; rfl
            go_wp2_with fail
            exact ⟨⟨j + 1, q2, t + 1, b, by omega, by first | rfl | simp, rfl, rfl, by first | rfl | simp, by omega, ⟨HBT.out, ⟨_, _, _, _, HDT.out, HFT.out, HKR.out⟩, ⟨_, _, KsT.out, HTT.out⟩, by omega, by omega, by omega⟩⟩, by simp [intOf]; omega⟩
          · skip
            rw [Nat.zero_add] at hB2
            have hKp := HKeep.out.torn (b := b) (by omega) (by omega) (by omega) hB2
            have HDR := hid dR
            clear dR kR hB2
            go_wp2_with fail
            clear hcvR
            clear cv0R cv1R cv2R cv3R cv4R
            obtain hKp | hKp := hKp
            · have HKR := hid hKp
              clear hKp
              refine (crash_all wR p bb 100 2 B2 _ _ _ _ ka kc ks (HI0.out.base HBR.out (by simp only [List.mem_cons, List.not_mem_nil, or_false, forall_eq_or_imp, forall_eq]; omega)) hkw HDR.out).mono ?_
              rintro e wC ⟨rfl, bC, dC⟩
              have HBC := hid (bC.below HBR.out HBR.out.size (by simp only [List.mem_cons, List.not_mem_nil, or_false, forall_eq_or_imp, forall_eq]; omega))
              have KvC := hid (bC.blk KvR.out (by simp; omega))
              have HDC := hid dC
              clear bC dC
              go_wp2_with fail
              refine (boot_any wC p bb 100 2 B2 _ _ _ _ _ HDC.out).mono ?_
              rintro e wB ⟨rfl, bB, dB⟩
              have HBB := hid ((ButIn.of_but (S := [p]) bB (by simp)).below HBC.out HBC.out.size (by simpa using hp))
              have KvB := hid (bB.blk KvC.out (by omega))
              have HDB := hid dB
              have hszB := HBB.out.size
              clear bB dB
              go_wp2_with fail
              refine (open_good wB p bb 100 2 B2 false 0 _ 0 HDB.out (by omega) (by omega)).mono ?_
              rintro e wO ⟨q2, ta2, tn2, tc2, rfl, hq2, bO, kO, tO⟩
              rw [(HKR.out).open (by omega) (by omega) (by omega)] at kO tO
              have hpO := HDB.out.kp.lt
              have hbO := HDB.out.kb.lt
              obtain rfl := tO.text.length
              have HBO := hid (Below.on HBB.out bO)
              have KvwO := hid (KvB.out.below bO)
              have HDO := hid (HDB.out.below bO)
              have HFO := hid (show FailAt wO [p, bb, q2] false 0 (.slice none 0 0) from .inl rfl)
              have KsO := hid (show Blk wO q2 (slC p (0 : Nat) ((t : Nat) : Int) (.slice ta2 (now).length tc2) false) 88 from kO)
              have HTO := hid tO.text
              clear bO kO tO
              have cv0O : wO.cell? ⟨wr.heap.size, 0, none⟩ = some (.slice ba b.length bc) := by rw [KvwO.out.cell]; rfl
              have cv1O : wO.cell? ⟨wr.heap.size, 1, none⟩ = some (.bool true) := by rw [KvwO.out.cell]; rfl
              have cv2O : wO.cell? ⟨wr.heap.size, 2, none⟩ = some (.int .i64 k) := by rw [KvwO.out.cell]; rfl
              have cv3O : wO.cell? ⟨wr.heap.size, 3, none⟩ = some (.slice ka ks.length kc) := by rw [KvwO.out.cell]; rfl
              have cv4O : wO.cell? ⟨wr.heap.size, 4, none⟩ = some (.bool true) := by rw [KvwO.out.cell]; rfl
              go_wp2_with fail
              clear cv0O cv1O cv2O cv3O cv4O
              refine (text_any wO q2 p _ _ _ now.length _ now _ KsO.out HTO.out (by omega)).mono ?_
              rintro e wT ⟨aT, cT, rfl, bT, tT, -⟩
              have HBT := hid (Below.on HBO.out bT)
              have hcvT := tT.string (src := 31) (dst := 9) Try.underlying31 Try.underlying5 Try.underlying9
              have hcvB := (HT0.out.below HBT.out).string (src := 31) (dst := 9) Try.underlying31 Try.underlying5 Try.underlying9
              have KvT := hid (KvwO.out.below bT)
              have HDT := hid (HDO.out.below bT)
              have HFT := hid (HFO.out.butIn (ButIn.of_below bT))
              have KsT := hid (KsO.out.below bT)
              have HTT := hid (HTO.out.below bT)
              clear bT tT
              have cv0T : wT.cell? ⟨wr.heap.size, 0, none⟩ = some (.slice ba b.length bc) := by rw [KvT.out.cell]; rfl
              have cv1T : wT.cell? ⟨wr.heap.size, 1, none⟩ = some (.bool true) := by rw [KvT.out.cell]; rfl
              have cv2T : wT.cell? ⟨wr.heap.size, 2, none⟩ = some (.int .i64 k) := by rw [KvT.out.cell]; rfl
              have cv3T : wT.cell? ⟨wr.heap.size, 3, none⟩ = some (.slice ka ks.length kc) := by rw [KvT.out.cell]; rfl
              have cv4T : wT.cell? ⟨wr.heap.size, 4, none⟩ = some (.bool true) := by rw [KvT.out.cell]; rfl
              go_wp2_with fail
              exact ⟨⟨j + 1, q2, t, now, by omega, by first | rfl | simp, rfl, rfl, by first | rfl | simp, by omega, ⟨HBT.out, ⟨_, _, _, _, HDT.out, HFT.out, HKR.out⟩, ⟨_, _, KsT.out, HTT.out⟩, by omega, by omega, by omega⟩⟩, by simp [intOf]; omega⟩
            · have HKR := hid hKp
              clear hKp
              have hqs := eqStrB hbs hnow
              by_cases hbn : b = now
              · subst hbn
                refine (crash_all wR p bb 100 2 B2 _ _ _ _ ka kc ks (HI0.out.base HBR.out (by simp only [List.mem_cons, List.not_mem_nil, or_false, forall_eq_or_imp, forall_eq]; omega)) hkw HDR.out).mono ?_
                rintro e wC ⟨rfl, bC, dC⟩
                have HBC := hid (bC.below HBR.out HBR.out.size (by simp only [List.mem_cons, List.not_mem_nil, or_false, forall_eq_or_imp, forall_eq]; omega))
                have KvC := hid (bC.blk KvR.out (by simp; omega))
                have HDC := hid dC
                clear bC dC
                go_wp2_with fail
                refine (boot_any wC p bb 100 2 B2 _ _ _ _ _ HDC.out).mono ?_
                rintro e wB ⟨rfl, bB, dB⟩
                have HBB := hid ((ButIn.of_but (S := [p]) bB (by simp)).below HBC.out HBC.out.size (by simpa using hp))
                have KvB := hid (bB.blk KvC.out (by omega))
                have HDB := hid dB
                have hszB := HBB.out.size
                clear bB dB
                go_wp2_with fail
                refine (open_good wB p bb 100 2 B2 false 0 _ 0 HDB.out (by omega) (by omega)).mono ?_
                rintro e wO ⟨q2, ta2, tn2, tc2, rfl, hq2, bO, kO, tO⟩
                rw [(HKR.out).open (by omega) (by omega) (by omega)] at kO tO
                have hpO := HDB.out.kp.lt
                have hbO := HDB.out.kb.lt
                obtain rfl := tO.text.length
                have HBO := hid (Below.on HBB.out bO)
                have KvwO := hid (KvB.out.below bO)
                have HDO := hid (HDB.out.below bO)
                have HFO := hid (show FailAt wO [p, bb, q2] false 0 (.slice none 0 0) from .inl rfl)
                have KsO := hid (show Blk wO q2 (slC p (0 : Nat) ((t + 1 : Nat) : Int) (.slice ta2 (b).length tc2) false) 88 from kO)
                have HTO := hid tO.text
                clear bO kO tO
                have cv0O : wO.cell? ⟨wr.heap.size, 0, none⟩ = some (.slice ba b.length bc) := by rw [KvwO.out.cell]; rfl
                have cv1O : wO.cell? ⟨wr.heap.size, 1, none⟩ = some (.bool true) := by rw [KvwO.out.cell]; rfl
                have cv2O : wO.cell? ⟨wr.heap.size, 2, none⟩ = some (.int .i64 k) := by rw [KvwO.out.cell]; rfl
                have cv3O : wO.cell? ⟨wr.heap.size, 3, none⟩ = some (.slice ka ks.length kc) := by rw [KvwO.out.cell]; rfl
                have cv4O : wO.cell? ⟨wr.heap.size, 4, none⟩ = some (.bool true) := by rw [KvwO.out.cell]; rfl
                go_wp2_with fail
                clear cv0O cv1O cv2O cv3O cv4O
                refine (text_any wO q2 p _ _ _ b.length _ b _ KsO.out HTO.out (by omega)).mono ?_
                rintro e wT ⟨aT, cT, rfl, bT, tT, -⟩
                have HBT := hid (Below.on HBO.out bT)
                have hcvT := tT.string (src := 31) (dst := 9) Try.underlying31 Try.underlying5 Try.underlying9
                have hcvB := (HT0.out.below HBT.out).string (src := 31) (dst := 9) Try.underlying31 Try.underlying5 Try.underlying9
                have KvT := hid (KvwO.out.below bT)
                have HDT := hid (HDO.out.below bT)
                have HFT := hid (HFO.out.butIn (ButIn.of_below bT))
                have KsT := hid (KsO.out.below bT)
                have HTT := hid (HTO.out.below bT)
                clear bT tT
                have cv0T : wT.cell? ⟨wr.heap.size, 0, none⟩ = some (.slice ba b.length bc) := by rw [KvT.out.cell]; rfl
                have cv1T : wT.cell? ⟨wr.heap.size, 1, none⟩ = some (.bool true) := by rw [KvT.out.cell]; rfl
                have cv2T : wT.cell? ⟨wr.heap.size, 2, none⟩ = some (.int .i64 k) := by rw [KvT.out.cell]; rfl
                have cv3T : wT.cell? ⟨wr.heap.size, 3, none⟩ = some (.slice ka ks.length kc) := by rw [KvT.out.cell]; rfl
                have cv4T : wT.cell? ⟨wr.heap.size, 4, none⟩ = some (.bool true) := by rw [KvT.out.cell]; rfl
                go_wp2_with fail
                exact ⟨⟨j + 1, q2, t + 1, b, by omega, by first | rfl | simp, rfl, rfl, by first | rfl | simp, by omega, ⟨HBT.out, ⟨_, _, _, _, HDT.out, HFT.out, HKR.out⟩, ⟨_, _, KsT.out, HTT.out⟩, by omega, by omega, by omega⟩⟩, by simp [intOf]; omega⟩
              · rw [decide_eq_false hbn] at hqs
                refine (crash_all wR p bb 100 2 B2 _ _ _ _ ka kc ks (HI0.out.base HBR.out (by simp only [List.mem_cons, List.not_mem_nil, or_false, forall_eq_or_imp, forall_eq]; omega)) hkw HDR.out).mono ?_
                rintro e wC ⟨rfl, bC, dC⟩
                have HBC := hid (bC.below HBR.out HBR.out.size (by simp only [List.mem_cons, List.not_mem_nil, or_false, forall_eq_or_imp, forall_eq]; omega))
                have KvC := hid (bC.blk KvR.out (by simp; omega))
                have HDC := hid dC
                clear bC dC
                go_wp2_with fail
                refine (boot_any wC p bb 100 2 B2 _ _ _ _ _ HDC.out).mono ?_
                rintro e wB ⟨rfl, bB, dB⟩
                have HBB := hid ((ButIn.of_but (S := [p]) bB (by simp)).below HBC.out HBC.out.size (by simpa using hp))
                have KvB := hid (bB.blk KvC.out (by omega))
                have HDB := hid dB
                have hszB := HBB.out.size
                clear bB dB
                go_wp2_with fail
                refine (open_good wB p bb 100 2 B2 false 0 _ 0 HDB.out (by omega) (by omega)).mono ?_
                rintro e wO ⟨q2, ta2, tn2, tc2, rfl, hq2, bO, kO, tO⟩
                rw [(HKR.out).open (by omega) (by omega) (by omega)] at kO tO
                have hpO := HDB.out.kp.lt
                have hbO := HDB.out.kb.lt
                obtain rfl := tO.text.length
                have HBO := hid (Below.on HBB.out bO)
                have KvwO := hid (KvB.out.below bO)
                have HDO := hid (HDB.out.below bO)
                have HFO := hid (show FailAt wO [p, bb, q2] false 0 (.slice none 0 0) from .inl rfl)
                have KsO := hid (show Blk wO q2 (slC p (0 : Nat) ((t + 1 : Nat) : Int) (.slice ta2 (b).length tc2) false) 88 from kO)
                have HTO := hid tO.text
                clear bO kO tO
                have cv0O : wO.cell? ⟨wr.heap.size, 0, none⟩ = some (.slice ba b.length bc) := by rw [KvwO.out.cell]; rfl
                have cv1O : wO.cell? ⟨wr.heap.size, 1, none⟩ = some (.bool true) := by rw [KvwO.out.cell]; rfl
                have cv2O : wO.cell? ⟨wr.heap.size, 2, none⟩ = some (.int .i64 k) := by rw [KvwO.out.cell]; rfl
                have cv3O : wO.cell? ⟨wr.heap.size, 3, none⟩ = some (.slice ka ks.length kc) := by rw [KvwO.out.cell]; rfl
                have cv4O : wO.cell? ⟨wr.heap.size, 4, none⟩ = some (.bool true) := by rw [KvwO.out.cell]; rfl
                go_wp2_with fail
                clear cv0O cv1O cv2O cv3O cv4O
                refine (text_any wO q2 p _ _ _ b.length _ b _ KsO.out HTO.out (by omega)).mono ?_
                rintro e wT ⟨aT, cT, rfl, bT, tT, -⟩
                have HBT := hid (Below.on HBO.out bT)
                have hcvT := tT.string (src := 31) (dst := 9) Try.underlying31 Try.underlying5 Try.underlying9
                have hcvB := (HT0.out.below HBT.out).string (src := 31) (dst := 9) Try.underlying31 Try.underlying5 Try.underlying9
                have KvT := hid (KvwO.out.below bT)
                have HDT := hid (HDO.out.below bT)
                have HFT := hid (HFO.out.butIn (ButIn.of_below bT))
                have KsT := hid (KsO.out.below bT)
                have HTT := hid (HTO.out.below bT)
                clear bT tT
                have cv0T : wT.cell? ⟨wr.heap.size, 0, none⟩ = some (.slice ba b.length bc) := by rw [KvT.out.cell]; rfl
                have cv1T : wT.cell? ⟨wr.heap.size, 1, none⟩ = some (.bool true) := by rw [KvT.out.cell]; rfl
                have cv2T : wT.cell? ⟨wr.heap.size, 2, none⟩ = some (.int .i64 k) := by rw [KvT.out.cell]; rfl
                have cv3T : wT.cell? ⟨wr.heap.size, 3, none⟩ = some (.slice ka ks.length kc) := by rw [KvT.out.cell]; rfl
                have cv4T : wT.cell? ⟨wr.heap.size, 4, none⟩ = some (.bool true) := by rw [KvT.out.cell]; rfl
                go_wp2_with fail
                exact ⟨⟨j + 1, q2, t + 1, b, by omega, by first | rfl | simp, rfl, rfl, by first | rfl | simp, by omega, ⟨HBT.out, ⟨_, _, _, _, HDT.out, HFT.out, HKR.out⟩, ⟨_, _, KsT.out, HTT.out⟩, by omega, by omega, by omega⟩⟩, by simp [intOf]; omega⟩
    · have hjn : j = ln := by omega
      subst hjn
      have hjI : ¬ (j : Int) < (j : Int) := by omega
      go_wp2_with fail
      refine (knows13 wr).mono ?_
      rintro e w9 ⟨rfl, b9⟩
      have HB9 := hid (Below.on HBr.out b9)
      clear b9
      go_wp2_with fail
      go_returns
      exact ⟨rfl, HB9.out⟩
end Go.Proofs.Ytmpgnpkodapidaa
