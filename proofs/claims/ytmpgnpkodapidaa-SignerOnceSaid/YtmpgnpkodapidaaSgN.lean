/-
  Layer 15: the law SignerAll.
-/
import Derived.Test.YtmpgnpkodapidaaSgM
namespace Go.Proofs.Ytmpgnpkodapidaa
open Go.ChangeShapes Go.WideShapes Go.ChangeAt Go.RowKit

set_option maxHeartbeats 4000000 in
set_option maxRecDepth 100000 in
theorem signerAll_any (t0 b0 : Int) (w : World) (ht : 0 ≤ t0 ∧ t0 < 256) (hb0 : 0 ≤ b0 ∧ b0 < 256) :
    Calls Try.prog 7 #[.int .u8 t0, .int .u8 b0] w fun e w' => e = .returned (.bool true) ∧ Below w.heap.size w w' := by
  have Hb := hid (Below.refl w.heap.size w)
  have e0 : t0.tmod 59 = t0 % 59 := Int.tmod_eq_emod_of_nonneg ht.1
  have e1 : b0.tmod 16 = b0 % 16 := Int.tmod_eq_emod_of_nonneg hb0.1
  have hn2 : 2 ≤ t0 % 59 + 2 ∧ t0 % 59 + 2 ≤ 60 := by omega
  have hb2 : 1 ≤ b0 % 16 + 1 ∧ b0 % 16 + 1 ≤ 16 := by omega
  have m0 : 0 ≤ t0.tmod 59 ∧ t0.tmod 59 < 59 := by omega
  have m1 : 0 ≤ b0.tmod 16 ∧ b0.tmod 16 < 16 := by omega
  go_enter Try.func7, Try.ntmps7
  go_wp2_with fail
  clear e0 e1 m0 m1
  generalize t0 % 59 + 2 = n at *
  generalize b0 % 16 + 1 = b at *
  refine (new_good w 2 400 (by omega) (by omega) (by omega) (by omega)).mono ?_
  rintro e w1 ⟨p, bb, rfl, hp, hbb, b1, d1⟩
  have HB1 := hid b1
  have HD1 := hid d1
  have hs1 := b1.size
  have hpl := d1.kp.lt
  have hbl := d1.kb.lt
  clear b1 d1
  go_wp2_with fail
  refine (new_any w1).mono ?_
  rintro e w2 ⟨rfl, b2, f2⟩
  have HB2 := hid (Below.on HB1.out b2)
  have HD2 := hid (HD1.out.below b2)
  have HF2 := hid f2
  have hs2 := b2.size
  have hfl := f2.lt
  clear b2 f2
  go_wp2_with fail
  refine (sopen_fresh w2 w1.heap.size p bb _ n b HD2.out HF2.out (by omega) (by omega) (by omega) (by omega)).mono ?_
  rintro e w3 ⟨s, q, rfl, hs, hq, hsz, b3, g3⟩
  have HB3 := hid (b3.below HB2.out (by omega) (by simp only [List.mem_cons, List.not_mem_nil, or_false, forall_eq_or_imp, forall_eq]; omega))
  have HG3 := hid g3
  clear b3 g3
  go_wp2_with fail
  go_loopw [11] (fun kv wr => ∃ (k T : Nat) (r ik ii : Int) (m : List Int), k ≤ 2 ∧ kv = .int .i64 k ∧ T ≤ 1 + k * 61 ∧ m.length ≠ 3 ∧ SgAt wr s q w1.heap.size p bb T 1 k r ik ii m 0 n b ∧ Below w.heap.size w wr) (fun kv _ => 2 - (intOf kv).toNat)
  case atStart => exact ⟨0, 1, 0, 0, 0, [], by omega, rfl, by omega, by simp, HG3.out, HB3.out⟩
  case round =>
    obtain ⟨k, T, r, ik, ii, m, hk, rfl, hT, hm, hg, bel⟩ := hrel
    have HG := hid hg
    have HBr := hid bel
    clear hg bel
    by_cases hlt : k < 2
    · skip
      have hkI : (k : Int) < 2 := by omega
      go_wp2_with fail
      go_loopw [12] (fun iv wr => ∃ (i T : Nat) (r ik ii : Int) (m : List Int), (i : Int) ≤ n - 1 ∧ iv = .int .i64 i ∧ T ≤ 1 + k * 61 + i ∧ (i = 0 ∧ m.length ≠ 3 ∨ 1 ≤ i ∧ m = [(k : Int), (i : Int) - 1, 7]) ∧ SgAt wr s q w1.heap.size p bb T 1 k r ik ii m i n b ∧ Below w.heap.size w wr) (fun iv _ => (n - 1).toNat - (intOf iv).toNat)
      case atStart => exact ⟨0, T, r, ik, ii, m, by omega, rfl, by omega, .inl ⟨rfl, hm⟩, HG.out, HBr.out⟩
      case round =>
        clear hT hm HG HBr
        obtain ⟨i, T, r, ik, ii, m, hi, rfl, hT, hm, hg, bel⟩ := hrel
        have HG := hid hg
        have HBi := hid bel
        have hwr := bel.size
        clear hg bel
        by_cases hlt2 : (i : Int) < n - 1
        · skip
          have hbk : (k : Int) % 256 = k := by omega
          have hbi : (i : Int) % 256 = i := by omega
          go_wp2_with fail
          have M := HG.out.made [(k : Int), (i : Int), 7] 3 rfl (by omega) (by simp only [List.mem_cons, List.not_mem_nil, or_false, forall_eq_or_imp, forall_eq]; omega) 5 (0, 0)
          have HA := hid M.1
          have HT := hid M.2
          have HBA := hid (Below.on HBi.out ((Below.refl _ _).alloc (Nat.le_refl _) (.cells (List.map (Value.int .u8) [(k : Int), (i : Int), 7]).toArray 5 (0, 0))))
          have hz := HBA.out.size
          have hl := HA.out.lts
          clear M
          refine (deal_new _ s q _ p bb T 1 k r ik ii m i n b _ 3 3 [(k : Int), (i : Int), 7] HA.out HT.out (by omega) (by omega) (by
            rcases hm with ⟨h1, h2⟩ | ⟨h1, h2⟩
            · intro e; apply h2; rw [e]; rfl
            · rw [h2]; simp only [List.cons.injEq, and_true, true_and]; omega) (by omega) (by omega)).mono ?_
          rintro e w5 ⟨r5, rfl, b5, g5⟩
          have HB5 := hid (b5.below HBA.out (by omega) (by simp only [List.mem_cons, List.not_mem_nil, or_false, forall_eq_or_imp, forall_eq]; omega))
          have HG5 := hid g5
          have HT5 := hid (HT.out.butIn b5)
          clear b5 g5
          go_wp2_with fail
          refine (deal_again w5 s q _ p bb (T + 1) 1 k r5 k i [(k : Int), (i : Int), 7] (i + 1) n b _ 3 3 [(k : Int), (i : Int), 7] HG5.out HT5.out (by omega) (by omega) rfl).mono ?_
          rintro e w6 ⟨rfl, b6⟩
          have HB6 := hid (Below.on HB5.out b6)
          have HG6 := hid (HG5.out.below b6)
          clear b6
          go_wp2_with fail
          exact ⟨⟨i + 1, T + 1, r5, k, i, [(k : Int), (i : Int), 7], by omega, by first | rfl | simp, by omega, .inr ⟨by omega, by simp⟩, HG6.out, HB6.out⟩, by simp [intOf]; omega⟩
        · skip
          go_wp2_with fail
          have hm3 : m.length = 3 := by
            rcases hm with ⟨h1, h2⟩ | ⟨h1, h2⟩
            · omega
            · rw [h2]; rfl
          have M := HG.out.made [9] 1 rfl (by omega) (by simp) 5 (0, 0)
          have HA := hid M.1
          have HT := hid M.2
          have HBA := hid (Below.on HBi.out ((Below.refl _ _).alloc (Nat.le_refl _) (.cells (List.map (Value.int .u8) [9]).toArray 5 (0, 0))))
          clear M
          refine (deal_spent _ s q _ p bb T 1 k r ik ii m i n b _ 1 1 [9] HA.out HT.out (by omega) (by omega) (by intro e; rw [e] at hm3; simp at hm3) (by omega)).mono ?_
          rintro e w7 ⟨rfl, b7⟩
          have HB7 := hid (Below.on HBA.out b7)
          have HG7 := hid (HA.out.below b7)
          have hs7 := HB7.out.size
          clear b7 HA HT HBA
          have hbk : (k : Int) % 256 = k := by omega
          go_wp2_with fail
          have M := HG7.out.made [(k : Int), 8] 2 rfl (by omega) (by simp only [List.mem_cons, List.not_mem_nil, or_false, forall_eq_or_imp, forall_eq]; omega) 5 (0, 0)
          have HA := hid M.1
          have HT := hid M.2
          have HBA := hid (Below.on HB7.out ((Below.refl _ _).alloc (Nat.le_refl _) (.cells (List.map (Value.int .u8) [(k : Int), 8]).toArray 5 (0, 0))))
          have hz := HBA.out.size
          have hl := HA.out.lts
          clear M
          refine (roll_new _ s q _ p bb T 1 k r ik ii m i n b _ 2 2 [(k : Int), 8] HA.out HT.out (by omega) (by omega) (by intro e; rw [e] at hm3; simp at hm3) (by omega) (by omega) (by omega)).mono ?_
          rintro e w8 ⟨rfl, b8, g8⟩
          have HB8 := hid (b8.below HBA.out (by omega) (by simp only [List.mem_cons, List.not_mem_nil, or_false, forall_eq_or_imp, forall_eq]; omega))
          have HG8 := hid g8
          obtain ⟨ma, mc, hkk, -⟩ := g8.sg
          have HK := hid hkk
          clear b8 g8 hkk HA HT HBA
          go_wp2_with fail
          refine (skey_any w8 s _ _ _ _ _ _ _ _ _ _ _ _ HK.out).mono ?_
          rintro e w9 ⟨rfl, b9⟩
          have HB9 := hid (Below.on HB8.out b9)
          have HK9 := hid (HK.out.below b9)
          have HG9 := hid (HG8.out.below b9)
          clear b9
          go_wp2_with fail
          refine (snext_any w9 s _ _ _ _ _ _ _ _ _ _ _ _ HK9.out).mono ?_
          rintro e w10 ⟨rfl, b10⟩
          have HB10 := hid (Below.on HB9.out b10)
          have HG10 := hid (HG9.out.below b10)
          clear b10
          go_wp2_with fail
          exact ⟨⟨k + 1, T + 1, 0, k, i, [(k : Int), 8], by omega, by first | rfl | simp, by omega, by simp, HG10.out, HB10.out⟩, by simp [intOf]; omega⟩
    · skip
      go_wp2_with fail
      refine (knows15 _).mono ?_
      rintro e w11 ⟨rfl, b11⟩
      have HB11 := hid (Below.on HBr.out b11)
      go_wp2_with fail
      go_returns
      exact ⟨rfl, HB11.out⟩
end Go.Proofs.Ytmpgnpkodapidaa
