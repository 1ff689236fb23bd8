/-
  Contract of planchetref01.Sum: the document's answer.
-/
import Derived.Test.YthaicocfbmpnmaaDoorLMShaC
namespace Go.Proofs.YthaicocfbmpnmaaDoor
open Go.ChangeShapes Go.WideShapes Go.ChangeAt Go.RowKit

set_option maxHeartbeats 8000000 in
set_option maxRecDepth 100000 in
theorem refsum_any (a : Option Addr) (len cap : Nat) (bs : List Int) (w : World) (hT : TextAt w a len cap bs) (hbnd : len ≤ 140737488340000) :
    Calls Tryd.prog 47 #[.slice a len cap] w fun e w' => e = .returned (.agg ((sumZ bs).map (Value.int .u8)).toArray) ∧ Below w.heap.size w w' := by
  have HT := hid hT
  have hbl := hT.length
  have hpl := pad_length (natB bs)
  have hnl : (natB bs).length = bs.length := by simp [natB]
  have Hpl := hid hpl
  have Hnl := hid hnl
  have Hbl := hid hbl
  have Hkr := hid ((Blk.new (w := w) rfl (byteCells 32 []) 23).old (.cells (stCells Sha.start).toArray 105 (0, 0)))
  have HbA := hid (((Below.refl w.heap.size w).alloc (Nat.le_refl _) (.cells (byteCells 32 []) 23 (0, 0))).alloc (by rw [World.size_alloc]; omega) (.cells (stCells Sha.start).toArray 105 (0, 0)))
  have Hks := hid (Blk.new (w := w.alloc (.cells (byteCells 32 []) 23 (0, 0))) rfl (stCells Sha.start).toArray 105)
  clear hT hpl hnl hbl
  go_enter Tryd.func47, Tryd.ntmps47
  go_wp2_with fail
  refine (keys_any _).mono ?_
  rintro e w1 ⟨gk, rfl, hgk, kk, b1⟩
  rw [World.size_alloc, World.size_alloc] at hgk
  have Hkk := hid kk
  have Hkr1 := hid (Hkr.out.below b1)
  have Hks1 := hid (Hks.out.below b1)
  have Hb1 := hid (Below.on HbA.out b1)
  have b1s : w.heap.size + 2 ≤ w1.heap.size := by have := b1.size; rw [World.size_alloc, World.size_alloc] at this; omega
  clear kk b1 Hkr HbA Hks
  rw [World.size_alloc] at Hks1
  go_wp2_with fail
  refine (padded_any a len cap bs w1 (HT.out.below Hb1.out) (by omega)).mono ?_
  rintro e w2 ⟨vp, rfl, own2, b2⟩
  obtain ⟨ap, cp, rfl, hTp, hap⟩ := own2.text2
  have hapl : ∀ p : Addr, ap = some p → w.heap.size + 2 ≤ p.block := fun p hp => by have := (hap p hp).1; have := b1s; omega
  clear hap b1s
  have hPl : (toZ (Sha.pad (natB bs))).length = (Sha.pad (natB bs)).length := by rw [toZ, List.length_map]
  rw [hPl] at hTp
  rw [hPl]
  have Hkk2 := hid (Hkk.out.below b2)
  have Hkr2 := hid (Hkr1.out.below b2)
  have Hks2 := hid (Hks1.out.below b2)
  have Hb2 := hid (Below.on Hb1.out b2)
  have HTp := hid hTp
  clear own2 b2 hTp hPl Hkk Hkr1 Hks1 Hb1
  have HW2 : Hid (RefW w gk ap cp (toZ (Sha.pad (natB bs))) Sha.start w2) := hid ⟨Hks2.out, Hkk2.out, by rw [toZ, List.length_map]; exact HTp.out, Hkr2.out, Hb2.out, hgk, hapl⟩
  clear hapl hgk Hkk2 Hkr2 Hks2 Hb2
  obtain ⟨NB, hNB⟩ : ∃ NB, (Sha.pad (natB bs)).length = 64 * NB := ⟨(Sha.pad (natB bs)).length / 64, by have := Hpl.out.1; omega⟩
  have hNBb : 64 * NB ≤ len + 72 := by have := Hpl.out.2; have := Hnl.out; have := Hbl.out; omega
  have HNB := hid hNB
  rw [hNB]
  rw [hNB] at HTp
  have hcp := HTp.out.le
  have hcm := HTp.out.max
  clear hNB
  go_wp2_with fail
  go_loopw [6] (fun v wr => ∃ k : Nat, k ≤ NB ∧ v = .int .i64 (64 * k : Nat) ∧ RefW w gk ap cp (toZ (Sha.pad (natB bs))) (Sha.run Sha.start (Sha.pad (natB bs)) k) wr) (fun v _ => 64 * NB - (intOf v).toNat)
  case atStart => exact ⟨0, Nat.zero_le _, rfl, HW2.out⟩
  case round =>
    obtain ⟨k, hk, rfl, hW⟩ := hrel
    have HW := hid hW
    clear hW HW2
    by_cases hlt : k < NB
    · --<<
      have hc1 : ((64 * k : Nat) : Int) < 64 * (NB : Int) := by omega
      obtain ⟨iw, hi, hz0, hz1, hz2⟩ := info_parts info_word
      have hb0 := HW.out.bel.size
      go_wp2_with (at_make; refine wpList_make_full _ rfl _ _ 113 rfl wr.heap.size 105 iw (.int .u32 0) 1 Tryd.underlying113 hi hz0 hz1 _ _ _ _ 64 rfl rfl rfl rfl ?a3 ?a4 ?a5 ?_)
      case a3 => rw [hz2]; omega
      case a4 => unfold maxLen; omega
      case a5 => simp
      intro w3 hown hgrow
      obtain ⟨_, kB⟩ := blk_of_owns hown
      have e64 : (madeCells #[Value.int IntKind.u32 0] 64).toList.toArray = wordCells 64 [] := by kernel_rfl
      rw [e64] at kB
      have hB3 : Below wr.heap.size wr w3 := ⟨hgrow.os, hgrow.tape, hgrow.output, hgrow.size, fun k hk => hgrow.block k hk (by simp)⟩
      have HkB := hid kB
      have HB3 := hid hB3
      have hlen0 : 0 < (toZ (Sha.pad (natB bs))).length := by have := HNB.out; simp only [toZ, List.length_map]; omega
      obtain ⟨x, o, rfl, hx, hc⟩ := HW.out.txt.at_ hlen0
      have HL : Hid ((toZ (Sha.pad (natB bs))).length = 64 * NB) := hid (by rw [toZ, List.length_map]; exact HNB.out)
      rw [HL.out] at hc
      have Hc := hid hc
      have HPs : Hid (∀ x ∈ Sha.pad (natB bs), x < 256) := hid (fun x hx => by
        have := HW.out.txt.small (x : Int) (by simp only [toZ, List.mem_map]; exact ⟨x, hx, rfl⟩)
        omega)
      have hszo := HB3.out.size
      have HQ : Hid (∀ j, j < 64 → wr.cell? ⟨x, o + (64 * k + j), none⟩ = some (Value.int .u8 ((blkOf (Sha.pad (natB bs)) k).getD j 0 : Nat))) := hid fun j hj => by
        rw [Hc.out (64 * k + j) (by omega), blkOf_get _ _ _ hj]
      have HBl : Hid (∀ j, (blkOf (Sha.pad (natB bs)) k).getD j 0 < 256) := hid (blkOf_lt HPs.out k)
      have HRun : Hid (Sha.run Sha.start (Sha.pad (natB bs)) (k + 1) = Sha.add (Sha.run Sha.start (Sha.pad (natB bs)) k) (Sha.rounds (Sha.sched (blkOf (Sha.pad (natB bs)) k) 64) (Sha.run Sha.start (Sha.pad (natB bs)) k) 64)) := hid (by simp only [Sha.run, Sha.compress, blkOf])
      have HOk : Hid (Ok (Sha.run Sha.start (Sha.pad (natB bs)) k)) := hid (Ok.run Ok.start _ k)
      generalize blkOf (Sha.pad (natB bs)) k = BL at HQ HBl HRun
      generalize Sha.run Sha.start (Sha.pad (natB bs)) k = st at HW HRun HOk
      clear Hc HPs
      generalize hwo : wr = wo at *
      clear e64 hwo hown hgrow kB hB3 hc hlen0
      go_wp2_with fail
      go_loopw [8] (fun v wq => ∃ t : Nat, t ≤ 16 ∧ v = .int .i64 t ∧ Blk wq wo.heap.size (wordCells 64 (Sha.sched BL t)) 105 ∧ Below wo.heap.size wo wq) (fun v _ => 16 - (intOf v).toNat)
      case atStart => exact ⟨0, Nat.zero_le _, rfl, HkB.out, HB3.out⟩
      case round =>
        obtain ⟨t, ht, rfl, kW, bW⟩ := hrel
        by_cases hlt2 : t < 16
        · --<
          have hl := sched_length BL t
          have HSc := hid (show Sha.sched BL (t + 1) = Sha.sched BL t ++ [BL.getD (4 * t) 0 * 16777216 + BL.getD (4 * t + 1) 0 * 65536 + BL.getD (4 * t + 2) 0 * 256 + BL.getD (4 * t + 3) 0] by rw [Sha.sched, if_pos hlt2]; rfl)
          have hq : ∀ j, j < 64 → wr.cell? ⟨x, o + (64 * k + j), none⟩ = some (Value.int .u8 (BL.getD j 0 : Nat)) := fun j hj => by
            rw [bW.cell (p := ⟨x, o + (64 * k + j), none⟩) hx, HQ.out j hj]
          have q0 := hq (4 * t) (by omega)
          have q1 := hq (4 * t + 1) (by omega)
          have q2 := hq (4 * t + 2) (by omega)
          have q3 := hq (4 * t + 3) (by omega)
          have b0 := HBl.out (4 * t)
          have b1 := HBl.out (4 * t + 1)
          have b2 := HBl.out (4 * t + 2)
          have b3 := HBl.out (4 * t + 3)
          have hz : wr.cell? ⟨wo.heap.size, t, none⟩ = some (.int .u32 0) := by rw [kW.cell]; have := wordCells_zero 64 (Sha.sched BL t) (by omega); rwa [hl] at this
          have e0 : (64 * (k : Int) + 4 * (t : Int)).toNat = 64 * k + 4 * t := by omega
          have e1 : (64 * (k : Int) + 4 * (t : Int) + 1).toNat = 64 * k + (4 * t + 1) := by omega
          have e2 : (64 * (k : Int) + 4 * (t : Int) + 2).toNat = 64 * k + (4 * t + 2) := by omega
          have e3 : (64 * (k : Int) + 4 * (t : Int) + 3).toNat = 64 * k + (4 * t + 3) := by omega
          have hb5 := bW.size
          clear hq
          generalize BL.getD (4 * t) 0 = y0 at *
          generalize BL.getD (4 * t + 1) 0 = y1 at *
          generalize BL.getD (4 * t + 2) 0 = y2 at *
          generalize BL.getD (4 * t + 3) 0 = y3 at *
          have hxr : x < wr.heap.size := by omega
          go_wp2_with fail
          refine wp_region_flow 32 (List.range 32) [] [] (by kernel_rfl) (by kernel_rfl) ?_
          apply Exists.intro
          refine ⟨fun w0 hb0 hF0 => ?_, ?_⟩
          · have key : ∀ (e : Ext w0) (p : Nat) (v : Value), wr.cell? ⟨x, p, none⟩ = some v → e.at_.cell? ⟨x, p, none⟩ = some v := fun e p v h => by
              rw [(Below.on hb0 e.same).cell (p := ⟨x, p, none⟩) hxr]; exact h
            have k0 := fun e => key e _ _ q0
            have k1 := fun e => key e _ _ q1
            have k2 := fun e => key e _ _ q2
            have k3 := fun e => key e _ _ q3
            clear key
            simp only [pick, List.range, List.range.loop, List.getElem?_toArray, List.getElem?_cons_succ, List.getElem?_cons_zero, Option.toList_some, List.cons_append, List.nil_append]
            repeat (go_big_quiet_step (fail))
            exact wpQuiet_nil rfl
          refine AlChk.nil ?_
          refine Walk.fin fun w4 h4 _ _ => ?_
          simp only [List.drop_succ_cons, List.drop_zero]
          have kW4 := kW.below h4
          have bW4 := Below.on bW h4
          have f1 := kW4.free
          have hz4 : w4.cell? ⟨wo.heap.size, t, none⟩ = some (.int .u32 0) := by rw [kW4.cell, ← kW.cell]; exact hz
          clear kW bW hz h4 q0 q1 q2 q3
          go_wp2_with fail
          have ev : ((y0 : Int) * 16777216 + (y1 : Int) * 65536 + (y2 : Int) * 256 + (y3 : Int)) = ((y0 * 16777216 + y1 * 65536 + y2 * 256 + y3 : Nat) : Int) := by omega
          have kW5 := kW4.set t (.int .u32 ((y0 : Int) * 16777216 + (y1 : Int) * 65536 + (y2 : Int) * 256 + (y3 : Int)))
          have := wordCells_set 64 (Sha.sched BL t) (y0 * 16777216 + y1 * 65536 + y2 * 256 + y3) (by omega)
          rw [hl, ← HSc.out] at this
          rw [ev, this] at kW5
          refine ⟨⟨t + 1, by omega, by go_num, ?_, bW4.setCell (p := ⟨wo.heap.size, t, none⟩) (Nat.le_refl _) _⟩, by simp [intOf]; omega⟩
          rw [ev]
          exact kW5
          -->
        · have h16 : 16 = t := by omega
          rw [← h16] at kW
          have H16 := hid h16
          clear h16
          go_wp2_with fail
          clear ht hlt2
          go_loopw [10] (fun v wr => ∃ m : Nat, 16 ≤ m ∧ m ≤ 64 ∧ v = .int .i64 m ∧ Blk wr wo.heap.size (wordCells 64 (Sha.sched BL m)) 105 ∧ Below wo.heap.size wo wr) (fun v _ => 64 - (intOf v).toNat)
          case atStart => exact ⟨16, by omega, by omega, rfl, kW, bW⟩
          case round =>
            clear kW bW
            obtain ⟨m, hm0, hm, rfl, kW, bW⟩ := hrel
            by_cases hlt3 : m < 64
            · --<
              have hl := sched_length BL m
              have HS := hid (show Sha.sched BL (m + 1) = Sha.sched BL m ++ [Sha.next (Sha.sched BL m) m] by rw [Sha.sched, if_neg (by omega)])
              have q15 := wordCells_get 64 (Sha.sched BL m) (m - 15) (by omega)
              have q2 := wordCells_get 64 (Sha.sched BL m) (m - 2) (by omega)
              have q7 := wordCells_get 64 (Sha.sched BL m) (m - 7) (by omega)
              have q16 := wordCells_get 64 (Sha.sched BL m) (m - 16) (by omega)
              rw [← kW.cell] at q15 q2 q7 q16
              have hz : wr.cell? ⟨wo.heap.size, m, none⟩ = some (.int .u32 0) := by rw [kW.cell]; have := wordCells_zero 64 (Sha.sched BL m) (by omega); rwa [hl] at this
              have hbw := sched_lt BL HBl.out m
              have l15 := hbw (m - 15)
              have l2 := hbw (m - 2)
              have l7 := hbw (m - 7)
              have l16 := hbw (m - 16)
              have HN : Hid (Sha.next (Sha.sched BL m) m = (Sha.s1 ((Sha.sched BL m).getD (m - 2) 0) + (Sha.sched BL m).getD (m - 7) 0 + Sha.s0 ((Sha.sched BL m).getD (m - 15) 0) + (Sha.sched BL m).getD (m - 16) 0) % 4294967296) := hid rfl
              generalize (Sha.sched BL m).getD (m - 15) 0 = x15 at *
              generalize (Sha.sched BL m).getD (m - 2) 0 = x2 at *
              generalize (Sha.sched BL m).getD (m - 7) 0 = x7 at *
              generalize (Sha.sched BL m).getD (m - 16) 0 = x16 at *
              have e1 : ((m : Int) - 15).toNat = m - 15 := by omega
              have e2 : ((m : Int) - 2).toNat = m - 2 := by omega
              have e3 : ((m : Int) - 7).toNat = m - 7 := by omega
              have e4 : ((m : Int) - 16).toNat = m - 16 := by omega
              have hbs := bW.size
              clear hbw
              go_wp2_with fail
              refine wp_region_flow 32 (List.range 32) [] [] (by kernel_rfl) (by kernel_rfl) ?_
              apply Exists.intro
              refine ⟨fun w0 hb0 hF0 => ?_, ?_⟩
              · have key : ∀ (e : Ext w0) (p : Nat) (v : Value), wr.cell? ⟨wo.heap.size, p, none⟩ = some v → e.at_.cell? ⟨wo.heap.size, p, none⟩ = some v := fun e p v h => by
                  rw [((kW.below hb0).below e.same).cell, ← kW.cell]; exact h
                have k7 := fun e => key e _ _ q7
                have k16 := fun e => key e _ _ q16
                have bs0 := bits_s0 x15 l15
                have bs1 := bits_s1 x2 l2
                have m0 := s0_lt x15 l15
                have m1 := s1_lt x2 l2
                clear key
                simp only [pick, List.range, List.range.loop, List.getElem?_toArray, List.getElem?_cons_succ, List.getElem?_cons_zero, Option.toList_some, List.cons_append, List.nil_append]
                repeat (go_big_quiet_step (first | (go_at_call 78; exact right_q _ 17 _ _ l2 (by decide) (by decide) (by decide)) | (go_at_call 78; exact right_q _ 19 _ _ l2 (by decide) (by decide) (by decide)) | (go_at_call 78; exact right_q _ 7 _ _ l15 (by decide) (by decide) (by decide)) | (go_at_call 78; exact right_q _ 18 _ _ l15 (by decide) (by decide) (by decide))))
                exact wpQuiet_nil rfl
              refine AlChk.nil ?_
              refine Walk.fin fun w4 h4 _ _ => ?_
              simp only [List.drop_succ_cons, List.drop_zero]
              have kW4 := kW.below h4
              have bW4 := Below.on bW h4
              have f1 := kW4.free
              have hz4 : w4.cell? ⟨wo.heap.size, m, none⟩ = some (.int .u32 0) := by rw [kW4.cell, ← kW.cell]; exact hz
              have hfin : ∀ V : Int, V = ((Sha.s1 x2 + x7 + Sha.s0 x15 + x16) % 4294967296 : Nat) → Blk (w4.setCell ⟨wo.heap.size, m, none⟩ (.int .u32 V)) wo.heap.size (wordCells 64 (Sha.sched BL (m + 1))) 105 := fun V hV => by
                subst hV
                have := wordCells_set 64 (Sha.sched BL m) ((Sha.s1 x2 + x7 + Sha.s0 x15 + x16) % 4294967296) (by omega)
                rw [hl] at this
                rw [HS.out, HN.out, ← this]
                exact kW4.set m _
              have Hfin := hid hfin
              clear q15 q2 q7 q16 kW bW hz h4 hfin
              go_wp2_with fail
              exact ⟨⟨m + 1, by omega, by omega, by go_num, Hfin.out _ (by omega), bW4.setCell (p := ⟨wo.heap.size, m, none⟩) (Nat.le_refl _) _⟩, by simp [intOf]; omega⟩
              -->
            · have h64 : m = 64 := by omega
              rw [h64] at kW
              have H64 := hid h64
              have kS := HW.out.ks.below bW
              have HkW := hid kW
              have HbW := hid bW
              have hsz2 := bW.size
              have hlt0 := kS.lt
              have kSa := kS.old (Obj.cells #[] 105)
              have HkS := hid kSa
              have HbWa := hid (bW.alloc bW.size (Obj.cells #[] 105))
              have HkWa := hid (kW.old (Obj.cells #[] 105))
              have own0 : (wr.alloc (Obj.cells #[] 105)).ownsRow wo.heap.size 105 1 (.slice (some ⟨wr.heap.size, 0, none⟩) 0 0) 0 [] :=
                ⟨by simp, .inr ⟨wr.heap.size, 0, #[], rfl, hsz2, Blk.new rfl _ _, Nat.le_refl _, by unfold maxLen; omega, by simp, by simp⟩⟩
              have Hown0 := hid own0
              clear kW bW kS kSa own0 h64
              go_wp2_with (at_builtin; refine wpList_append_own _ rfl _ _ 113 rfl wo.heap.size 105 iw (.int .u32 0) 1 4 Tryd.underlying113 hi hz0 hz1 hz2 rfl (by decide) (.slice (some ⟨wr.heap.size, 0, none⟩) 0 0) 0 _ rfl Hown0.out ⟨w.heap.size + 1, 0, none⟩ 8 8 (stCells st) rfl rfl ?c1 ?c2 ?c3 ?c4 ?c5 ?_)
              case c1 => exact news_blk HkS.out
              case c2 => simp [stCells, Value.oneCell']
              case c3 => unfold maxLen; omega
              case c4 => omega
              case c5 => rw [World.size_alloc]; omega
              intro v5 w5 own5 g5 _
              have hlt5 := Hown0.out.lt
              have b5 : Below wo.heap.size wo w5 := HbWa.out.grown g5 (by rw [World.size_alloc]; omega) (fun q hq => (hlt5 q hq).1)
              have k5 : Blk w5 wo.heap.size (wordCells 64 (Sha.sched BL 64)) 105 := HkWa.out.grown g5 (fun q hq => by
                simp only [Value.ownBlock, Option.some.injEq] at hq
                have := HkW.out.lt
                omega)
              have H5 := hid (And.intro (VAt.of_owns own5) (And.intro k5 b5))
              have HWl := hid (sched_length BL 64)
              have HWlt := hid (sched_lt BL HBl.out 64)
              clear own5 g5 hlt5 b5 k5 Hown0 HkS HbWa HkWa HkW HbW HkB HB3
              generalize Sha.sched BL 64 = WS at *
              go_wp2_with fail
              clear hm hlt3 hm0
              go_loopw [13, 14] (fun v i wr => ∃ j : Nat, j ≤ 64 ∧ i = .int .i64 j ∧ VAt wr wo.heap.size v (Sha.rounds WS st j) ∧ Blk wr wo.heap.size (wordCells 64 WS) 105 ∧ Below wo.heap.size wo wr) (fun _ i _ => 64 - (intOf i).toNat)
              case atStart => exact ⟨0, Nat.zero_le _, rfl, H5.out.1, H5.out.2.1, H5.out.2.2⟩
              case round =>
                clear H5
                obtain ⟨j, hj, rfl, ⟨g, cap, cur, rfl, hgB, hc8, hcm, kV, hcur⟩, kW, bW⟩ := hrel
                by_cases hlt4 : j < 64
                · --<
                  have hR : RndW wr g cur wo.heap.size WS gk := ⟨kV, kW, HW.out.kk.below bW⟩
                  have qW := wordCells_get 64 WS j (by have := HWl.out; omega)
                  have qK := wordCells_get 64 Sha.keys j (by simp [Sha.keys]; omega)
                  have lW := HWlt.out j
                  have lK := keys_lt j
                  have HR : Hid (Sha.rounds WS st (j + 1) = Sha.round (Sha.keys.getD j 0) (WS.getD j 0) (Sha.rounds WS st j)) := hid rfl
                  have ok := HOk.out.rounds WS j
                  generalize Sha.keys.getD j 0 = K at *
                  generalize WS.getD j 0 = W at *
                  generalize Sha.rounds WS st j = r at *
                  obtain ⟨xa, xb, xc, xd, xe, xf, xg, xh⟩ := r
                  obtain ⟨oa, ob, oc, od, oe, of, og, oh⟩ := ok
                  simp only [] at oa ob oc od oe of og oh
                  have u0 : cur[0]? = some (.int .u32 (xa : Nat)) := hcur 0 (by omega)
                  have u1 : cur[1]? = some (.int .u32 (xb : Nat)) := hcur 1 (by omega)
                  have u2 : cur[2]? = some (.int .u32 (xc : Nat)) := hcur 2 (by omega)
                  have u3 : cur[3]? = some (.int .u32 (xd : Nat)) := hcur 3 (by omega)
                  have u4 : cur[4]? = some (.int .u32 (xe : Nat)) := hcur 4 (by omega)
                  have u5 : cur[5]? = some (.int .u32 (xf : Nat)) := hcur 5 (by omega)
                  have u6 : cur[6]? = some (.int .u32 (xg : Nat)) := hcur 6 (by omega)
                  have u7 : cur[7]? = some (.int .u32 (xh : Nat)) := hcur 7 (by omega)
                  have a0 := (hR.v.cell 0).trans u0
                  have a4 := (hR.v.cell 4).trans u4
                  have HbW := hid bW
                  have hszr := bW.size
                  have HR0 := hid hR
                  have Hu0 := hid u0
                  have Hu1 := hid u1
                  have Hu2 := hid u2
                  have Hu3 := hid u3
                  have Hu5 := hid u5
                  have Hu6 := hid u6
                  have Hu7 := hid u7
                  have HqW := hid qW
                  have HqK := hid qK
                  clear hcur kV kW bW hR u0 u1 u2 u3 u4 u5 u6 u7 qW qK
                  go_wp2_with fail
                  clear a0 a4
                  refine wp_region_flow 13 (List.range 13) [] [] (by kernel_rfl) (by kernel_rfl) ?_
                  apply Exists.intro
                  refine ⟨fun w0 hb0 hF0 => ?_, ?_⟩
                  · have c5 : ∀ e : Ext w0, e.at_.cell? ⟨g, 5, none⟩ = some (.int .u32 (xf : Nat)) := fun e => (((HR0.out.below hb0).below e.same).v.cell 5).trans Hu5.out
                    have c6 : ∀ e : Ext w0, e.at_.cell? ⟨g, 6, none⟩ = some (.int .u32 (xg : Nat)) := fun e => (((HR0.out.below hb0).below e.same).v.cell 6).trans Hu6.out
                    have bc := bits_ch_ref oe of og
                    simp only [pick, List.range, List.range.loop, List.getElem?_toArray, List.getElem?_cons_succ, List.getElem?_cons_zero, Option.toList_some, List.cons_append, List.nil_append]
                    repeat (go_big_quiet_step (fail))
                    exact wpQuiet_nil rfl
                  refine AlChk.nil ?_
                  refine Walk.fin fun w6 h6 _ _ => ?_
                  simp only [List.drop_succ_cons, List.drop_zero]
                  have HR6 := hid (HR0.out.below h6)
                  have Hb6 := hid (Below.on HbW.out h6)
                  clear h6
                  go_wp2_with fail
                  refine wp_region_flow 20 (List.range 20) [] [] (by kernel_rfl) (by kernel_rfl) ?_
                  apply Exists.intro
                  refine ⟨fun w0 hb0 hF0 => ?_, ?_⟩
                  · have c1 : ∀ e : Ext w0, e.at_.cell? ⟨g, 1, none⟩ = some (.int .u32 (xb : Nat)) := fun e => (((HR6.out.below hb0).below e.same).v.cell 1).trans Hu1.out
                    have c2 : ∀ e : Ext w0, e.at_.cell? ⟨g, 2, none⟩ = some (.int .u32 (xc : Nat)) := fun e => (((HR6.out.below hb0).below e.same).v.cell 2).trans Hu2.out
                    have bm := bits_maj_ref oa ob oc
                    simp only [pick, List.range, List.range.loop, List.getElem?_toArray, List.getElem?_cons_succ, List.getElem?_cons_zero, Option.toList_some, List.cons_append, List.nil_append]
                    repeat (go_big_quiet_step (fail))
                    exact wpQuiet_nil rfl
                  refine AlChk.nil ?_
                  refine Walk.fin fun w7 h7 _ _ => ?_
                  simp only [List.drop_succ_cons, List.drop_zero]
                  have HR7 := hid (HR6.out.below h7)
                  have Hb7 := hid (Below.on Hb6.out h7)
                  clear h7
                  go_wp2_with fail
                  refine wp_region_flow 25 (List.range 25) [] [] (by kernel_rfl) (by kernel_rfl) ?_
                  apply Exists.intro
                  refine ⟨fun w0 hb0 hF0 => ?_, ?_⟩
                  · have c7 : ∀ e : Ext w0, e.at_.cell? ⟨g, 7, none⟩ = some (.int .u32 (xh : Nat)) := fun e => (((HR7.out.below hb0).below e.same).v.cell 7).trans Hu7.out
                    have ck : ∀ e : Ext w0, e.at_.cell? ⟨gk, j, none⟩ = some (.int .u32 (K : Nat)) := fun e => (((HR7.out.below hb0).below e.same).k.cell j).trans HqK.out
                    have cw : ∀ e : Ext w0, e.at_.cell? ⟨wo.heap.size, j, none⟩ = some (.int .u32 (W : Nat)) := fun e => (((HR7.out.below hb0).below e.same).w.cell j).trans HqW.out
                    have b1 := bits_S1 oe
                    simp only [pick, List.range, List.range.loop, List.getElem?_toArray, List.getElem?_cons_succ, List.getElem?_cons_zero, Option.toList_some, List.cons_append, List.nil_append]
                    repeat (go_big_quiet_step (first | (go_at_call 78; exact right_q _ 6 _ _ oe (by decide) (by decide) (by decide)) | (go_at_call 78; exact right_q _ 11 _ _ oe (by decide) (by decide) (by decide)) | (go_at_call 78; exact right_q _ 25 _ _ oe (by decide) (by decide) (by decide))))
                    exact wpQuiet_nil rfl
                  refine AlChk.nil ?_
                  refine Walk.fin fun w8 h8 _ _ => ?_
                  simp only [List.drop_succ_cons, List.drop_zero]
                  have HR8 := hid (HR7.out.below h8)
                  have Hb8 := hid (Below.on Hb7.out h8)
                  clear h8
                  go_wp2_with fail
                  refine (right_any _ 2 _ _ _ oa (by decide) (by decide) (by decide)).mono ?_
                  rintro e w9 ⟨rfl, h9⟩
                  have HR9 := hid (HR8.out.below h9)
                  have Hb9 := hid (Below.on Hb8.out h9)
                  clear h9
                  go_wp2_with fail
                  refine (right_any _ 13 _ _ _ oa (by decide) (by decide) (by decide)).mono ?_
                  rintro e w10 ⟨rfl, h10⟩
                  have HR10 := hid (HR9.out.below h10)
                  have Hb10 := hid (Below.on Hb9.out h10)
                  clear h10
                  go_wp2_with fail
                  refine (right_any _ 22 _ _ _ oa (by decide) (by decide) (by decide)).mono ?_
                  rintro e w11 ⟨rfl, h11⟩
                  have HR11 := hid (HR10.out.below h11)
                  have Hb11 := hid (Below.on Hb10.out h11)
                  have b2 := bits_S0 oa
                  have m2 := S0_lt oa
                  have m3 := maj_lt oa ob (c := xc)
                  have m4 := S1_lt oe
                  have m5 := ch_lt oe (f := xf) (g := xg)
                  clear h11
                  go_wp2_with fail
                  clear b2
                  refine wp_region_flow 22 (List.range 22) [] [] (by kernel_rfl) (by kernel_rfl) ?_
                  apply Exists.intro
                  refine ⟨fun w0 hb0 hF0 => ?_, ?_⟩
                  · have c1 : ∀ e : Ext w0, e.at_.cell? ⟨g, 1, none⟩ = some (.int .u32 (xb : Nat)) := fun e => (((HR11.out.below hb0).below e.same).v.cell 1).trans Hu1.out
                    have c2 : ∀ e : Ext w0, e.at_.cell? ⟨g, 2, none⟩ = some (.int .u32 (xc : Nat)) := fun e => (((HR11.out.below hb0).below e.same).v.cell 2).trans Hu2.out
                    have c3 : ∀ e : Ext w0, e.at_.cell? ⟨g, 3, none⟩ = some (.int .u32 (xd : Nat)) := fun e => (((HR11.out.below hb0).below e.same).v.cell 3).trans Hu3.out
                    have c5 : ∀ e : Ext w0, e.at_.cell? ⟨g, 5, none⟩ = some (.int .u32 (xf : Nat)) := fun e => (((HR11.out.below hb0).below e.same).v.cell 5).trans Hu5.out
                    have c6 : ∀ e : Ext w0, e.at_.cell? ⟨g, 6, none⟩ = some (.int .u32 (xg : Nat)) := fun e => (((HR11.out.below hb0).below e.same).v.cell 6).trans Hu6.out
                    simp only [pick, List.range, List.range.loop, List.getElem?_toArray, List.getElem?_cons_succ, List.getElem?_cons_zero, Option.toList_some, List.cons_append, List.nil_append]
                    repeat (go_big_quiet_step (fail))
                    exact wpQuiet_nil rfl
                  refine AlChk.nil ?_
                  refine Walk.fin fun w12 h12 _ _ => ?_
                  simp only [List.drop_succ_cons, List.drop_zero]
                  have HR12 := hid (HR11.out.below h12)
                  have Hb12 := hid (Below.on Hb11.out h12)
                  clear h12
                  go_wp2_with fail
                  refine ⟨⟨j + 1, by omega, by go_num, ?_, HR12.out.w.old _, Hb12.out.alloc Hb12.out.size _⟩, by simp [intOf]; omega⟩
                  refine ⟨_, 8, _, rfl, Hb12.out.size, Nat.le_refl _, by omega, Blk.new rfl _ _, fun i hi => ?_⟩
                  rw [HR.out]
                  match i, hi with
                  | 0, _ => exact congrArg (fun z : Int => some (Value.int .u32 z)) (by simp only [words, Sha.round, Sha.t1, Sha.t2, Sha.M, List.getD_cons_zero]; omega)
                  | 1, _ => rfl
                  | 2, _ => rfl
                  | 3, _ => rfl
                  | 4, _ => exact congrArg (fun z : Int => some (Value.int .u32 z)) (by simp only [words, Sha.round, Sha.t1, Sha.M, List.getD_cons_succ, List.getD_cons_zero]; omega)
                  | 5, _ => rfl
                  | 6, _ => rfl
                  | 7, _ => rfl
                  -->
                · have hj64 : j = 64 := by omega
                  have HVx : Hid (∀ i, i < 8 → cur[i]? = some (.int .u32 ((words (Sha.rounds WS st 64)).getD i 0 : Nat))) := hid (by rw [← hj64]; exact hcur)
                  have Hj64 := hid hj64
                  have Hwv := hid (HW.out.below bW)
                  have HkV := hid kV
                  have hokr := HOk.out.rounds WS 64
                  have hoks := HOk.out
                  have hgne : g ≠ w.heap.size + 1 := by
                    have := HW.out.ks.lt
                    omega
                  have hszr := bW.size
                  have hkslt := Hwv.out.ks.lt
                  clear hcur kV kW bW hj64
                  have HRun2 := hid HRun.out
                  clear HRun
                  generalize Sha.rounds WS st 64 = r at *
                  generalize hwv : wr = wv at *
                  clear hwv
                  go_wp2_with fail
                  clear hj hlt4
                  go_loopw [21] (fun v wr => ∃ i : Nat, i ≤ 8 ∧ v = .int .i64 i ∧ Blk wr (w.heap.size + 1) (mixCells st r i) 105 ∧ But (w.heap.size + 1) wv wr) (fun v _ => 8 - (intOf v).toNat)
                  case atStart => exact ⟨0, Nat.zero_le _, rfl, by rw [mix_zero]; exact Hwv.out.ks, But.of (Below.refl _ _)⟩
                  case round =>
                    obtain ⟨i, hi, rfl, kS, bS⟩ := hrel
                    by_cases hlt5 : i < 8
                    · have q1 := (kS.cell i).trans (mix_get st r i hlt5)
                      have q2 := ((bS.blk HkV.out hgne).cell i).trans (HVx.out i hlt5)
                      have m1 := words_lt hoks i
                      have m2 := words_lt hokr i
                      have hset := mix_set st r i hlt5
                      have Hset := hid hset
                      have HkS := hid kS
                      have HbS := hid bS
                      have HkVr := hid (bS.blk HkV.out hgne)
                      have hltS := kS.lt
                      clear hset
                      generalize (words st).getD i 0 = X at *
                      generalize (words r).getD i 0 = Y at *
                      clear kS bS
                      go_wp2_with fail
                      refine wp_region_flow 12 (List.range 12) [] [] (by kernel_rfl) (by kernel_rfl) ?_
                      apply Exists.intro
                      refine ⟨fun w0 hb0 hF0 => ?_, ?_⟩
                      · have c1 : ∀ e : Ext w0, e.at_.cell? ⟨w.heap.size + 1, i, none⟩ = some (.int .u32 (X : Nat)) := fun e => by rw [((HkS.out.below hb0).below e.same).cell, ← HkS.out.cell]; exact q1
                        have c2 : ∀ e : Ext w0, e.at_.cell? ⟨g, i, none⟩ = some (.int .u32 (Y : Nat)) := fun e => by rw [((HkVr.out.below hb0).below e.same).cell, ← HkVr.out.cell]; exact q2
                        simp only [pick, List.range, List.range.loop, List.getElem?_toArray, List.getElem?_cons_succ, List.getElem?_cons_zero, Option.toList_some, List.cons_append, List.nil_append]
                        repeat (go_big_quiet_step (fail))
                        exact wpQuiet_nil rfl
                      refine AlChk.nil ?_
                      refine Walk.fin fun w6 h6 _ _ => ?_
                      simp only [List.drop_succ_cons, List.drop_zero]
                      have kS6 := HkS.out.below h6
                      have HbS6 := hid (HbS.out.ext h6)
                      have q6 : w6.cell? ⟨w.heap.size + 1, i, none⟩ = some (.int .u32 (X : Nat)) := by rw [kS6.cell, ← HkS.out.cell]; exact q1
                      have f6 := kS6.free
                      have HkS6 := hid kS6
                      clear kS6 h6 q1 q2
                      go_wp2_with fail
                      refine ⟨⟨i + 1, by omega, by go_num, ?_, HbS6.out.set (p := ⟨w.heap.size + 1, i, none⟩) (.inl rfl) _⟩, by simp [intOf]; omega⟩
                      exact (Hset.out (((X : Int) + (Y : Int)) % 4294967296) (by omega)) ▸ HkS6.out.set i _
                    · have h8 : i = 8 := by omega
                      have kS8 : Blk wr (w.heap.size + 1) (stCells (Sha.add st r)).toArray 105 := by rw [h8, mix_all] at kS; exact kS
                      rw [← HRun2.out] at kS8
                      have HWn := hid (Hwv.out.put bS kS8)
                      have H8 := hid h8
                      clear kS kS8 bS h8
                      go_wp2_with fail
                      exact ⟨⟨k + 1, by omega, by go_num, HWn.out⟩, by simp [intOf]; omega⟩
      -->>
    · have hkN : k = NB := by omega
      have HsumE : Hid (sumZ bs = toZ ((words (Sha.run Sha.start (Sha.pad (natB bs)) k)).flatMap (Sha.nbe 4))) := hid (by
        rw [sumZ, Sha.sum, HNB.out, hkN, show 64 * NB / 64 = NB by omega, out_words])
      have okA := Ok.run Ok.start (Sha.pad (natB bs)) k
      generalize Sha.run Sha.start (Sha.pad (natB bs)) k = sf at *
      generalize hwf : wr = wf at *
      have Hkd := hid (Blk.new (w := wf) rfl (byteCells 32 []) 23)
      have HkN := hid hkN
      have hltS := HW.out.ks.lt
      have hltR := HW.out.res.lt
      clear hwf hkN
      go_wp2_with fail
      clear hk hlt
      go_loopw [23] (fun v wr => ∃ i : Nat, i ≤ 8 ∧ v = .int .i64 i ∧ Blk wr wf.heap.size (byteCells 32 (toZ (((words sf).take i).flatMap (Sha.nbe 4)))) 23 ∧ Below wf.heap.size wf wr) (fun v _ => 8 - (intOf v).toNat)
      case atStart => exact ⟨0, by omega, rfl, Hkd.out, (Below.refl _ _).alloc (Nat.le_refl _) _⟩
      case round =>
        obtain ⟨i, hi, rfl, kr, br⟩ := hrel
        by_cases hlti : i < 8
        · have hx : wr.cell? ⟨w.heap.size + 1, i, none⟩ = some (.int .u32 ((words sf).getD i 0 : Nat)) := ((HW.out.ks.below br).cell i).trans (by rw [List.getElem?_toArray]; exact words_cell sf i hlti)
          have hxl : (words sf).getD i 0 < 4294967296 := words_lt okA i
          have hts : (words sf).take (i + 1) = (words sf).take i ++ [(words sf).getD i 0] := by
            have : i < (words sf).length := hlti
            rw [List.take_succ_eq_append_getElem this]
            simp [this]
          have Hts := hid hts
          clear hts
          generalize (words sf).getD i 0 = X at *
          have hbl : (toZ (((words sf).take i).flatMap (Sha.nbe 4))).length = 4 * i := by
            rw [toZ, List.length_map, flat_len, List.length_take, Nat.min_eq_left (show i ≤ (words sf).length from Nat.le_of_lt hlti)]
          generalize hLd : toZ (((words sf).take i).flatMap (Sha.nbe 4)) = L at *
          have HL := hid hLd
          clear hLd
          have z0 : wr.cell? ⟨wf.heap.size, 4 * i, none⟩ = some (.int .u8 0) := by rw [kr.cell]; exact byteCells_zero _ _ _ (by omega) (by omega)
          have z1 : wr.cell? ⟨wf.heap.size, 4 * i + 1, none⟩ = some (.int .u8 0) := by rw [kr.cell]; exact byteCells_zero _ _ _ (by omega) (by omega)
          have z2 : wr.cell? ⟨wf.heap.size, 4 * i + 2, none⟩ = some (.int .u8 0) := by rw [kr.cell]; exact byteCells_zero _ _ _ (by omega) (by omega)
          have z3 : wr.cell? ⟨wf.heap.size, 4 * i + 3, none⟩ = some (.int .u8 0) := by rw [kr.cell]; exact byteCells_zero _ _ _ (by omega) (by omega)
          have o0 : ((4 : Int) * (i : Int)).toNat = 4 * i := by omega
          have o1 : ((4 : Int) * (i : Int) + 1).toNat = 4 * i + 1 := by omega
          have o2 : ((4 : Int) * (i : Int) + 2).toNat = 4 * i + 2 := by omega
          have o3 : ((4 : Int) * (i : Int) + 3).toNat = 4 * i + 3 := by omega
          have fq := kr.free
          have hne : w.heap.size + 1 ≠ wf.heap.size := by omega
          have Hkr := hid kr
          have Hbr := hid br
          have Hbl := hid hbl
          clear kr br hbl
          go_wp2_with fail
          refine ⟨⟨i + 1, by omega, by go_num, ?_, ?_⟩, by simp [intOf]; omega⟩
          · have := put_four Hkr.out Hbl.out hlti X hxl
            rw [Hts.out, List.flatMap_append, toZ, List.map_append, List.flatMap_singleton]
            rw [← HL.out] at this
            exact this
          · have hB : wf.heap.size ≤ wf.heap.size := Nat.le_refl _
            exact (((Hbr.out.setCell (p := ⟨wf.heap.size, 4 * i, none⟩) hB _).setCell (p := ⟨wf.heap.size, 4 * i + 1, none⟩) hB _).setCell (p := ⟨wf.heap.size, 4 * i + 2, none⟩) hB _).setCell (p := ⟨wf.heap.size, 4 * i + 3, none⟩) hB _
        · have h8i : i = 8 := by omega
          have kfull : Blk wr wf.heap.size ((sumZ bs).map (Value.int .u8)).toArray 23 := by
            have e : toZ (((words sf).take i).flatMap (Sha.nbe 4)) = sumZ bs := by
              rw [HsumE.out, h8i, List.take_of_length_le (by simp [words])]
            rw [e, byteCells_full 32 _ (sumZ_length bs)] at kr
            exact kr
          have Hkf := hid kfull
          have Hkres := hid (HW.out.res.below br)
          have Hfb := hid (Below.on HW.out.bel br)
          have Hsz : Hid (((sumZ bs).map (Value.int .u8)).toArray.size = 32) := hid (by simp [sumZ_length])
          have Hzb : Hid ((byteCells 32 []).size = 32) := hid (byteCells_size 32 [] (by simp))
          have H8i := hid h8i
          clear kr br kfull h8i
          go_wp2_with (first | (refine wpList_load_blk rfl 23 _ rfl wf.heap.size rfl _ 23 Hkf.out _ Tryd.underlying23 rfl 32 size_digest Hsz.out ?_) | (refine wpList_store_blk rfl 23 _ _ rfl w.heap.size _ rfl rfl _ 23 Hkres.out 32 size_digest Hzb.out Hsz.out (ints_one _ _) ?_; intro w6 hbut6 hk6))
          exact bodyPost_ret (v := .agg ((sumZ bs).map (Value.int .u8)).toArray) (results_blk Tryd.results47 _ w.heap.size rfl _ 23 hk6 _ Tryd.underlying23 rfl 32 size_digest Hsz.out) rfl ⟨rfl, hbut6.below Hfb.out Hfb.out.size (Nat.le_refl _)⟩
end Go.Proofs.YthaicocfbmpnmaaDoor
