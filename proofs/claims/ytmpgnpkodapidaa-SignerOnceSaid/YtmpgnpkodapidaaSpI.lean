/-
  Layer 12: the document's New.
-/
import Derived.Test.YtmpgnpkodapidaaSpH
namespace Go.Proofs.Ytmpgnpkodapidaa
open Go.ChangeShapes Go.WideShapes Go.ChangeAt Go.RowKit

theorem build_rdisk (z : Nat) (w : World) : (Instr.build 77 #[(0, .int .i64 z), (5, .int .i64 (-1))]).run Try.prog w = .ok (.agg (rfC z (.slice none 0 0) (.slice none 0 0) (.slice none 0 0) false (-1) (.slice none 0 0))) w := by
  refine run_build w _ _ _ ?_
  obtain ⟨i0, hi, hz0⟩ := Option.map_eq_some_iff.1 (show (Try.prog.info? 77).map (·.zero) = some (some (.agg #[.int .i64 0, .slice none 0 0, .slice none 0 0, .slice none 0 0, .bool false, .int .i64 0, .slice none 0 0])) by kernel_rfl)
  obtain ⟨fields, hu, hq⟩ : ∃ fields, Try.prog.underlying 77 = some (.struct fields) ∧ fields.toList.mapM (fun f => (Try.prog.info? f.type).map fun i => (f.offset, i.size)) = some [(0, 1), (1, 1), (2, 1), (3, 1), (4, 1), (5, 1), (6, 1)] := ⟨_, Try.underlying77, by kernel_rfl⟩
  have hz : (Value.agg #[.int .i64 0, .slice none 0 0, .slice none 0 0, .slice none 0 0, .bool false, .int .i64 0, .slice none 0 0]).cells = #[.int .i64 0, .slice none 0 0, .slice none 0 0, .slice none 0 0, .bool false, .int .i64 0, .slice none 0 0] := rfl
  unfold Program.built
  simp only [hi, hu, hz0, hq, hz]
  have t0 : splice ([.int .i64 0, .slice none 0 0, .slice none 0 0, .slice none 0 0, .bool false, .int .i64 0, .slice none 0 0] : List Value) 0 (Value.int .i64 z).cells.toList = [.int .i64 z, .slice none 0 0, .slice none 0 0, .slice none 0 0, .bool false, .int .i64 0, .slice none 0 0] := by rfl
  have t1 : splice ([.int .i64 z, .slice none 0 0, .slice none 0 0, .slice none 0 0, .bool false, .int .i64 0, .slice none 0 0] : List Value) 5 (Value.int .i64 (-1)).cells.toList = [.int .i64 z, .slice none 0 0, .slice none 0 0, .slice none 0 0, .bool false, .int .i64 (-1), .slice none 0 0] := by rfl
  rw [fill_part _ _ 0 0 _ _ (by rfl) (by show 0 + 1 ≤ 7; omega), t0]
  rw [fill_part _ _ 5 5 _ _ (by rfl) (by show 5 + 1 ≤ 7; omega), List.toList_toArray, t1, Instr.fill]
  rfl
set_option maxHeartbeats 4000000 in
set_option maxRecDepth 100000 in
theorem refnew_any (w : World) (N n z : Nat) (hN : N ≤ w.heap.size) (hn : 1 ≤ n ∧ n ≤ 64) (hz : 1 ≤ z ∧ z ≤ 512) :
    Calls Try.prog 12 #[.int .i64 n, .int .i64 z] w fun e w' => e = .returned (.pointer (some ⟨w.heap.size, 0, none⟩)) ∧ Below w.heap.size w w' ∧ ∃ ov, RfAt w' N w.heap.size z ov (.slice none 0 0) (.slice none 0 0) (List.replicate n (List.replicate z (0 : Int))) [] false (-1) (.slice none 0 0) ∧ (∀ b, ov.ownBlock = some b → w.heap.size ≤ b) := by
  obtain ⟨i2, hi2, hz2, hsz2, hby2⟩ := info_rstr
  have HBS := hid (fun W : World => build_rdisk z W)
  have b1 := (Below.refl w.heap.size w).alloc (Nat.le_refl _) (.cells (rfC z (.slice none 0 0) (.slice none 0 0) (.slice none 0 0) false (-1) (.slice none 0 0)) 77 (0, 0))
  have Hb := hid b1
  have hs0 := b1.size
  have HR0 := hid (show RfAt (w.alloc (.cells (rfC z (.slice none 0 0) (.slice none 0 0) (.slice none 0 0) false (-1) (.slice none 0 0)) 77 (0, 0))) N w.heap.size z (.slice none 0 0) (.slice none 0 0) (.slice none 0 0) (List.replicate 0 (List.replicate z (0 : Int))) [] false (-1) (.slice none 0 0) from ⟨Blk.new rfl _ _, World.ownsRow_nil _ _ _ _, World.ownsRow_nil _ _ _ _, World.ownsRow_nil _ _ _ _, (fun b h => by cases h), hN⟩)
  clear b1
  go_enter Try.func12, Try.ntmps12
  go_wp2_with (refine wpList_buildv rfl 77 _ rfl [(0, .int .i64 z), (5, .int .i64 (-1))] rfl _ HBS.out ?_)
  go_loopw [6] (fun iv wr => ∃ (j : Nat) (ov : Value), j ≤ n ∧ iv = .int .i64 j ∧ Below w.heap.size w wr ∧ RfAt wr N w.heap.size z ov (.slice none 0 0) (.slice none 0 0) (List.replicate j (List.replicate z (0 : Int))) [] false (-1) (.slice none 0 0) ∧ (∀ b, ov.ownBlock = some b → w.heap.size ≤ b)) (fun iv _ => n - (intOf iv).toNat)
  case atStart => exact ⟨0, _, Nat.zero_le _, rfl, Hb.out, HR0.out, fun b h => by cases h⟩
  case round =>
    clear HR0 Hb
    obtain ⟨j, ov, hj, rfl, hbi, hrr, hov⟩ := hrel
    have HBr := hid hbi
    have HRr := hid hrr
    clear hbi hrr
    have hsr := HBr.out.size
    by_cases hlt : j < n
    · have hjI : (j : Int) < (n : Int) := by omega
      have KR := hid HRr.out.kr
      have hon := HRr.out.on
      have HO := hid (show wr.ownsRow N 9 1 ov j ((List.replicate j (List.replicate z (0 : Int))).map strV) by simpa using hon)
      have hno := owns_ne KR.out hon (by decide)
      have holt : ∀ b ∈ ov.ownBlock.toList, b < wr.heap.size := fun b hb => (hon.lt b (by simpa using hb)).2
      have hNr : N ≤ wr.heap.size := by omega
      have hrl := KR.out.lt
      clear hon
      go_wp2_with fail
      refine FlowB.wp_region_butIn ov.ownBlock.toList (fun y => y.ownsRow N 9 1 ov j ((List.replicate j (List.replicate z (0 : Int))).map strV)) 10 [0, 1, 2, 3, 4, 5] [6] [(.b 6, [7], [8]), (.b 8, [], []), (.c 9, [], [])] (by kernel_rfl) (by kernel_rfl) HO.out (fun _ _ h hb => owns_in h (ButIn.of_below (S := []) hb) (by simp)) ?_
      apply Exists.intro
      refine ⟨fun w0 hb0 hF0 => ?_, ?_⟩
      · skip
        have y3 : ∀ w', (∃ x : Ext w0, w' = x.at_) → w'.cell? ⟨w.heap.size, 1, none⟩ = some ov := fun w' ⟨x, hx⟩ => by rw [hx, ((hb0.blk KR.out (fun hm => hno _ (by simpa using hm) rfl)).below x.same).cell]; rfl
        simp only [pick, List.getElem?_toArray, List.getElem?_cons_succ, List.getElem?_cons_zero, Option.toList_some, List.cons_append, List.nil_append]
        repeat (first | (go_big_quiet_want; refine quiet_load_one 63 _ rfl ⟨w.heap.size, 1, none⟩ rfl _ y3 _ Try.underlying63 rfl ?_; go_big_quiet_on; simp only [Act.put, List.setIfInBounds_toArray, List.set_cons_zero, List.set_cons_succ]) | go_big_quiet_step (fail))
        
        exact wpQuiet_nil rfl
      refine FlowB.AlChk.one rfl (fun b => .slice (some ⟨b, 0, none⟩) z z) (.cells ((List.replicate z (0 : Int)).map (Value.int .u8)).toArray 5 (0, 0)) rfl (st_butL _ holt) (fun w3 hb3 hF3 => exec_make rfl rfl rfl (make_bytes z (by omega) w3)) ?_
      refine FlowB.AlChk.nil ?_
      refine FlowB.Walk.blk rfl (fun b => .slice (some ⟨b, 0, none⟩) z z) (.cells ((List.replicate z (0 : Int)).map (Value.int .u8)).toArray 5 (0, 0)) (by simp) ?_
      intro b6 wz hbz_ hFz hge6 _
      apply Exists.intro
      refine ⟨fun w4 hb4 hF4 => ?_, ?_⟩
      · skip
        have v0 := conv_str (TextAt.of_ints (show Blk w4 b6 ((List.replicate z (0 : Int)).map (Value.int .u8)).toArray 5 from hF4.2) (n := z) (by simp) (by omega) (fun x hx => by have := List.eq_of_mem_replicate hx; omega))
        simp only [pick, List.getElem?_toArray, List.getElem?_cons_succ, List.getElem?_cons_zero, Option.toList_some, List.cons_append, List.nil_append, Act.put, List.setIfInBounds_toArray, List.set_cons_zero, List.set_cons_succ]
        repeat (first | go_big_quiet_step (fail))
        
        exact wpQuiet_nil rfl
      refine FlowB.AlChk.one rfl (fun b => .slice (some ⟨b, 0, none⟩) 1 1) (.cells #[.string (strOfNums (List.replicate z (0 : Int)))] 9 (0, 0)) rfl (st_butL _ holt) (fun w3 hb3 hF3 => by go_simp) ?_
      refine FlowB.AlChk.nil ?_
      refine FlowB.Walk.blk rfl (fun b => .slice (some ⟨b, 0, none⟩) 1 1) (.cells #[.string (strOfNums (List.replicate z (0 : Int)))] 9 (0, 0)) (by simp) ?_
      intro b9 wz2 hbz2_ hFz2 hge9 _
      apply Exists.intro
      refine ⟨fun w4 hb4 hF4 => wpQuiet_nil rfl, ?_⟩
      refine FlowB.AlChk.nil ?_
      refine FlowB.Walk.does rfl (fun v _ => ∀ g, v.ownBlock = some g → w.heap.size ≤ g) (fun v y => y.ownsRow N 9 1 v (j + 1) ((List.replicate j (List.replicate z (0 : Int))).map strV ++ [.string (strOfNums (List.replicate z (0 : Int)))])) (fun _ _ _ _ h _ => h) (fun _ _ _ h k => owns_in h (ButIn.of_below (S := []) k) (by simp)) rfl (fun y3 hy3 hF3 hG3 => ?_) ?_
      · obtain ⟨v', y4, hr, hb4, ho4, hat⟩ := run_append_u (b := b9) (u := .string (strOfNums (List.replicate z (0 : Int)))) (T := 9) 63 Try.underlying63 hi2 hz2 rfl hsz2 hby2 (by omega) hG3 hF3.2 rfl (by omega) (Nat.le_trans hNr hy3.size)
        exact ⟨v', y4, FlowB.exec_append rfl rfl rfl hr, hb4, (fun g hg => by
          rcases hat with e | e
          · exact hov g (by rw [← e]; exact hg)
          · rw [e] at hg; cases hg; have := hy3.size; omega), ho4⟩
      rintro ov2 y2 hy2 hF2 hov2
      apply Exists.intro
      refine ⟨fun w4 hb4 hF4 => wpQuiet_nil rfl, ?_⟩
      refine FlowB.AlChk.nil ?_
      refine FlowB.Walk.fin fun w5 h5 hF5 hG5 => ?_
      simp only [List.drop_succ_cons, List.drop_zero]
      have HO5 := hid hG5
      have KR5 := hid (h5.blk KR.out (fun hm => hno _ (by simpa using hm) rfl))
      have HB5 := hid (h5.below HBr.out HBr.out.size (fun b hb => hov b (by simpa using hb)))
      have hq5 := owns_ne KR5.out hG5 (by decide)
      have ho5 := owns_one hG5
      have hc5 := owns_cells hG5
      clear h5 hF5 hG5 hbz_ hFz hbz2_ hFz2
      go_wp2_with (
        refine wpList_store_cell rfl 63 _ _ rfl w.heap.size 1 ov2 rfl rfl (by exact ho5) (by exact hc5) _ 77 KR5.out (by simp [rfC]) size_strs ?_
        intro w6 hb6 hk6
        have HB6 := hid (hb6.below HB5.out HB5.out.size (Nat.le_refl _))
        have KR6 := hid (show Blk w6 w.heap.size (rfC z ov2 (.slice none 0 0) (.slice none 0 0) false (-1) (.slice none 0 0)) 77 from hk6)
        have HO6 := hid (owns_in HO5.out (ButIn.of_but (S := [w.heap.size]) hb6 (by simp)) (fun b hb => by simpa using hq5 b hb))
        clear hb6 hk6)
      exact ⟨⟨j + 1, ov2, by omega, by first | rfl | simp, HB6.out, ⟨KR6.out, by rw [List.replicate_succ']; simpa [strV] using HO6.out, World.ownsRow_nil _ _ _ _, World.ownsRow_nil _ _ _ _, (fun b _ h => by cases h), hN⟩, hov2⟩, by simp [intOf]; omega⟩
    · have hjn : j = n := by omega
      subst hjn
      have hjI : ¬ (j : Int) < (j : Int) := by omega
      go_wp2_with fail
      go_returns
      exact ⟨by first | rfl | simp, HBr.out, ov, HRr.out, hov⟩
end Go.Proofs.Ytmpgnpkodapidaa
