/-
  Layer 19: LogShows.
-/
import Derived.Test.YthaicocfbmpnmaaDoorLLogO
import Derived.Test.YthaicocfbmpnmaaDoorLLogF
namespace Go.Proofs.YthaicocfbmpnmaaDoor
open Go.ChangeShapes Go.WideShapes Go.ChangeAt Go.RowKit

theorem rootL_ups (ts : List (List Int)) (f : Nat) (h : ts.length ≤ f) : rootL f ts = rootL ts.length ts := by
  obtain ⟨k, rfl⟩ : ∃ k, f = ts.length + k := ⟨f - ts.length, by omega⟩
  clear h
  induction k with
  | zero => rfl
  | succ k ih => rw [← Nat.add_assoc, rootL_more _ _ (by omega), ih]

set_option maxHeartbeats 4000000 in
set_option maxRecDepth 100000 in
theorem logShows_none (a : Option Addr) (len cap : Nat) (at_ fr : Int) (w : World) (h : len = 0) (tab : ShaTab w) :
    Calls Tryd.prog 11 #[.slice a len cap, .int .u8 at_, .int .u8 fr] w fun e w' => e = .returned (.bool true) ∧ Below w.heap.size w w' := by
  subst h
  have Htab := hid tab
  have Hb := hid (Below.refl w.heap.size w)
  clear tab
  go_enter Tryd.func11, Tryd.ntmps11
  go_wp2_with fail
  refine (knows19 _ Htab.out).mono ?_
  rintro e w1 ⟨rfl, bw1⟩
  have HBw1 := hid (Below.on Hb.out bw1)
  have hsw1 := HBw1.out.size
  clear bw1
  go_wp2_with fail
  go_returns
  exact ⟨rfl, HBw1.out⟩

set_option maxHeartbeats 4000000 in
set_option maxRecDepth 100000 in
theorem logShows_big (a : Option Addr) (len cap : Nat) (at_ fr : Int) (w : World) (h : 40 < len) (tab : ShaTab w) :
    Calls Tryd.prog 11 #[.slice a len cap, .int .u8 at_, .int .u8 fr] w fun e w' => e = .returned (.bool true) ∧ Below w.heap.size w w' := by
  have hI0 : ¬ ((len : Int) = 0) := by omega
  have hI1 : (40 : Int) < len := by omega
  have Htab := hid tab
  have Hb := hid (Below.refl w.heap.size w)
  clear tab
  go_enter Tryd.func11, Tryd.ntmps11
  go_wp2_with fail
  refine (knows19 _ Htab.out).mono ?_
  rintro e w1 ⟨rfl, bw1⟩
  have HBw1 := hid (Below.on Hb.out bw1)
  have hsw1 := HBw1.out.size
  clear bw1
  go_wp2_with fail
  go_returns
  exact ⟨rfl, HBw1.out⟩

set_option maxHeartbeats 4000000 in
set_option maxRecDepth 100000 in
theorem logShows_long (a : Option Addr) (len cap : Nat) (at_ fr : Int) (w : World) (ts : List (List Int)) (hT : TextsAt w a len cap ts) (hreach : ∀ t ∈ ts, t.length ≤ 140737488351232) (h1 : 1 ≤ len) (h2 : len ≤ 40) (ht : fewB ts 2000 = false) (tab : ShaTab w) :
    Calls Tryd.prog 11 #[.slice a len cap, .int .u8 at_, .int .u8 fr] w fun e w' => e = .returned (.bool true) ∧ Below w.heap.size w w' := by
  have hI0 : ¬ ((len : Int) = 0) := by omega
  have hI1 : ¬ ((40 : Int) < len) := by omega
  have CT := hid (fun (W : World) (h : TextsAt W a len cap ts) => by have := few_any a len cap ts 2000 W h hreach; rw [ht] at this; exact this)
  have Htab := hid tab
  have Hb := hid (Below.refl w.heap.size w)
  clear tab
  go_enter Tryd.func11, Tryd.ntmps11
  go_wp2_with fail
  refine (CT.out _ hT).mono ?_
  rintro e w50 ⟨rfl, rfl⟩
  go_wp2_with fail
  refine (knows19 _ Htab.out).mono ?_
  rintro e w1 ⟨rfl, bw1⟩
  have HBw1 := hid (Below.on Hb.out bw1)
  have hsw1 := HBw1.out.size
  clear bw1
  go_wp2_with fail
  go_returns
  exact ⟨rfl, HBw1.out⟩

set_option maxHeartbeats 4000000 in
set_option maxRecDepth 100000 in
theorem logShows_good (a : Option Addr) (len cap : Nat) (at_ fr : Int) (w : World) (ts : List (List Int)) (hT : TextsAt w a len cap ts) (hreach : ∀ t ∈ ts, t.length ≤ 140737488351232) (h1 : 1 ≤ len) (h2 : len ≤ 40) (ht : fewB ts 2000 = true) (ha1 : 0 ≤ at_) (ha2 : at_ < 256) (hf1 : 0 ≤ fr) (hf2 : fr < 256) (tab : ShaTab w) :
    Calls Tryd.prog 11 #[.slice a len cap, .int .u8 at_, .int .u8 fr] w fun e w' => e = .returned (.bool true) ∧ Below w.heap.size w w' := by
  have hI0 : ¬ ((len : Int) = 0) := by omega
  have hI1 : ¬ ((40 : Int) < len) := by omega
  have CT := hid (fun (W : World) (h : TextsAt W a len cap ts) => by have := few_any a len cap ts 2000 W h hreach; rw [ht] at this; exact this)
  obtain ⟨hs1, hs2⟩ := fewB_spec ht
  have hI9 : 0 ≤ at_ % (len : Int) ∧ at_ % (len : Int) < len := ⟨Int.emod_nonneg _ (by omega), Int.emod_lt_of_pos _ (by omega)⟩
  have hI8 : 0 ≤ fr % (len : Int) ∧ fr % (len : Int) < len := ⟨Int.emod_nonneg _ (by omega), Int.emod_lt_of_pos _ (by omega)⟩
  obtain ⟨i, hi⟩ := Int.eq_ofNat_of_zero_le hI9.1
  obtain ⟨q, hq⟩ := Int.eq_ofNat_of_zero_le hI8.1
  have hil : i < len := by omega
  obtain ⟨m, hm⟩ : ∃ m : Nat, m = q + 1 := ⟨_, rfl⟩
  have hm1 : 1 ≤ m := by omega
  have hml : m ≤ len := by omega
  have hwm : wrap64 (fr % (len : Int) + 1) = (m : Int) := by unfold wrap64; omega
  clear hq hm hI9 hI8
  obtain ⟨xs, xo, ta, tn, tc, hxa, hxs, hcell, htt⟩ := hT.at_ i hil
  subst hxa
  have Hcell := hid hcell
  have hTt := hid htt
  have htn := htt.length
  have htb := sumLen_at (ts := ts) i
  have hlen := hT.length
  have hcap := hT.le
  have hc1 : ∀ W : World, (Instr.slice 58 (.slice (some ⟨xs, xo, none⟩) len cap) none (some (.int .i64 (m : Int))) none).run Tryd.prog W = .ok (.slice (some ⟨xs, xo, none⟩) m cap) W := fun W => run_cuts_h _ len cap m W (by omega)
  have CR := hid (fun (W : World) (h : TextsAt W (some ⟨xs, xo, none⟩) len cap ts) (t : ShaTab W) => loRoot_good _ len cap ts W h (by omega) (by omega) t)
  have CQ := hid (fun (W : World) (h : TextsAt W (some ⟨xs, xo, none⟩) m cap (ts.take m)) (t : ShaTab W) => loRoot_good _ m cap (ts.take m) W h (by omega) (Nat.le_trans (sumLen_takes ts m) (by omega)) t)
  have CW := hid (fun (W : World) (h : TextsAt W (some ⟨xs, xo, none⟩) len cap ts) (t : ShaTab W) => loWay_good _ len cap ts i W h (by omega) hil (by omega) t)
  have CF := hid (fun (W : World) (h : TextsAt W (some ⟨xs, xo, none⟩) len cap ts) (t : ShaTab W) => loFrom_good _ len cap ts m W h (by omega) hm1 hml (by omega) t)
  have hup := upZ_path len ts i (by omega) (by omega) (by omega)
  have hgr := groZ_grow (rootL m (ts.take m)) len ts m false hm1 (by omega) (by omega) (fun _ => by rw [rootL_ups (ts.take m) len (by rw [List.length_take]; omega), List.length_take, Nat.min_eq_left (by omega)])
  rw [hlen] at hup hgr
  have hrr : rootL len (ts.take m) = rootL m (ts.take m) := by rw [rootL_ups (ts.take m) len (by rw [List.length_take]; omega), List.length_take, Nat.min_eq_left (by omega)]
  have HX := hid (Dg.rootL len ts)
  have HY0 := hid (Dg.rootL m (ts.take m))
  have hpl := pathL_length len ts i
  have hgl := growL_length len ts m false
  have CHo := hid (fun (ya : Option Addr) (yc : Nat) (W : World) (hW : DigsAt W ya (pathL len ts i).length yc (pathL len ts i)) (h : TextAt W ta tn tc (ts.getD i [])) (t : ShaTab W) => (show Calls Tryd.prog 42 #[.agg ((rootL len ts).map (Value.int .u8)).toArray, .int .i64 len, .int .i64 i, .slice ta tn tc, .slice ya (pathL len ts i).length yc] W fun e w' => e = .returned (.bool true) ∧ Below W.heap.size W w' from by
    have := holds_good (rootL len ts) len i ta tn tc (ts.getD i []) ya (pathL len ts i).length yc (pathL len ts i) W HX.out (by omega) (by omega) hil h hW (by omega) (by omega) t
    rw [hup] at this
    simpa using this))
  have CGo := hid (fun (ya : Option Addr) (yc : Nat) (W : World) (hW : DigsAt W ya (growL len ts m false).length yc (growL len ts m false)) (t : ShaTab W) => (show Calls Tryd.prog 44 #[.agg ((rootL m (ts.take m)).map (Value.int .u8)).toArray, .int .i64 m, .agg ((rootL len ts).map (Value.int .u8)).toArray, .int .i64 len, .slice ya (growL len ts m false).length yc] W fun e w' => e = .returned (.bool true) ∧ Below W.heap.size W w' from by
    have := grows_good (rootL m (ts.take m)) (rootL len ts) m len ya (growL len ts m false).length yc (growL len ts m false) W HY0.out HX.out hm1 hml (by omega) hW (by omega) t
    rw [hgr] at this
    simpa [hrr] using this))
  clear hup hgr hpl hgl htt hcell
  generalize rootL len ts = X at *
  generalize rootL m (ts.take m) = Y at *
  generalize pathL len ts i = WL at *
  generalize growL len ts m false = FL at *
  have Htab := hid tab
  have Hb := hid (Below.refl w.heap.size w)
  clear tab
  go_enter Tryd.func11, Tryd.ntmps11
  go_wp2_with fail
  refine (CT.out _ hT).mono ?_
  rintro e w50 ⟨rfl, rfl⟩
  go_wp2_with fail
  refine (CR.out _ hT Htab.out).mono ?_
  rintro e w1 ⟨rfl, bw1⟩
  have HBw1 := hid (Below.on Hb.out bw1)
  have hsw1 := HBw1.out.size
  clear bw1
  go_wp2_with (
        refine wpList_store_blk rfl 23 _ _ rfl (w1.heap.size) (X.map (Value.int .u8)).toArray rfl rfl _ 23 (Blk.new rfl (byteCells 32 []) _) 32 size_digest zsize HX.out.size (ints_one _ _) ?_
        intro w2 hbw2 hkw2
        have hw2 := hbw2.below ((Below.refl w1.heap.size w1).alloc (Nat.le_refl _) _) (by simp only [World.size_alloc]; omega) (Nat.le_refl _)
        have HBw2 := hid (Below.on HBw1.out hw2)
        have hsw2 := HBw2.out.size
        have Kxw2 := hid hkw2
        have hfw2 : w.heap.size ≤ w1.heap.size := HBw1.out.size
        clear hbw2 hkw2 hw2)
  refine (CQ.out _ ((hT.below HBw2.out).take m (by omega)) (Htab.out.below HBw2.out)).mono ?_
  rintro e w3 ⟨rfl, bw3⟩
  have HBw3 := hid (Below.on HBw2.out bw3)
  have hsw3 := HBw3.out.size
  have Kxw3 := hid (Kxw2.out.below bw3)
  clear bw3
  go_wp2_with (
        refine wpList_store_blk rfl 23 _ _ rfl (w3.heap.size) (Y.map (Value.int .u8)).toArray rfl rfl _ 23 (Blk.new rfl (byteCells 32 []) _) 32 size_digest zsize HY0.out.size (ints_one _ _) ?_
        intro w4 hbw4 hkw4
        have hw4 := hbw4.below ((Below.refl w3.heap.size w3).alloc (Nat.le_refl _) _) (by simp only [World.size_alloc]; omega) (Nat.le_refl _)
        have HBw4 := hid (Below.on HBw3.out hw4)
        have hsw4 := HBw4.out.size
        have Kxw4 := hid (Kxw3.out.below hw4)
        have hlxw4 := Kxw3.out.lt
        have Kyw4 := hid hkw4
        have hfw4 : w.heap.size ≤ w3.heap.size := HBw3.out.size
        clear hbw4 hkw4 hw4)
  refine (CW.out _ (hT.below HBw4.out) (Htab.out.below HBw4.out)).mono ?_
  rintro e w5 ⟨_, rfl, bw5, ow5⟩
  obtain ⟨va, vc, rfl, dw5, _⟩ := ow5.digs
  have HWw5 := hid dw5
  have HBw5 := hid (Below.on HBw4.out bw5)
  have hsw5 := HBw5.out.size
  have Kxw5 := hid (Kxw4.out.below bw5)
  have Kyw5 := hid (Kyw4.out.below bw5)
  clear bw5 ow5 dw5
  go_wp2_with fail
  refine (CF.out _ (hT.below HBw5.out) (Htab.out.below HBw5.out)).mono ?_
  rintro e w6 ⟨_, rfl, bw6, ow6⟩
  obtain ⟨ua, uc, rfl, dw6, _⟩ := ow6.digs
  have HFw6 := hid dw6
  have HBw6 := hid (Below.on HBw5.out bw6)
  have hsw6 := HBw6.out.size
  have Kxw6 := hid (Kxw5.out.below bw6)
  have Kyw6 := hid (Kyw5.out.below bw6)
  have HWw6 := hid (HWw5.out.below bw6)
  clear bw6 ow6 dw6
  go_wp2_with fail
  refine wp_region_flow 38 (List.range 38) [] [] (by kernel_rfl) (by kernel_rfl) ?_
  apply Exists.intro
  refine ⟨fun w0 hb0 hF0 => ?_, ?_⟩
  · skip
    have x0 : ∀ w', (∃ x : Ext w0, w' = x.at_) → ∃ T, Blk w' (w1.heap.size) (X.map (Value.int .u8)).toArray T := fun w' ⟨x, hx⟩ => ⟨_, hx ▸ (Kxw6.out.below hb0).below x.same⟩
    have x1 : ∀ w', (∃ x : Ext w0, w' = x.at_) → ∃ T, Blk w' (w3.heap.size) (Y.map (Value.int .u8)).toArray T := fun w' ⟨x, hx⟩ => ⟨_, hx ▸ (Kyw6.out.below hb0).below x.same⟩
    have c0 := fun e : Ext w0 => CHo.out va vc e.at_ (((HWw6.out).below hb0).below e.same) (hTt.out.below ((Below.on (Below.on HBw6.out hb0) e.same))) (Htab.out.below ((Below.on (Below.on HBw6.out hb0) e.same)))
    have c1 := fun e : Ext w0 => CGo.out ua uc e.at_ (((HFw6.out).below hb0).below e.same) (Htab.out.below ((Below.on (Below.on HBw6.out hb0) e.same)))
    have c2 := fun e : Ext w0 => knows19 e.at_ (Htab.out.below (Below.on (Below.on HBw6.out hb0) e.same))
    have yt : ∀ w', (∃ x : Ext w0, w' = x.at_) → w'.cell? ⟨xs, xo + i, none⟩ = some (.slice ta tn tc) := fun w' ⟨x, hx⟩ => hx ▸ (((Below.on (Below.on HBw6.out hb0) x.same).cell (p := ⟨xs, xo + i, none⟩) hxs).trans Hcell.out)
    simp only [pick, List.range, List.range.loop, List.getElem?_toArray, List.getElem?_cons_succ, List.getElem?_cons_zero, Option.toList_some, List.cons_append, List.nil_append]
    repeat (first | (go_big_quiet_want; refine quiet_load_blk 23 _ rfl (w1.heap.size) rfl _ x0 _ Tryd.underlying23 rfl 32 size_digest HX.out.size ?_; go_big_quiet_on; simp only [Act.put, List.setIfInBounds_toArray, List.set_cons_zero, List.set_cons_succ]) | (go_big_quiet_want; refine quiet_load_blk 23 _ rfl (w3.heap.size) rfl _ x1 _ Tryd.underlying23 rfl 32 size_digest HY0.out.size ?_; go_big_quiet_on; simp only [Act.put, List.setIfInBounds_toArray, List.set_cons_zero, List.set_cons_succ]) | (go_big_quiet_want; refine quiet_index_s 1 58 _ _ rfl Tryd.underlying58 size_text xs xo len cap rfl _ _ rfl i rfl (by omega) ?_; go_big_quiet_on; simp only [Act.put, List.setIfInBounds_toArray, List.set_cons_zero, List.set_cons_succ]) | (go_big_quiet_want; refine quiet_load_one 67 _ rfl ⟨xs, xo + i, none⟩ rfl _ yt _ Tryd.underlying67 rfl ?_; go_big_quiet_on; simp only [Act.put, List.setIfInBounds_toArray, List.set_cons_zero, List.set_cons_succ]) | go_big_quiet_step (first | (go_at_call 42; with_reducible exact Calls.ext (c0 _)) | (go_at_call 44; with_reducible exact Calls.ext (c1 _)) | (go_at_call 35; with_reducible exact Calls.ext (c2 _))))
    exact wpQuiet_nil rfl
  refine AlChk.nil ?_
  refine Walk.fin fun w7 hw7 _ _ => ?_
  simp only [List.drop_succ_cons, List.drop_zero]
  have HBw7 := hid (Below.on HBw6.out hw7)
  have hsw7 := HBw7.out.size
  have Kxw7 := hid (Kxw6.out.below hw7)
  have Kyw7 := hid (Kyw6.out.below hw7)
  clear hw7
  go_wp2_with fail
  go_returns
  exact ⟨rfl, HBw7.out⟩
end Go.Proofs.YthaicocfbmpnmaaDoor
