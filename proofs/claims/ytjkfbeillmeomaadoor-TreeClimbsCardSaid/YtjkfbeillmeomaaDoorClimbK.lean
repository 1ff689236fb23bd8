/-
  Layer 10: the statements' walks.
-/
import Derived.Test.YtjkfbeillmeomaaDoorClimbR
namespace Go.Proofs.YtjkfbeillmeomaaDoor
open Go.ChangeShapes Go.WideShapes Go.ChangeAt Go.RowKit

section
variable {P : Program} {w : World}
theorem results_blk_tmp2 {fn : Func} {p u x : Tmp} {ty : TypeId} (h : fn.results = #[.cell p ty, .tmp u, .tmp x]) (tmps : Array Value) (b : Nat) (hp : tmps.getD p undef = .pointer (some ⟨b, 0, none⟩)) (v v2 : Value) (hv : tmps.getD u undef = v) (hv2 : tmps.getD x undef = v2) (cs : Array Value) (T : TypeId) (hk : Blk w b cs T)
    (d : TypeDesc) (hu : P.underlying ty = some d) (hd : d.isRow = true) (n : Nat) (hi : (P.info? ty).map (·.size) = some n) (hs : cs.size = n) : (results fn tmps).run P w = .ok (.tuple #[.agg cs, v, v2]) w := by
  have hp' : tmps[p]?.getD undef = .pointer (some ⟨b, 0, none⟩) := by simpa using hp
  have hv' : tmps[u]?.getD undef = v := by simpa using hv
  have hv2' : tmps[x]?.getD undef = v2 := by simpa using hv2
  have hl := run_loadVar_row (P := P) w b T ty cs (0, 0) d hk hu (by cases d <;> simp_all) (by rw [hi, hs])
  simp [results, h, hp', hv', hv2', asAddr, hl]
end

set_option maxHeartbeats 4000000 in
set_option maxRecDepth 100000 in
theorem build_bad (vs : Array Value) (la tr n i : Int) (w : World) (hr : rightZ n i = false) :
    Calls Tryd.prog 35 #[.agg vs, .int .u32 la, .int .u64 tr, .int .i64 n, .int .i64 i] w fun e w' => e = .returned (.tuple #[(.agg (zD.map (Value.int .u8)).toArray), .slice none 0 0, .int .i64 1]) ∧ Below w.heap.size w w' := by
  have b1 := (Below.refl w.heap.size w).alloc (Nat.le_refl _) (.cells vs 48 (0, 0))
  have b2 := b1.alloc b1.size (.cells (byteCells 32 []) 23 (0, 0))
  have Kr0 := hid (Blk.new (w := (w.alloc (.cells vs 48 (0, 0)))) (n := w.heap.size + 1) (by simp only [World.size_alloc]) (byteCells 32 []) 23)
  have Hb := hid b2
  have HzA := hid zsize
  clear b1 b2
  go_enter Tryd.func35, Tryd.ntmps35
  go_wp2_with fail
  refine (tright_b n i false hr _).mono ?_
  rintro e w1 ⟨rfl, bw1⟩
  have HBw1 := hid (Below.on Hb.out bw1)
  have hsw1 := HBw1.out.size
  have Kr0w1 := hid (Kr0.out.below bw1)
  clear bw1
  go_wp2_with (
      refine wpList_store_blk rfl 23 _ _ rfl (w.heap.size + 1) (zD.map (Value.int .u8)).toArray rfl rfl _ 23 Kr0w1.out 32 size_digest HzA.out Dg.zero.size (ints_one _ _) ?_
      intro w9 hb9 hk9
      have HB9 := hid (hb9.below HBw1.out HBw1.out.size (by omega))
      have HK9 := hid hk9
      clear hb9 hk9)
  exact bodyPost_ret (v := .tuple #[(.agg (zD.map (Value.int .u8)).toArray), .slice none 0 0, .int .i64 1]) (results_blk_tmp2 Tryd.results35 _ (w.heap.size + 1) rfl _ _ rfl rfl _ 23 HK9.out _ Tryd.underlying23 rfl 32 size_digest Dg.zero.size) rfl ⟨rfl, HB9.out⟩

def d1 : List Int := 1 :: List.replicate 31 0
def d2 : List Int := 2 :: List.replicate 31 0
theorem Dg.k (k : Int) (hk : 0 ≤ k ∧ k < 256) : Dg (k :: List.replicate 31 0) := ⟨by simp, fun x hx => by
  rcases List.mem_cons.1 hx with h | h
  · omega
  · have := List.eq_of_mem_replicate h; omega⟩
theorem Dg.d1 : Dg d1 := Dg.k 1 (by omega)
theorem Dg.d2 : Dg d2 := Dg.k 2 (by omega)
theorem cl1 : climbZ zD (treeZ 0 0) 1 [d2] d1 1 = (joinZ d2 d1 zD (setAd (treeZ 0 0) 0 0 0)) := by
  show climbS zD (treeZ 0 0) 1 0 d1 d2 = _
  unfold climbS
  rw [if_pos (by decide)]
  rfl
theorem cl2 : climbZ zD (treeZ 0 0) 0 [d1] d2 1 = (joinZ d2 d1 zD (setAd (treeZ 0 0) 0 0 0)) := by
  show climbS zD (treeZ 0 0) 0 0 d2 d1 = _
  unfold climbS
  rw [if_neg (by decide)]
  rfl
set_option maxHeartbeats 4000000 in
set_option maxRecDepth 100000 in
theorem climb1 (x : List Int) (hX : (joinZ d2 d1 zD (setAd (treeZ 0 0) 0 0 0)) = x) (g : Nat) (W : World) (h : DigsAt W (some ⟨g, 0, none⟩) 1 1 [d2]) (t : ShaTab W) :
    Calls Tryd.prog 39 #[(.agg (d1.map (Value.int .u8)).toArray), .slice (some ⟨g, 0, none⟩) 1 1, .int .i64 1, (.agg (zD.map (Value.int .u8)).toArray), .int .u32 0, .int .u64 0] W fun e w' => e = .returned (.tuple #[(.agg (x.map (Value.int .u8)).toArray), .int .i64 0]) ∧ Below W.heap.size W w' := by
  have := climb_good d1 zD (some ⟨g, 0, none⟩) 1 1 [d2] 1 0 0 W Dg.d1 Dg.zero h (by omega) (by omega) (by decide) t
  rw [cl1, hX] at this
  exact this
set_option maxHeartbeats 4000000 in
set_option maxRecDepth 100000 in
theorem climb2 (x : List Int) (hX : (joinZ d2 d1 zD (setAd (treeZ 0 0) 0 0 0)) = x) (g : Nat) (W : World) (h : DigsAt W (some ⟨g, 0, none⟩) 1 1 [d1]) (t : ShaTab W) :
    Calls Tryd.prog 39 #[(.agg (d2.map (Value.int .u8)).toArray), .slice (some ⟨g, 0, none⟩) 1 1, .int .i64 0, (.agg (zD.map (Value.int .u8)).toArray), .int .u32 0, .int .u64 0] W fun e w' => e = .returned (.tuple #[(.agg (x.map (Value.int .u8)).toArray), .int .i64 0]) ∧ Below W.heap.size W w' := by
  have := climb_good d2 zD (some ⟨g, 0, none⟩) 1 1 [d1] 0 0 0 W Dg.d2 Dg.zero h (by omega) (by omega) (by decide) t
  rw [cl2, hX] at this
  exact this
set_option maxHeartbeats 4000000 in
set_option maxRecDepth 100000 in
theorem refclimb1 (x : List Int) (hX : (joinZ d2 d1 zD (setAd (treeZ 0 0) 0 0 0)) = x) (g : Nat) (W : World) (h : DigsAt W (some ⟨g, 0, none⟩) 1 1 [d2]) :
    Calls Tryd.prog 40 #[(.agg (d1.map (Value.int .u8)).toArray), .slice (some ⟨g, 0, none⟩) 1 1, .int .i64 1, (.agg (zD.map (Value.int .u8)).toArray), .int .u32 0, .int .u64 0] W fun e w' => e = .returned (.agg (x.map (Value.int .u8)).toArray) ∧ Below W.heap.size W w' := by
  have := refclimb_any d1 zD (some ⟨g, 0, none⟩) 1 1 [d2] 1 0 0 W Dg.d1 Dg.zero h (by omega) (by omega) (by decide)
  rw [cl1, hX] at this
  exact this

set_option maxHeartbeats 4000000 in
set_option maxRecDepth 100000 in
theorem knows10 (w : World) (tab : ShaTab w) : Calls Tryd.prog 34 #[] w fun e w' => e = .returned (.bool true) ∧ Below w.heap.size w w' := by
  have b1 := (Below.refl w.heap.size w).alloc (Nat.le_refl _) (.cells (byteCells 32 []) 23 (0, 0))
  have Kr0 := hid (Blk.new (w := w) (n := w.heap.size) rfl (byteCells 32 []) 23)
  have Hb := hid b1
  have HzA := hid zsize
  have hbz := b1.size
  have Hbs := hid (show w.heap.size + 1 = (w.alloc (.cells (byteCells 32 []) 23 (0, 0))).heap.size by simp only [World.size_alloc])
  have Htab := hid tab
  clear b1 tab
  obtain ⟨x, hX⟩ : ∃ x, (joinZ d2 d1 zD (setAd (treeZ 0 0) 0 0 0)) = x := ⟨_, rfl⟩
  have HXd := hid (show Dg x by rw [← hX]; exact Dg.join _ _ _ _)
  have hzz : byteCells 32 [] = (zD.map (Value.int .u8)).toArray := rfl
  have bA := Hb.out.alloc Hb.out.size (.cells (d2.map (Value.int .u8)).toArray 23 (0, 0))
  have HbA := hid bA
  have Kr0A := hid (Kr0.out.old (.cells (d2.map (Value.int .u8)).toArray 23 (0, 0)))
  have HDA := hid (dig_one Dg.d2 (Blk.new (w := (w.alloc (.cells (byteCells 32 []) 23 (0, 0)))) (n := w.heap.size + 1) (by simp only [World.size_alloc]) (d2.map (Value.int .u8)).toArray 23))
  clear bA
  go_enter Tryd.func34, Tryd.ntmps34
  go_wp2_with (first
     | (refine wpList_build_one rfl _ rfl (x := d2) rfl Dg.d2 ?_)
     | (refine wpList_load_blk rfl 23 _ rfl (w.heap.size) rfl _ 23 Kr0A.out _ Tryd.underlying23 rfl 32 size_digest HzA.out ?_))
  refine (climb1 x hX (w.heap.size + 1) _ HDA.out (Htab.out.below HbA.out)).mono ?_
  rintro e w1 ⟨rfl, bw1⟩
  have HBw1 := hid (Below.on HbA.out bw1)
  have hsw1 := HBw1.out.size
  have Kr0w1 := hid (Kr0A.out.below bw1)
  clear bw1
  go_wp2_with (first
     | (
        refine wpList_store_blk rfl 23 _ _ rfl (w1.heap.size) (x.map (Value.int .u8)).toArray rfl rfl _ 23 (Blk.new rfl (byteCells 32 []) _) 32 size_digest HzA.out HXd.out.size (ints_one _ _) ?_
        intro w2 hbw2 hkw2
        have HBw2 := hid (hbw2.below (HBw1.out.alloc HBw1.out.size _) (by simp only [World.size_alloc]; omega) (by have := HBw1.out.size; omega))
        have hsw2 := HBw2.out.size
        have Kxw2 := hid hkw2
        have Kr0w2 := hid (hbw2.blk (Kr0w1.out.old _) (by have := Kr0w1.out.lt; omega))
        clear hbw2 hkw2)
     | (refine wpList_build_one rfl _ rfl (x := d1) rfl Dg.d1 ?_)
     | (refine wpList_load_blk rfl 23 _ rfl (w.heap.size) rfl _ 23 (Kr0w2.out.old (.cells (d1.map (Value.int .u8)).toArray 23 (0, 0))) _ Tryd.underlying23 rfl 32 size_digest HzA.out ?_))
  have bB := HBw2.out.alloc HBw2.out.size (.cells (d1.map (Value.int .u8)).toArray 23 (0, 0))
  have HbB := hid bB
  have Kr0B := hid (Kr0w2.out.old (.cells (d1.map (Value.int .u8)).toArray 23 (0, 0)))
  have KxB := hid (Kxw2.out.old (.cells (d1.map (Value.int .u8)).toArray 23 (0, 0)))
  have HDB := hid (dig_one Dg.d1 (Blk.new (w := w2) rfl (d1.map (Value.int .u8)).toArray 23))
  clear bB
  refine (climb2 x hX w2.heap.size _ HDB.out (Htab.out.below HbB.out)).mono ?_
  rintro e w3 ⟨rfl, bw3⟩
  have HBw3 := hid (Below.on HbB.out bw3)
  have hsw3 := HBw3.out.size
  have Kr0w3 := hid (Kr0B.out.below bw3)
  have Kxw3 := hid (KxB.out.below bw3)
  clear bw3
  go_wp2_with (
        refine wpList_store_blk rfl 23 _ _ rfl (w3.heap.size) (x.map (Value.int .u8)).toArray rfl rfl _ 23 (Blk.new rfl (byteCells 32 []) _) 32 size_digest HzA.out HXd.out.size (ints_one _ _) ?_
        intro w4 hbw4 hkw4
        have HBw4 := hid (hbw4.below (HBw3.out.alloc HBw3.out.size _) (by simp only [World.size_alloc]; omega) (by have := HBw3.out.size; omega))
        have hsw4 := HBw4.out.size
        have Kyw4 := hid hkw4
        have Kr0w4 := hid (hbw4.blk (Kr0w3.out.old _) (by have := Kr0w3.out.lt; omega))
        have Kxw4 := hid (hbw4.blk (Kxw3.out.old _) (by have := Kxw3.out.lt; omega))
        clear hbw4 hkw4)
  refine (build_bad _ 0 0 0 0 _ (by decide)).mono ?_
  rintro e w5 ⟨rfl, bw5⟩
  have HBw5 := hid (Below.on HBw4.out bw5)
  have hsw5 := HBw5.out.size
  have Kr0w5 := hid (Kr0w4.out.below bw5)
  have Kxw5 := hid (Kxw4.out.below bw5)
  have Kyw5 := hid (Kyw4.out.below bw5)
  clear bw5
  go_wp2_with (
        refine wpList_store_blk rfl 23 _ _ rfl (w5.heap.size) (zD.map (Value.int .u8)).toArray rfl rfl _ 23 (Blk.new rfl (byteCells 32 []) _) 32 size_digest HzA.out Dg.zero.size (ints_one _ _) ?_
        intro w6 hbw6 hkw6
        have HBw6 := hid (hbw6.below (HBw5.out.alloc HBw5.out.size _) (by simp only [World.size_alloc]; omega) (by have := HBw5.out.size; omega))
        have hsw6 := HBw6.out.size
        have Kqw6 := hid hkw6
        have Kr0w6 := hid (hbw6.blk (Kr0w5.out.old _) (by have := Kr0w5.out.lt; omega))
        have Kxw6 := hid (hbw6.blk (Kxw5.out.old _) (by have := Kxw5.out.lt; omega))
        have Kyw6 := hid (hbw6.blk (Kyw5.out.old _) (by have := Kyw5.out.lt; omega))
        clear hbw6 hkw6)
  have q1 := fun W => eqD_self x HXd.out.len W
  have Kr0w6 := hid (show Blk w6 (w.heap.size) (zD.map (Value.int .u8)).toArray 23 from Kr0w6.out)
  refine wp_region_flow 24 [0, 1, 2, 3, 4, 5, 6, 7, 8, 9, 10, 11, 12, 13, 14, 15, 16, 17, 18, 20] [19] [(.b 19, [21, 22, 23], [])] (by kernel_rfl) (by kernel_rfl) ?_
  apply Exists.intro
  refine ⟨fun w0 hb0 hF0 => ?_, ?_⟩
  · skip
    have x0 : ∀ w', (∃ x : Ext w0, w' = x.at_) → ∃ T, Blk w' (w1.heap.size) (x.map (Value.int .u8)).toArray T := fun w' ⟨x, hx⟩ => ⟨_, hx ▸ (Kxw6.out.below hb0).below x.same⟩
    have x1 : ∀ w', (∃ x : Ext w0, w' = x.at_) → ∃ T, Blk w' (w3.heap.size) (x.map (Value.int .u8)).toArray T := fun w' ⟨x, hx⟩ => ⟨_, hx ▸ (Kyw6.out.below hb0).below x.same⟩
    have x2 : ∀ w', (∃ x : Ext w0, w' = x.at_) → ∃ T, Blk w' (w.heap.size) (zD.map (Value.int .u8)).toArray T := fun w' ⟨x, hx⟩ => ⟨_, hx ▸ (Kr0w6.out.below hb0).below x.same⟩
    simp only [pick, List.getElem?_toArray, List.getElem?_cons_succ, List.getElem?_cons_zero, Option.toList_some, List.cons_append, List.nil_append]
    repeat (first | (go_big_quiet_want; refine quiet_load_blk 23 _ rfl (w1.heap.size) rfl _ x0 _ Tryd.underlying23 rfl 32 size_digest HXd.out.size ?_; go_big_quiet_on; simp only [Act.put, List.setIfInBounds_toArray, List.set_cons_zero, List.set_cons_succ]) | (go_big_quiet_want; refine quiet_load_blk 23 _ rfl (w3.heap.size) rfl _ x1 _ Tryd.underlying23 rfl 32 size_digest HXd.out.size ?_; go_big_quiet_on; simp only [Act.put, List.setIfInBounds_toArray, List.set_cons_zero, List.set_cons_succ]) | (go_big_quiet_want; refine quiet_load_blk 23 _ rfl (w.heap.size) rfl _ x2 _ Tryd.underlying23 rfl 32 size_digest Dg.zero.size ?_; go_big_quiet_on; simp only [Act.put, List.setIfInBounds_toArray, List.set_cons_zero, List.set_cons_succ]) | (go_big_quiet_want; refine quiet_cmp _ _ rfl _ _ _ rfl rfl q1 ?_; go_big_quiet_on; simp only [Act.put, List.setIfInBounds_toArray, List.set_cons_zero, List.set_cons_succ]) | go_big_quiet_step (fail))
    exact wpQuiet_nil rfl
  refine AlChk.one rfl (fun b => .slice (some ⟨b, 0, none⟩) 1 1) (.cells (d2.map (Value.int .u8)).toArray 23 (0, 0)) rfl (fun w3 hb3 hF3 => exec_build_one rfl rfl Dg.d2) ?_
  refine AlChk.nil ?_
  refine Walk.blk rfl (fun b => .slice (some ⟨b, 0, none⟩) 1 1) (.cells (d2.map (Value.int .u8)).toArray 23 (0, 0)) (by simp) ?_
  intro g9 wz hbz_ hFz hge9 _
  apply Exists.intro
  refine ⟨fun w0 hb0 hF0 => ?_, ?_⟩
  · skip
    have c0 := fun e : Ext w0 => (show Calls Tryd.prog 40 #[.agg #[.int .u8 1, .int .u8 0, .int .u8 0, .int .u8 0, .int .u8 0, .int .u8 0, .int .u8 0, .int .u8 0, .int .u8 0, .int .u8 0, .int .u8 0, .int .u8 0, .int .u8 0, .int .u8 0, .int .u8 0, .int .u8 0, .int .u8 0, .int .u8 0, .int .u8 0, .int .u8 0, .int .u8 0, .int .u8 0, .int .u8 0, .int .u8 0, .int .u8 0, .int .u8 0, .int .u8 0, .int .u8 0, .int .u8 0, .int .u8 0, .int .u8 0, .int .u8 0], .slice (some ⟨g9, 0, none⟩) 1 1, .int .i64 1, (.agg (zD.map (Value.int .u8)).toArray), .int .u32 0, .int .u64 0] e.at_ (fun z w' => z = .returned (.agg (x.map (Value.int .u8)).toArray) ∧ Below e.at_.heap.size e.at_ w') from refclimb1 x hX g9 e.at_ (dig_one Dg.d2 ((show Blk w0 g9 (d2.map (Value.int .u8)).toArray 23 from hF0.2).below e.same)))
    simp only [pick, List.getElem?_toArray, List.getElem?_cons_succ, List.getElem?_cons_zero, Option.toList_some, List.cons_append, List.nil_append, Act.put, List.setIfInBounds_toArray, List.set_cons_zero, List.set_cons_succ]
    repeat (first | (go_big_quiet_want; refine quiet_cmp _ _ rfl _ _ _ rfl rfl q1 ?_; go_big_quiet_on; simp only [Act.put, List.setIfInBounds_toArray, List.set_cons_zero, List.set_cons_succ]) | go_big_quiet_step (first | (go_at_call 40; with_reducible exact Calls.ext (c0 _))))
    exact wpQuiet_nil rfl
  refine AlChk.nil ?_
  refine Walk.fin fun w40 h40 _ _ => ?_
  simp only [List.drop_succ_cons, List.drop_zero]
  have HBw40 := hid (Below.on HBw6.out h40)
  clear hbz_ hFz h40
  go_wp2_with fail
  go_returns
  exact ⟨rfl, HBw40.out⟩
end Go.Proofs.YtjkfbeillmeomaaDoor
