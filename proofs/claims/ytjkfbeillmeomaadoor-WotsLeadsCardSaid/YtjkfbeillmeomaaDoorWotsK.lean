/-
  Layer 8: the statements' walks.
-/
import Derived.Test.YtjkfbeillmeomaaDoorWotsS
import Derived.Test.YtjkfbeillmeomaaDoorLtreeLaws
namespace Go.Proofs.YtjkfbeillmeomaaDoor
open Go.ChangeShapes Go.WideShapes Go.ChangeAt Go.RowKit

theorem dg_zero (i : Nat) (h : i < 64) : dgN zD i = 0 := (by decide +kernel : ∀ i : Fin 64, dgN zD i = 0) ⟨i, h⟩
theorem dg_zero64 : dgN zD 64 = 3 := by decide +kernel
theorem dg_zero66 : dgN zD 66 = 0 := by decide +kernel
theorem sig_part {m seed pub ad : List Int} {i : Nat} (h : dgN m i = 0) : sigP m seed pub ad i = partZ seed ad i := by
  unfold sigP
  rw [h]
  rfl
theorem sig_64 : ¬ sigP zD zD zD zA 64 = partZ zD zA 64 := by
  have h : (sigP zD zD zD zA 64).getD 0 0 ≠ (partZ zD zA 64).getD 0 0 := by decide +kernel
  intro e
  rw [e] at h
  exact h rfl
theorem secret_v (seed ad : List Int) (hseed : Dg seed) (had : Aw ad) (W : World) (tab : ShaTab W) : Calls Tryd.prog 18 #[(.agg (seed.map (Value.int .u8)).toArray), (.agg (ad.map (Value.int .u32)).toArray)] W fun e w' => ∃ v, e = .returned v ∧ Below W.heap.size W w' ∧ RowV 67 (rowW (partZ seed ad)) v w' :=
  (secret_any seed ad W hseed had tab).mono fun _ _ ⟨_, _, h1, h2, h3⟩ => ⟨_, h1, h2, RowV.of_blk h3 (rowW_each (Dg.part seed ad)) 67 (rowW_length _) (by omega)⟩
theorem public_v (seed pub ad : List Int) (hseed : Dg seed) (hpub : Dg pub) (had : Aw ad) (W : World) (tab : ShaTab W) : Calls Tryd.prog 20 #[(.agg (seed.map (Value.int .u8)).toArray), (.agg (pub.map (Value.int .u8)).toArray), (.agg (ad.map (Value.int .u32)).toArray)] W fun e w' => ∃ v, e = .returned v ∧ Below W.heap.size W w' ∧ RowV 67 (rowW (pubP seed pub ad)) v w' :=
  (public_any seed pub ad W hseed hpub had tab).mono fun _ _ ⟨_, _, h1, h2, h3⟩ => ⟨_, h1, h2, RowV.of_blk h3 (rowW_each (Dg.pubP seed pub ad)) 67 (rowW_length _) (by omega)⟩
theorem sign_v (m seed pub ad : List Int) (hm : Dg m) (hseed : Dg seed) (hpub : Dg pub) (had : Aw ad) (W : World) (tab : ShaTab W) : Calls Tryd.prog 23 #[(.agg (m.map (Value.int .u8)).toArray), (.agg (seed.map (Value.int .u8)).toArray), (.agg (pub.map (Value.int .u8)).toArray), (.agg (ad.map (Value.int .u32)).toArray)] W fun e w' => ∃ v, e = .returned v ∧ Below W.heap.size W w' ∧ RowV 67 (rowW (sigP m seed pub ad)) v w' :=
  (sign_any m seed pub ad W hm hseed hpub had tab).mono fun _ _ ⟨_, _, h1, h2, h3⟩ => ⟨_, h1, h2, RowV.of_blk h3 (rowW_each (Dg.sigP m seed pub ad)) 67 (rowW_length _) (by omega)⟩
/-- A row, and that there is no error. -/
def TupV (n : Nat) (ds : List (List Int)) (v : Value) (w : World) : Prop := ∃ a cap, v = .tuple #[.slice a n cap, .int .i64 0] ∧ DigsAt w a n cap ds
theorem TupV.below {n : Nat} {ds : List (List Int)} {v : Value} {w w' : World} (h : TupV n ds v w) (hb : Below w.heap.size w w') : TupV n ds v w' := by
  obtain ⟨a, c, h1, h2⟩ := h
  exact ⟨a, c, h1, h2.below hb⟩
theorem TupV.digs {n c : Nat} {a : Option Addr} {ds : List (List Int)} {w : World} (h : TupV n ds (.tuple #[.slice a n c, .int .i64 0]) w) : DigsAt w a n c ds := by
  obtain ⟨a', c', h1, h2⟩ := h
  simp only [Value.tuple.injEq, Array.mk.injEq, List.cons.injEq, Value.slice.injEq] at h1
  obtain ⟨⟨rfl, _, rfl⟩, _⟩ := h1
  exact h2
theorem from_v (ls : List (List Int)) (na : Option Addr) (nc : Nat) (m pub ad : List Int) (W : World) (hN : DigsAt W na 67 nc ls) (hm : Dg m) (hpub : Dg pub) (had : Aw ad) (tab : ShaTab W) :
    Calls Tryd.prog 25 #[.slice na 67 nc, (.agg (m.map (Value.int .u8)).toArray), (.agg (pub.map (Value.int .u8)).toArray), (.agg (ad.map (Value.int .u32)).toArray)] W fun e w' => ∃ v, e = .returned v ∧ Below W.heap.size W w' ∧ TupV 67 (rowW (fromP ls m pub ad)) v w' :=
  (from_good ls na nc m pub ad W hN hm hpub had tab).mono fun _ _ ⟨_, _, h1, h2, h3⟩ => ⟨_, h1, h2, _, _, rfl, DigsAt.of_blk h3 (rowW_each (Dg.fromP hN.each m pub ad)) (rowW_length _) (Nat.le_refl _) (by omega)⟩
theorem neD_other (xs ys : List Int) (hx : xs.length = 32) (hy : ys.length = 32) (h : ¬ xs = ys) (w : World) : (binOp .neq 23 (.agg (xs.map (Value.int .u8)).toArray) (.agg (ys.map (Value.int .u8)).toArray)).run Tryd.prog w = .ok (.bool true) w := by
  rw [neD xs ys hx hy w, decide_eq_false h]; rfl

set_option maxHeartbeats 4000000 in
set_option maxRecDepth 100000 in
theorem knows08 (w : World) (tab : ShaTab w) : Calls Tryd.prog 22 #[] w fun e w' => e = .returned (.bool true) ∧ Below w.heap.size w w' := by
  have b1 := (Below.refl w.heap.size w).alloc (Nat.le_refl _) (.cells (byteCells 32 []) 23 (0, 0))
  have Kr0 := hid (Blk.new (w := w) (n := w.heap.size) rfl (byteCells 32 []) 23)
  have Hb := hid b1
  have HzA := hid zsize
  have hbz := b1.size
  have Hbs := hid (show w.heap.size + 1 = (w.alloc (.cells (byteCells 32 []) 23 (0, 0))).heap.size by simp only [World.size_alloc])
  have Htab := hid tab
  clear b1 tab
  have Kz0 := Kr0.out
  rw [zD_cells] at Kz0
  have Kr0 := hid Kz0
  clear Kz0
  go_enter Tryd.func22, Tryd.ntmps22
  go_wp2_with (refine wpList_load_blk rfl 23 _ rfl (w.heap.size) rfl _ 23 Kr0.out _ Tryd.underlying23 rfl 32 size_digest Dg.zero.size ?_)
  refine (sign_v zD zD zD zA Dg.zero Dg.zero Dg.zero Aw.zero _ (Htab.out.below Hb.out)).mono ?_
  rintro e w1 ⟨_, rfl, bw1, ⟨la, lc, rfl, ld⟩⟩
  have HBw1 := hid (Below.on Hb.out bw1)
  have hsw1 := HBw1.out.size
  have Kr0w1 := hid (Kr0.out.below bw1)
  have Hlw1 := hid ld
  clear bw1 ld
  have Klw1 := Hlw1
  go_wp2_with (refine wpList_load_blk rfl 23 _ rfl (w.heap.size) rfl _ 23 Kr0w1.out _ Tryd.underlying23 rfl 32 size_digest Dg.zero.size ?_)
  refine (secret_v zD zA Dg.zero Aw.zero _ (Htab.out.below HBw1.out)).mono ?_
  rintro e w2 ⟨_, rfl, bw2, ⟨ma, mc, rfl, md⟩⟩
  have HBw2 := hid (Below.on HBw1.out bw2)
  have hsw2 := HBw2.out.size
  have Kr0w2 := hid (Kr0w1.out.below bw2)
  have Klw2 := hid (Klw1.out.below bw2)
  have Hmw2 := hid md
  clear bw2 md
  have Kmw2 := Hmw2
  go_wp2_with (refine wpList_load_blk rfl 23 _ rfl (w.heap.size) rfl _ 23 Kr0w2.out _ Tryd.underlying23 rfl 32 size_digest Dg.zero.size ?_)
  refine (from_bad none 0 0 zD zD zA _ (by omega)).mono ?_
  rintro e w3 ⟨rfl, bw3⟩
  have HBw3 := hid (Below.on HBw2.out bw3)
  have hsw3 := HBw3.out.size
  have Kr0w3 := hid (Kr0w2.out.below bw3)
  have Klw3 := hid (Klw2.out.below bw3)
  have Kmw3 := hid (Kmw2.out.below bw3)
  clear bw3
  go_wp2_with fail
  obtain ⟨xs, xo, rfl, hxs, hcx⟩ := Klw3.out.at_ (by omega)
  obtain ⟨ys, yo, rfl, hys, hcy⟩ := Kmw3.out.at_ (by omega)
  have hx0 := hcx 0 (by omega)
  have hy0 := hcy 0 (by omega)
  rw [rowW_get _ (by omega)] at hx0 hy0
  rw [sig_part (dg_zero 0 (by omega))] at hx0
  have Hx0 := hid hx0
  have Hy0 := hid hy0
  clear hx0 hy0
  have HP0 := hid (Dg.part zD zA 0)
  have hx63 := hcx 63 (by omega)
  have hy63 := hcy 63 (by omega)
  rw [rowW_get _ (by omega)] at hx63 hy63
  rw [sig_part (dg_zero 63 (by omega))] at hx63
  have Hx63 := hid hx63
  have Hy63 := hid hy63
  clear hx63 hy63
  have HP63 := hid (Dg.part zD zA 63)
  have hx64 := hcx 64 (by omega)
  have hy64 := hcy 64 (by omega)
  rw [rowW_get _ (by omega)] at hx64 hy64
  have Hx64 := hid hx64
  have Hy64 := hid hy64
  clear hx64 hy64
  have HP64 := hid (Dg.part zD zA 64)
  have hx66 := hcx 66 (by omega)
  have hy66 := hcy 66 (by omega)
  rw [rowW_get _ (by omega)] at hx66 hy66
  rw [sig_part dg_zero66] at hx66
  have Hx66 := hid hx66
  have Hy66 := hid hy66
  clear hx66 hy66
  have HP66 := hid (Dg.part zD zA 66)
  have HQ64 := hid (Dg.sigP zD zD zD zA 64)
  have hne := sig_64
  clear hcx hcy
  generalize partZ zD zA 0 = X0 at *
  generalize partZ zD zA 63 = X63 at *
  generalize partZ zD zA 66 = X66 at *
  generalize partZ zD zA 64 = Y64 at *
  generalize sigP zD zD zD zA 64 = X64 at *
  have q0 := fun W => eqD_self X0 HP0.out.len W
  have q63 := fun W => eqD_self X63 HP63.out.len W
  have q66 := fun W => eqD_self X66 HP66.out.len W
  have q64 := fun W => neD_other X64 Y64 HQ64.out.len HP64.out.len hne W
  refine wp_region_flow 48 (List.range 48) [] [] (by kernel_rfl) (by kernel_rfl) ?_
  apply Exists.intro
  refine ⟨fun w0 hb0 hF0 => ?_, ?_⟩
  · skip
    have x0 : ∀ w', (∃ x : Ext w0, w' = x.at_) → w'.rangeAt xs (xo + 0 * 32) (X0.map (Value.int .u8)) := fun w' ⟨x, hx⟩ => hx ▸ rangeAt_below (rangeAt_below Hx0.out hxs hb0) (Nat.lt_of_lt_of_le hxs hb0.size) x.same
    have y0 : ∀ w', (∃ x : Ext w0, w' = x.at_) → w'.rangeAt ys (yo + 0 * 32) (X0.map (Value.int .u8)) := fun w' ⟨x, hx⟩ => hx ▸ rangeAt_below (rangeAt_below Hy0.out hys hb0) (Nat.lt_of_lt_of_le hys hb0.size) x.same
    have x63 : ∀ w', (∃ x : Ext w0, w' = x.at_) → w'.rangeAt xs (xo + 63 * 32) (X63.map (Value.int .u8)) := fun w' ⟨x, hx⟩ => hx ▸ rangeAt_below (rangeAt_below Hx63.out hxs hb0) (Nat.lt_of_lt_of_le hxs hb0.size) x.same
    have y63 : ∀ w', (∃ x : Ext w0, w' = x.at_) → w'.rangeAt ys (yo + 63 * 32) (X63.map (Value.int .u8)) := fun w' ⟨x, hx⟩ => hx ▸ rangeAt_below (rangeAt_below Hy63.out hys hb0) (Nat.lt_of_lt_of_le hys hb0.size) x.same
    have x64 : ∀ w', (∃ x : Ext w0, w' = x.at_) → w'.rangeAt xs (xo + 64 * 32) (X64.map (Value.int .u8)) := fun w' ⟨x, hx⟩ => hx ▸ rangeAt_below (rangeAt_below Hx64.out hxs hb0) (Nat.lt_of_lt_of_le hxs hb0.size) x.same
    have y64 : ∀ w', (∃ x : Ext w0, w' = x.at_) → w'.rangeAt ys (yo + 64 * 32) (Y64.map (Value.int .u8)) := fun w' ⟨x, hx⟩ => hx ▸ rangeAt_below (rangeAt_below Hy64.out hys hb0) (Nat.lt_of_lt_of_le hys hb0.size) x.same
    have x66 : ∀ w', (∃ x : Ext w0, w' = x.at_) → w'.rangeAt xs (xo + 66 * 32) (X66.map (Value.int .u8)) := fun w' ⟨x, hx⟩ => hx ▸ rangeAt_below (rangeAt_below Hx66.out hxs hb0) (Nat.lt_of_lt_of_le hxs hb0.size) x.same
    have y66 : ∀ w', (∃ x : Ext w0, w' = x.at_) → w'.rangeAt ys (yo + 66 * 32) (X66.map (Value.int .u8)) := fun w' ⟨x, hx⟩ => hx ▸ rangeAt_below (rangeAt_below Hy66.out hys hb0) (Nat.lt_of_lt_of_le hys hb0.size) x.same
    simp only [pick, List.range, List.range.loop, List.getElem?_toArray, List.getElem?_cons_succ, List.getElem?_cons_zero, Option.toList_some, List.cons_append, List.nil_append]
    repeat (first | (go_big_quiet_want; refine quiet_cmp _ _ rfl _ _ _ rfl rfl q0 ?_; go_big_quiet_on; simp only [Act.put, List.setIfInBounds_toArray, List.set_cons_zero, List.set_cons_succ]) | (go_big_quiet_want; refine quiet_cmp _ _ rfl _ _ _ rfl rfl q63 ?_; go_big_quiet_on; simp only [Act.put, List.setIfInBounds_toArray, List.set_cons_zero, List.set_cons_succ]) | (go_big_quiet_want; refine quiet_cmp _ _ rfl _ _ _ rfl rfl q64 ?_; go_big_quiet_on; simp only [Act.put, List.setIfInBounds_toArray, List.set_cons_zero, List.set_cons_succ]) | (go_big_quiet_want; refine quiet_cmp _ _ rfl _ _ _ rfl rfl q66 ?_; go_big_quiet_on; simp only [Act.put, List.setIfInBounds_toArray, List.set_cons_zero, List.set_cons_succ]) | (go_big_quiet_want; refine quiet_index_digs 28 _ _ rfl Tryd.underlying28 size_digest xs xo 67 lc rfl _ _ rfl 0 rfl (by omega) ?_; go_big_quiet_on; simp only [Act.put, List.setIfInBounds_toArray, List.set_cons_zero, List.set_cons_succ]) | (go_big_quiet_want; refine quiet_load_mid 23 _ rfl xs (xo + 0 * 32) rfl _ x0 _ Tryd.underlying23 rfl (by rw [List.length_map, HP0.out.len]; exact size_digest) ?_; go_big_quiet_on; simp only [Act.put, List.setIfInBounds_toArray, List.set_cons_zero, List.set_cons_succ]) | (go_big_quiet_want; refine quiet_index_digs 28 _ _ rfl Tryd.underlying28 size_digest ys yo 67 mc rfl _ _ rfl 0 rfl (by omega) ?_; go_big_quiet_on; simp only [Act.put, List.setIfInBounds_toArray, List.set_cons_zero, List.set_cons_succ]) | (go_big_quiet_want; refine quiet_load_mid 23 _ rfl ys (yo + 0 * 32) rfl _ y0 _ Tryd.underlying23 rfl (by rw [List.length_map, HP0.out.len]; exact size_digest) ?_; go_big_quiet_on; simp only [Act.put, List.setIfInBounds_toArray, List.set_cons_zero, List.set_cons_succ]) | (go_big_quiet_want; refine quiet_index_digs 28 _ _ rfl Tryd.underlying28 size_digest xs xo 67 lc rfl _ _ rfl 63 rfl (by omega) ?_; go_big_quiet_on; simp only [Act.put, List.setIfInBounds_toArray, List.set_cons_zero, List.set_cons_succ]) | (go_big_quiet_want; refine quiet_load_mid 23 _ rfl xs (xo + 63 * 32) rfl _ x63 _ Tryd.underlying23 rfl (by rw [List.length_map, HP63.out.len]; exact size_digest) ?_; go_big_quiet_on; simp only [Act.put, List.setIfInBounds_toArray, List.set_cons_zero, List.set_cons_succ]) | (go_big_quiet_want; refine quiet_index_digs 28 _ _ rfl Tryd.underlying28 size_digest ys yo 67 mc rfl _ _ rfl 63 rfl (by omega) ?_; go_big_quiet_on; simp only [Act.put, List.setIfInBounds_toArray, List.set_cons_zero, List.set_cons_succ]) | (go_big_quiet_want; refine quiet_load_mid 23 _ rfl ys (yo + 63 * 32) rfl _ y63 _ Tryd.underlying23 rfl (by rw [List.length_map, HP63.out.len]; exact size_digest) ?_; go_big_quiet_on; simp only [Act.put, List.setIfInBounds_toArray, List.set_cons_zero, List.set_cons_succ]) | (go_big_quiet_want; refine quiet_index_digs 28 _ _ rfl Tryd.underlying28 size_digest xs xo 67 lc rfl _ _ rfl 64 rfl (by omega) ?_; go_big_quiet_on; simp only [Act.put, List.setIfInBounds_toArray, List.set_cons_zero, List.set_cons_succ]) | (go_big_quiet_want; refine quiet_load_mid 23 _ rfl xs (xo + 64 * 32) rfl _ x64 _ Tryd.underlying23 rfl (by rw [List.length_map, HQ64.out.len]; exact size_digest) ?_; go_big_quiet_on; simp only [Act.put, List.setIfInBounds_toArray, List.set_cons_zero, List.set_cons_succ]) | (go_big_quiet_want; refine quiet_index_digs 28 _ _ rfl Tryd.underlying28 size_digest ys yo 67 mc rfl _ _ rfl 64 rfl (by omega) ?_; go_big_quiet_on; simp only [Act.put, List.setIfInBounds_toArray, List.set_cons_zero, List.set_cons_succ]) | (go_big_quiet_want; refine quiet_load_mid 23 _ rfl ys (yo + 64 * 32) rfl _ y64 _ Tryd.underlying23 rfl (by rw [List.length_map, HP64.out.len]; exact size_digest) ?_; go_big_quiet_on; simp only [Act.put, List.setIfInBounds_toArray, List.set_cons_zero, List.set_cons_succ]) | (go_big_quiet_want; refine quiet_index_digs 28 _ _ rfl Tryd.underlying28 size_digest xs xo 67 lc rfl _ _ rfl 66 rfl (by omega) ?_; go_big_quiet_on; simp only [Act.put, List.setIfInBounds_toArray, List.set_cons_zero, List.set_cons_succ]) | (go_big_quiet_want; refine quiet_load_mid 23 _ rfl xs (xo + 66 * 32) rfl _ x66 _ Tryd.underlying23 rfl (by rw [List.length_map, HP66.out.len]; exact size_digest) ?_; go_big_quiet_on; simp only [Act.put, List.setIfInBounds_toArray, List.set_cons_zero, List.set_cons_succ]) | (go_big_quiet_want; refine quiet_index_digs 28 _ _ rfl Tryd.underlying28 size_digest ys yo 67 mc rfl _ _ rfl 66 rfl (by omega) ?_; go_big_quiet_on; simp only [Act.put, List.setIfInBounds_toArray, List.set_cons_zero, List.set_cons_succ]) | (go_big_quiet_want; refine quiet_load_mid 23 _ rfl ys (yo + 66 * 32) rfl _ y66 _ Tryd.underlying23 rfl (by rw [List.length_map, HP66.out.len]; exact size_digest) ?_; go_big_quiet_on; simp only [Act.put, List.setIfInBounds_toArray, List.set_cons_zero, List.set_cons_succ]) | go_big_quiet_step (fail))
    exact wpQuiet_nil rfl
  refine AlChk.nil ?_
  refine Walk.fin fun w4 hw4 _ _ => ?_
  simp only [List.drop_succ_cons, List.drop_zero]
  have HBw4 := hid (Below.on HBw3.out hw4)
  have hsw4 := HBw4.out.size
  clear hw4
  go_wp2_with fail
  go_returns
  exact ⟨rfl, HBw4.out⟩
end Go.Proofs.YtjkfbeillmeomaaDoor
