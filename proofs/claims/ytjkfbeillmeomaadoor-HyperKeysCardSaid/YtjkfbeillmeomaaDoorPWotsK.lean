/-
  WotsK, WotsLaws: one text.
-/
import Derived.Test.YtjkfbeillmeomaaDoorPWots
import Derived.Test.YtjkfbeillmeomaaDoorPLt
import Derived.Test.YtjkfbeillmeomaaDoorNLate
namespace Go.Proofs.YtjkfbeillmeomaaDoor
open Go.ChangeShapes Go.WideShapes Go.ChangeAt Go.RowKit

theorem dg_zero (i : Nat) (h : i < 64) : dgN zD i = 0 := (by decide +kernel : ∀ i : Fin 64, dgN zD i = 0) ⟨i, h⟩
theorem dg_zero64 : dgN zD 64 = 3 := by decide +kernel
theorem dg_zero66 : dgN zD 66 = 0 := by decide +kernel
theorem sig_part {m seed pub ad : List Int} {i : Nat} (h : dgN m i = 0) : sigP m seed pub ad i = partZ seed ad i := by
  unfold sigP
  rw [h]
  rfl
theorem sig_64 : ¬ sigP zD zD zD zA 64 = partZ zD zA 64 := by
  have h : (sigP zD zD zD zA 64).getD 0 0 ≠ (partZ zD zA 64).getD 0 0 := by decide +kernel
  intro e
  rw [e] at h
  exact h rfl
theorem secret_v (seed ad : List Int) (hseed : Dg seed) (had : Aw ad) (W : World) (tab : ShaTab W) : Calls Tryd.prog 18 #[(.agg (seed.map (Value.int .u8)).toArray), (.agg (ad.map (Value.int .u32)).toArray)] W fun e w' => ∃ v, e = .returned v ∧ Below W.heap.size W w' ∧ RowV 67 (rowW (partZ seed ad)) v w' :=
  (secret_any seed ad W hseed had tab).mono fun _ _ ⟨_, _, h1, h2, h3⟩ => ⟨_, h1, h2, RowV.of_blk h3 (rowW_each (Dg.part seed ad)) 67 (rowW_length _) (by omega)⟩
theorem public_v (seed pub ad : List Int) (hseed : Dg seed) (hpub : Dg pub) (had : Aw ad) (W : World) (tab : ShaTab W) : Calls Tryd.prog 20 #[(.agg (seed.map (Value.int .u8)).toArray), (.agg (pub.map (Value.int .u8)).toArray), (.agg (ad.map (Value.int .u32)).toArray)] W fun e w' => ∃ v, e = .returned v ∧ Below W.heap.size W w' ∧ RowV 67 (rowW (pubP seed pub ad)) v w' :=
  (public_any seed pub ad W hseed hpub had tab).mono fun _ _ ⟨_, _, h1, h2, h3⟩ => ⟨_, h1, h2, RowV.of_blk h3 (rowW_each (Dg.pubP seed pub ad)) 67 (rowW_length _) (by omega)⟩
theorem sign_v (m seed pub ad : List Int) (hm : Dg m) (hseed : Dg seed) (hpub : Dg pub) (had : Aw ad) (W : World) (tab : ShaTab W) : Calls Tryd.prog 23 #[(.agg (m.map (Value.int .u8)).toArray), (.agg (seed.map (Value.int .u8)).toArray), (.agg (pub.map (Value.int .u8)).toArray), (.agg (ad.map (Value.int .u32)).toArray)] W fun e w' => ∃ v, e = .returned v ∧ Below W.heap.size W w' ∧ RowV 67 (rowW (sigP m seed pub ad)) v w' :=
  (sign_any m seed pub ad W hm hseed hpub had tab).mono fun _ _ ⟨_, _, h1, h2, h3⟩ => ⟨_, h1, h2, RowV.of_blk h3 (rowW_each (Dg.sigP m seed pub ad)) 67 (rowW_length _) (by omega)⟩
/-- A row, and that there is no error. -/
def TupV (n : Nat) (ds : List (List Int)) (v : Value) (w : World) : Prop := ∃ a cap, v = .tuple #[.slice a n cap, .int .i64 0] ∧ DigsAt w a n cap ds
theorem TupV.below {n : Nat} {ds : List (List Int)} {v : Value} {w w' : World} (h : TupV n ds v w) (hb : Below w.heap.size w w') : TupV n ds v w' := by
  obtain ⟨a, c, h1, h2⟩ := h
  exact ⟨a, c, h1, h2.below hb⟩
theorem TupV.digs {n c : Nat} {a : Option Addr} {ds : List (List Int)} {w : World} (h : TupV n ds (.tuple #[.slice a n c, .int .i64 0]) w) : DigsAt w a n c ds := by
  obtain ⟨a', c', h1, h2⟩ := h
  simp only [Value.tuple.injEq, Array.mk.injEq, List.cons.injEq, Value.slice.injEq] at h1
  obtain ⟨⟨rfl, _, rfl⟩, _⟩ := h1
  exact h2
theorem from_v (ls : List (List Int)) (na : Option Addr) (nc : Nat) (m pub ad : List Int) (W : World) (hN : DigsAt W na 67 nc ls) (hm : Dg m) (hpub : Dg pub) (had : Aw ad) (tab : ShaTab W) :
    Calls Tryd.prog 25 #[.slice na 67 nc, (.agg (m.map (Value.int .u8)).toArray), (.agg (pub.map (Value.int .u8)).toArray), (.agg (ad.map (Value.int .u32)).toArray)] W fun e w' => ∃ v, e = .returned v ∧ Below W.heap.size W w' ∧ TupV 67 (rowW (fromP ls m pub ad)) v w' :=
  (from_good ls na nc m pub ad W hN hm hpub had tab).mono fun _ _ ⟨_, _, h1, h2, h3⟩ => ⟨_, h1, h2, _, _, rfl, DigsAt.of_blk h3 (rowW_each (Dg.fromP hN.each m pub ad)) (rowW_length _) (Nat.le_refl _) (by omega)⟩
theorem neD_other (xs ys : List Int) (hx : xs.length = 32) (hy : ys.length = 32) (h : ¬ xs = ys) (w : World) : (binOp .neq 23 (.agg (xs.map (Value.int .u8)).toArray) (.agg (ys.map (Value.int .u8)).toArray)).run Tryd.prog w = .ok (.bool true) w := by
  rw [neD xs ys hx hy w, decide_eq_false h]; rfl

set_option maxHeartbeats 4000000 in
set_option maxRecDepth 100000 in
theorem knows08 (w : World) (tab : ShaTab w) : Calls Tryd.prog 22 #[] w fun e w' => e = .returned (.bool true) ∧ Below w.heap.size w w' := by
  have b1 := (Below.refl w.heap.size w).alloc (Nat.le_refl _) (.cells (byteCells 32 []) 23 (0, 0))
  have Kr0 := hid (Blk.new (w := w) (n := w.heap.size) rfl (byteCells 32 []) 23)
  have Hb := hid b1
  have HzA := hid zsize
  have hbz := b1.size
  have Hbs := hid (show w.heap.size + 1 = (w.alloc (.cells (byteCells 32 []) 23 (0, 0))).heap.size by simp only [World.size_alloc])
  have Htab := hid tab
  clear b1 tab
  have Kz0 := Kr0.out
  rw [zD_cells] at Kz0
  have Kr0 := hid Kz0
  clear Kz0
  go_enter Tryd.func22, Tryd.ntmps22
  go_wp2_with (refine wpList_load_blk rfl 23 _ rfl (w.heap.size) rfl _ 23 Kr0.out _ Tryd.underlying23 rfl 32 size_digest Dg.zero.size ?_)
  refine (sign_v zD zD zD zA Dg.zero Dg.zero Dg.zero Aw.zero _ (Htab.out.below Hb.out)).mono ?_
  rintro e w1 ⟨_, rfl, bw1, ⟨la, lc, rfl, ld⟩⟩
  have HBw1 := hid (Below.on Hb.out bw1)
  have hsw1 := HBw1.out.size
  have Kr0w1 := hid (Kr0.out.below bw1)
  have Hlw1 := hid ld
  clear bw1 ld
  have Klw1 := Hlw1
  go_wp2_with (refine wpList_load_blk rfl 23 _ rfl (w.heap.size) rfl _ 23 Kr0w1.out _ Tryd.underlying23 rfl 32 size_digest Dg.zero.size ?_)
  refine (secret_v zD zA Dg.zero Aw.zero _ (Htab.out.below HBw1.out)).mono ?_
  rintro e w2 ⟨_, rfl, bw2, ⟨ma, mc, rfl, md⟩⟩
  have HBw2 := hid (Below.on HBw1.out bw2)
  have hsw2 := HBw2.out.size
  have Kr0w2 := hid (Kr0w1.out.below bw2)
  have Klw2 := hid (Klw1.out.below bw2)
  have Hmw2 := hid md
  clear bw2 md
  have Kmw2 := Hmw2
  go_wp2_with (refine wpList_load_blk rfl 23 _ rfl (w.heap.size) rfl _ 23 Kr0w2.out _ Tryd.underlying23 rfl 32 size_digest Dg.zero.size ?_)
  refine (from_bad none 0 0 zD zD zA _ (by omega)).mono ?_
  rintro e w3 ⟨rfl, bw3⟩
  have HBw3 := hid (Below.on HBw2.out bw3)
  have hsw3 := HBw3.out.size
  have Kr0w3 := hid (Kr0w2.out.below bw3)
  have Klw3 := hid (Klw2.out.below bw3)
  have Kmw3 := hid (Kmw2.out.below bw3)
  clear bw3
  go_wp2_with fail
  obtain ⟨xs, xo, rfl, hxs, hcx⟩ := Klw3.out.at_ (by omega)
  obtain ⟨ys, yo, rfl, hys, hcy⟩ := Kmw3.out.at_ (by omega)
  have hx0 := hcx 0 (by omega)
  have hy0 := hcy 0 (by omega)
  rw [rowW_get _ (by omega)] at hx0 hy0
  rw [sig_part (dg_zero 0 (by omega))] at hx0
  have Hx0 := hid hx0
  have Hy0 := hid hy0
  clear hx0 hy0
  have HP0 := hid (Dg.part zD zA 0)
  have hx63 := hcx 63 (by omega)
  have hy63 := hcy 63 (by omega)
  rw [rowW_get _ (by omega)] at hx63 hy63
  rw [sig_part (dg_zero 63 (by omega))] at hx63
  have Hx63 := hid hx63
  have Hy63 := hid hy63
  clear hx63 hy63
  have HP63 := hid (Dg.part zD zA 63)
  have hx64 := hcx 64 (by omega)
  have hy64 := hcy 64 (by omega)
  rw [rowW_get _ (by omega)] at hx64 hy64
  have Hx64 := hid hx64
  have Hy64 := hid hy64
  clear hx64 hy64
  have HP64 := hid (Dg.part zD zA 64)
  have hx66 := hcx 66 (by omega)
  have hy66 := hcy 66 (by omega)
  rw [rowW_get _ (by omega)] at hx66 hy66
  rw [sig_part dg_zero66] at hx66
  have Hx66 := hid hx66
  have Hy66 := hid hy66
  clear hx66 hy66
  have HP66 := hid (Dg.part zD zA 66)
  have HQ64 := hid (Dg.sigP zD zD zD zA 64)
  have hne := sig_64
  clear hcx hcy
  generalize partZ zD zA 0 = X0 at *
  generalize partZ zD zA 63 = X63 at *
  generalize partZ zD zA 66 = X66 at *
  generalize partZ zD zA 64 = Y64 at *
  generalize sigP zD zD zD zA 64 = X64 at *
  have q0 := fun W => eqD_self X0 HP0.out.len W
  have q63 := fun W => eqD_self X63 HP63.out.len W
  have q66 := fun W => eqD_self X66 HP66.out.len W
  have q64 := fun W => neD_other X64 Y64 HQ64.out.len HP64.out.len hne W
  refine wp_region_flow 48 (List.range 48) [] [] (by kernel_rfl) (by kernel_rfl) ?_
  apply Exists.intro
  refine ⟨fun w0 hb0 hF0 => ?_, ?_⟩
  · skip
    have x0 : ∀ w', (∃ x : Ext w0, w' = x.at_) → w'.rangeAt xs (xo + 0 * 32) (X0.map (Value.int .u8)) := fun w' ⟨x, hx⟩ => hx ▸ rangeAt_below (rangeAt_below Hx0.out hxs hb0) (Nat.lt_of_lt_of_le hxs hb0.size) x.same
    have y0 : ∀ w', (∃ x : Ext w0, w' = x.at_) → w'.rangeAt ys (yo + 0 * 32) (X0.map (Value.int .u8)) := fun w' ⟨x, hx⟩ => hx ▸ rangeAt_below (rangeAt_below Hy0.out hys hb0) (Nat.lt_of_lt_of_le hys hb0.size) x.same
    have x63 : ∀ w', (∃ x : Ext w0, w' = x.at_) → w'.rangeAt xs (xo + 63 * 32) (X63.map (Value.int .u8)) := fun w' ⟨x, hx⟩ => hx ▸ rangeAt_below (rangeAt_below Hx63.out hxs hb0) (Nat.lt_of_lt_of_le hxs hb0.size) x.same
    have y63 : ∀ w', (∃ x : Ext w0, w' = x.at_) → w'.rangeAt ys (yo + 63 * 32) (X63.map (Value.int .u8)) := fun w' ⟨x, hx⟩ => hx ▸ rangeAt_below (rangeAt_below Hy63.out hys hb0) (Nat.lt_of_lt_of_le hys hb0.size) x.same
    have x64 : ∀ w', (∃ x : Ext w0, w' = x.at_) → w'.rangeAt xs (xo + 64 * 32) (X64.map (Value.int .u8)) := fun w' ⟨x, hx⟩ => hx ▸ rangeAt_below (rangeAt_below Hx64.out hxs hb0) (Nat.lt_of_lt_of_le hxs hb0.size) x.same
    have y64 : ∀ w', (∃ x : Ext w0, w' = x.at_) → w'.rangeAt ys (yo + 64 * 32) (Y64.map (Value.int .u8)) := fun w' ⟨x, hx⟩ => hx ▸ rangeAt_below (rangeAt_below Hy64.out hys hb0) (Nat.lt_of_lt_of_le hys hb0.size) x.same
    have x66 : ∀ w', (∃ x : Ext w0, w' = x.at_) → w'.rangeAt xs (xo + 66 * 32) (X66.map (Value.int .u8)) := fun w' ⟨x, hx⟩ => hx ▸ rangeAt_below (rangeAt_below Hx66.out hxs hb0) (Nat.lt_of_lt_of_le hxs hb0.size) x.same
    have y66 : ∀ w', (∃ x : Ext w0, w' = x.at_) → w'.rangeAt ys (yo + 66 * 32) (X66.map (Value.int .u8)) := fun w' ⟨x, hx⟩ => hx ▸ rangeAt_below (rangeAt_below Hy66.out hys hb0) (Nat.lt_of_lt_of_le hys hb0.size) x.same
    simp only [pick, List.range, List.range.loop, List.getElem?_toArray, List.getElem?_cons_succ, List.getElem?_cons_zero, Option.toList_some, List.cons_append, List.nil_append]
    repeat (first | (go_big_quiet_want; refine quiet_cmp _ _ rfl _ _ _ rfl rfl q0 ?_; go_big_quiet_on; simp only [Act.put, List.setIfInBounds_toArray, List.set_cons_zero, List.set_cons_succ]) | (go_big_quiet_want; refine quiet_cmp _ _ rfl _ _ _ rfl rfl q63 ?_; go_big_quiet_on; simp only [Act.put, List.setIfInBounds_toArray, List.set_cons_zero, List.set_cons_succ]) | (go_big_quiet_want; refine quiet_cmp _ _ rfl _ _ _ rfl rfl q64 ?_; go_big_quiet_on; simp only [Act.put, List.setIfInBounds_toArray, List.set_cons_zero, List.set_cons_succ]) | (go_big_quiet_want; refine quiet_cmp _ _ rfl _ _ _ rfl rfl q66 ?_; go_big_quiet_on; simp only [Act.put, List.setIfInBounds_toArray, List.set_cons_zero, List.set_cons_succ]) | (go_big_quiet_want; refine quiet_index_digs 28 _ _ rfl Tryd.underlying28 size_digest xs xo 67 lc rfl _ _ rfl 0 rfl (by omega) ?_; go_big_quiet_on; simp only [Act.put, List.setIfInBounds_toArray, List.set_cons_zero, List.set_cons_succ]) | (go_big_quiet_want; refine quiet_load_mid 23 _ rfl xs (xo + 0 * 32) rfl _ x0 _ Tryd.underlying23 rfl (by rw [List.length_map, HP0.out.len]; exact size_digest) ?_; go_big_quiet_on; simp only [Act.put, List.setIfInBounds_toArray, List.set_cons_zero, List.set_cons_succ]) | (go_big_quiet_want; refine quiet_index_digs 28 _ _ rfl Tryd.underlying28 size_digest ys yo 67 mc rfl _ _ rfl 0 rfl (by omega) ?_; go_big_quiet_on; simp only [Act.put, List.setIfInBounds_toArray, List.set_cons_zero, List.set_cons_succ]) | (go_big_quiet_want; refine quiet_load_mid 23 _ rfl ys (yo + 0 * 32) rfl _ y0 _ Tryd.underlying23 rfl (by rw [List.length_map, HP0.out.len]; exact size_digest) ?_; go_big_quiet_on; simp only [Act.put, List.setIfInBounds_toArray, List.set_cons_zero, List.set_cons_succ]) | (go_big_quiet_want; refine quiet_index_digs 28 _ _ rfl Tryd.underlying28 size_digest xs xo 67 lc rfl _ _ rfl 63 rfl (by omega) ?_; go_big_quiet_on; simp only [Act.put, List.setIfInBounds_toArray, List.set_cons_zero, List.set_cons_succ]) | (go_big_quiet_want; refine quiet_load_mid 23 _ rfl xs (xo + 63 * 32) rfl _ x63 _ Tryd.underlying23 rfl (by rw [List.length_map, HP63.out.len]; exact size_digest) ?_; go_big_quiet_on; simp only [Act.put, List.setIfInBounds_toArray, List.set_cons_zero, List.set_cons_succ]) | (go_big_quiet_want; refine quiet_index_digs 28 _ _ rfl Tryd.underlying28 size_digest ys yo 67 mc rfl _ _ rfl 63 rfl (by omega) ?_; go_big_quiet_on; simp only [Act.put, List.setIfInBounds_toArray, List.set_cons_zero, List.set_cons_succ]) | (go_big_quiet_want; refine quiet_load_mid 23 _ rfl ys (yo + 63 * 32) rfl _ y63 _ Tryd.underlying23 rfl (by rw [List.length_map, HP63.out.len]; exact size_digest) ?_; go_big_quiet_on; simp only [Act.put, List.setIfInBounds_toArray, List.set_cons_zero, List.set_cons_succ]) | (go_big_quiet_want; refine quiet_index_digs 28 _ _ rfl Tryd.underlying28 size_digest xs xo 67 lc rfl _ _ rfl 64 rfl (by omega) ?_; go_big_quiet_on; simp only [Act.put, List.setIfInBounds_toArray, List.set_cons_zero, List.set_cons_succ]) | (go_big_quiet_want; refine quiet_load_mid 23 _ rfl xs (xo + 64 * 32) rfl _ x64 _ Tryd.underlying23 rfl (by rw [List.length_map, HQ64.out.len]; exact size_digest) ?_; go_big_quiet_on; simp only [Act.put, List.setIfInBounds_toArray, List.set_cons_zero, List.set_cons_succ]) | (go_big_quiet_want; refine quiet_index_digs 28 _ _ rfl Tryd.underlying28 size_digest ys yo 67 mc rfl _ _ rfl 64 rfl (by omega) ?_; go_big_quiet_on; simp only [Act.put, List.setIfInBounds_toArray, List.set_cons_zero, List.set_cons_succ]) | (go_big_quiet_want; refine quiet_load_mid 23 _ rfl ys (yo + 64 * 32) rfl _ y64 _ Tryd.underlying23 rfl (by rw [List.length_map, HP64.out.len]; exact size_digest) ?_; go_big_quiet_on; simp only [Act.put, List.setIfInBounds_toArray, List.set_cons_zero, List.set_cons_succ]) | (go_big_quiet_want; refine quiet_index_digs 28 _ _ rfl Tryd.underlying28 size_digest xs xo 67 lc rfl _ _ rfl 66 rfl (by omega) ?_; go_big_quiet_on; simp only [Act.put, List.setIfInBounds_toArray, List.set_cons_zero, List.set_cons_succ]) | (go_big_quiet_want; refine quiet_load_mid 23 _ rfl xs (xo + 66 * 32) rfl _ x66 _ Tryd.underlying23 rfl (by rw [List.length_map, HP66.out.len]; exact size_digest) ?_; go_big_quiet_on; simp only [Act.put, List.setIfInBounds_toArray, List.set_cons_zero, List.set_cons_succ]) | (go_big_quiet_want; refine quiet_index_digs 28 _ _ rfl Tryd.underlying28 size_digest ys yo 67 mc rfl _ _ rfl 66 rfl (by omega) ?_; go_big_quiet_on; simp only [Act.put, List.setIfInBounds_toArray, List.set_cons_zero, List.set_cons_succ]) | (go_big_quiet_want; refine quiet_load_mid 23 _ rfl ys (yo + 66 * 32) rfl _ y66 _ Tryd.underlying23 rfl (by rw [List.length_map, HP66.out.len]; exact size_digest) ?_; go_big_quiet_on; simp only [Act.put, List.setIfInBounds_toArray, List.set_cons_zero, List.set_cons_succ]) | go_big_quiet_step (fail))
    exact wpQuiet_nil rfl
  refine AlChk.nil ?_
  refine Walk.fin fun w4 hw4 _ _ => ?_
  simp only [List.drop_succ_cons, List.drop_zero]
  have HBw4 := hid (Below.on HBw3.out hw4)
  have hsw4 := HBw4.out.size
  clear hw4
  go_wp2_with fail
  go_returns
  exact ⟨rfl, HBw4.out⟩
end Go.Proofs.YtjkfbeillmeomaaDoor

namespace Go.Proofs.YtjkfbeillmeomaaDoor
open Go.ChangeShapes Go.WideShapes Go.ChangeAt Go.RowKit

theorem meets_row {m seed pub ad : List Int} (hm : Dg m) : rowW (fromP (rowW (sigP m seed pub ad)) m pub ad) = rowW (pubP seed pub ad) := by
  unfold rowW
  apply List.map_congr_left
  intro i hi
  have hi := List.mem_range.1 hi
  have h1 := dgN_le hm i
  unfold fromP
  rw [getZ (by rw [List.length_map, List.length_range]; exact hi)]
  rw [show (List.map (sigP m seed pub ad) (List.range 67)).getD i [] = sigP m seed pub ad i from rowW_get _ hi]
  unfold sigP pubP
  have h2 := runZ_add pub (setAd ad i 0 0) (partZ seed ad i) 0 (dgN m i) (15 - dgN m i)
  rw [Nat.zero_add, show dgN m i + (15 - dgN m i) = 15 by omega] at h2
  exact h2


set_option maxHeartbeats 4000000 in
set_option maxRecDepth 100000 in
theorem wotsKeys_any (seed pub ad : List Int) (w : World) (hseed : Dg seed) (hpub : Dg pub) (had : Aw ad) (tab : ShaTab w) :
    Calls Tryd.prog 3 #[(.agg (seed.map (Value.int .u8)).toArray), (.agg (pub.map (Value.int .u8)).toArray), (.agg (ad.map (Value.int .u32)).toArray)] w fun e w' => e = .returned (.bool true) ∧ Below w.heap.size w w' := by
  have b1 := (Below.refl w.heap.size w).alloc (Nat.le_refl _) (.cells (seed.map (Value.int .u8)).toArray 23 (0, 0))
  have b2 := b1.alloc b1.size (.cells (pub.map (Value.int .u8)).toArray 23 (0, 0))
  have b3 := b2.alloc b2.size (.cells (ad.map (Value.int .u32)).toArray 26 (0, 0))
  have Ks := hid (((Blk.new (w := w) (n := w.heap.size) rfl (seed.map (Value.int .u8)).toArray 23).old (.cells (pub.map (Value.int .u8)).toArray 23 (0, 0))).old (.cells (ad.map (Value.int .u32)).toArray 26 (0, 0)))
  have Kp := hid ((Blk.new (w := (w.alloc (.cells (seed.map (Value.int .u8)).toArray 23 (0, 0)))) (n := w.heap.size + 1) (by simp only [World.size_alloc]) (pub.map (Value.int .u8)).toArray 23).old (.cells (ad.map (Value.int .u32)).toArray 26 (0, 0)))
  have Kad := hid (Blk.new (w := ((w.alloc (.cells (seed.map (Value.int .u8)).toArray 23 (0, 0))).alloc (.cells (pub.map (Value.int .u8)).toArray 23 (0, 0)))) (n := w.heap.size + 1 + 1) (by simp only [World.size_alloc]) (ad.map (Value.int .u32)).toArray 26)
  have Hb := hid b3
  have HzA := hid zsize
  have hbz := b3.size
  have Hbs := hid (show w.heap.size + 1 + 1 + 1 = (((w.alloc (.cells (seed.map (Value.int .u8)).toArray 23 (0, 0))).alloc (.cells (pub.map (Value.int .u8)).toArray 23 (0, 0))).alloc (.cells (ad.map (Value.int .u32)).toArray 26 (0, 0))).heap.size by simp only [World.size_alloc])
  have Htab := hid tab
  clear b1 b2 b3 tab
  go_enter Tryd.func3, Tryd.ntmps3
  go_wp2_with fail
  refine wp_region_flow 21 [0, 1, 3, 4] [] [(.c 2, [], []), (.c 5, [6, 7, 8, 9, 10, 12, 13, 14], []), (.c 11, [], []), (.c 15, [16, 17, 18, 19, 20], [])] (by kernel_rfl) (by kernel_rfl) ?_
  apply Exists.intro
  refine ⟨fun w0 hb0 hF0 => ?_, ?_⟩
  · skip
    have x0 : ∀ w', (∃ x : Ext w0, w' = x.at_) → ∃ T, Blk w' (w.heap.size) (seed.map (Value.int .u8)).toArray T := fun w' ⟨x, hx⟩ => ⟨_, hx ▸ (Ks.out.below hb0).below x.same⟩
    have x1 : ∀ w', (∃ x : Ext w0, w' = x.at_) → ∃ T, Blk w' (w.heap.size + 1 + 1) (ad.map (Value.int .u32)).toArray T := fun w' ⟨x, hx⟩ => ⟨_, hx ▸ (Kad.out.below hb0).below x.same⟩
    simp only [pick, List.getElem?_toArray, List.getElem?_cons_succ, List.getElem?_cons_zero, Option.toList_some, List.cons_append, List.nil_append]
    repeat (first | (go_big_quiet_want; refine quiet_load_blk 23 _ rfl (w.heap.size) rfl _ x0 _ Tryd.underlying23 rfl 32 size_digest hseed.size ?_; go_big_quiet_on; simp only [Act.put, List.setIfInBounds_toArray, List.set_cons_zero, List.set_cons_succ]) | (go_big_quiet_want; refine quiet_load_blk 26 _ rfl (w.heap.size + 1 + 1) rfl _ x1 _ Tryd.underlying26 rfl 8 sizeAdrs had.size ?_; go_big_quiet_on; simp only [Act.put, List.setIfInBounds_toArray, List.set_cons_zero, List.set_cons_succ]) | go_big_quiet_step (fail))
    exact wpQuiet_nil rfl
  refine AlChk.nil ?_
  refine Walk.call rfl 18 #[(.agg (seed.map (Value.int .u8)).toArray), (.agg (ad.map (Value.int .u32)).toArray)] (RowV 67 (rowW (partZ seed ad))) (fun v w' w'' h k => h.below k) rfl (fun w1 hb1 hF1 => ⟨by go_simp, ?_⟩) ?_
  · skip
    exact secret_v seed ad hseed had w1 ((Htab.out.below Hb.out).below hb1)
  rintro v0 w1 hb1 hF1 ⟨pa, pc, rfl, _⟩
  apply Exists.intro
  refine ⟨fun w0 hb0 hF0 => ?_, ?_⟩
  · skip
    exact wpQuiet_nil rfl
  refine AlChk.nil ?_
  refine Walk.call rfl 19 #[(.agg (seed.map (Value.int .u8)).toArray), (.agg (ad.map (Value.int .u32)).toArray)] (RowV 67 (rowW (partZ seed ad))) (fun v w' w'' h k => h.below k) rfl (fun w1 hb1 hF1 => ⟨by go_simp, ?_⟩) ?_
  · skip
    exact refsecret_v seed ad hseed had w1
  rintro v1 w1 hb1 hF1 ⟨qa, qc, rfl, _⟩
  apply Exists.intro
  refine ⟨fun w0 hb0 hF0 => ?_, ?_⟩
  · skip
    have x0 : ∀ w', (∃ x : Ext w0, w' = x.at_) → ∃ T, Blk w' (w.heap.size) (seed.map (Value.int .u8)).toArray T := fun w' ⟨x, hx⟩ => ⟨_, hx ▸ (Ks.out.below hb0).below x.same⟩
    have x1 : ∀ w', (∃ x : Ext w0, w' = x.at_) → ∃ T, Blk w' (w.heap.size + 1) (pub.map (Value.int .u8)).toArray T := fun w' ⟨x, hx⟩ => ⟨_, hx ▸ (Kp.out.below hb0).below x.same⟩
    have x2 : ∀ w', (∃ x : Ext w0, w' = x.at_) → ∃ T, Blk w' (w.heap.size + 1 + 1) (ad.map (Value.int .u32)).toArray T := fun w' ⟨x, hx⟩ => ⟨_, hx ▸ (Kad.out.below hb0).below x.same⟩
    have c0 := fun e : Ext w0 => same_any pa qa 67 pc qc _ e.at_ ((show RowV 67 (rowW (partZ seed ad)) _ w0 from hF0.1.2).below e.same).digs.2 ((show RowV 67 (rowW (partZ seed ad)) _ w0 from hF0.2).below e.same).digs.2
    simp only [pick, List.getElem?_toArray, List.getElem?_cons_succ, List.getElem?_cons_zero, Option.toList_some, List.cons_append, List.nil_append, Act.put, List.setIfInBounds_toArray, List.set_cons_zero, List.set_cons_succ]
    repeat (first | (go_big_quiet_want; refine quiet_load_blk 23 _ rfl (w.heap.size) rfl _ x0 _ Tryd.underlying23 rfl 32 size_digest hseed.size ?_; go_big_quiet_on; simp only [Act.put, List.setIfInBounds_toArray, List.set_cons_zero, List.set_cons_succ]) | (go_big_quiet_want; refine quiet_load_blk 23 _ rfl (w.heap.size + 1) rfl _ x1 _ Tryd.underlying23 rfl 32 size_digest hpub.size ?_; go_big_quiet_on; simp only [Act.put, List.setIfInBounds_toArray, List.set_cons_zero, List.set_cons_succ]) | (go_big_quiet_want; refine quiet_load_blk 26 _ rfl (w.heap.size + 1 + 1) rfl _ x2 _ Tryd.underlying26 rfl 8 sizeAdrs had.size ?_; go_big_quiet_on; simp only [Act.put, List.setIfInBounds_toArray, List.set_cons_zero, List.set_cons_succ]) | go_big_quiet_step (first | (go_at_call 17; with_reducible exact Calls.ext (c0 _))))
    exact wpQuiet_nil rfl
  refine AlChk.nil ?_
  refine Walk.call rfl 20 #[(.agg (seed.map (Value.int .u8)).toArray), (.agg (pub.map (Value.int .u8)).toArray), (.agg (ad.map (Value.int .u32)).toArray)] (RowV 67 (rowW (pubP seed pub ad))) (fun v w' w'' h k => h.below k) rfl (fun w1 hb1 hF1 => ⟨by go_simp, ?_⟩) ?_
  · skip
    exact public_v seed pub ad hseed hpub had w1 ((Htab.out.below Hb.out).below hb1)
  rintro v2 w1 hb1 hF1 ⟨ra, rc, rfl, _⟩
  apply Exists.intro
  refine ⟨fun w0 hb0 hF0 => ?_, ?_⟩
  · skip
    exact wpQuiet_nil rfl
  refine AlChk.nil ?_
  refine Walk.call rfl 21 #[(.agg (seed.map (Value.int .u8)).toArray), (.agg (pub.map (Value.int .u8)).toArray), (.agg (ad.map (Value.int .u32)).toArray)] (RowV 67 (rowW (pubP seed pub ad))) (fun v w' w'' h k => h.below k) rfl (fun w1 hb1 hF1 => ⟨by go_simp, ?_⟩) ?_
  · skip
    exact refpublic_any seed pub ad w1 hseed hpub had
  rintro v3 w1 hb1 hF1 ⟨ta, tc, rfl, _⟩
  apply Exists.intro
  refine ⟨fun w0 hb0 hF0 => ?_, ?_⟩
  · skip
    have c0 := fun e : Ext w0 => same_any ra ta 67 rc tc _ e.at_ ((show RowV 67 (rowW (pubP seed pub ad)) _ w0 from hF0.1.2).below e.same).digs.2 ((show RowV 67 (rowW (pubP seed pub ad)) _ w0 from hF0.2).below e.same).digs.2
    have c1 := fun e : Ext w0 => knows08 e.at_ ((Htab.out.below (Below.on Hb.out hb0)).below e.same)
    simp only [pick, List.getElem?_toArray, List.getElem?_cons_succ, List.getElem?_cons_zero, Option.toList_some, List.cons_append, List.nil_append, Act.put, List.setIfInBounds_toArray, List.set_cons_zero, List.set_cons_succ]
    repeat (first | go_big_quiet_step (first | (go_at_call 17; with_reducible exact Calls.ext (c0 _)) | (go_at_call 22; with_reducible exact Calls.ext (c1 _))))
    exact wpQuiet_nil rfl
  refine AlChk.nil ?_
  refine Walk.fin fun w1 hw1 hFw1 _ => ?_
  simp only [List.drop_succ_cons, List.drop_zero]
  have HFw1 := hid hFw1
  have HBw1 := hid (Below.on Hb.out hw1)
  have hsw1 := HBw1.out.size
  have Ksw1 := hid (Ks.out.below hw1)
  have Kpw1 := hid (Kp.out.below hw1)
  have Kadw1 := hid (Kad.out.below hw1)
  clear hw1 hFw1
  go_wp2_with fail
  go_returns
  exact ⟨rfl, HBw1.out⟩

set_option maxHeartbeats 4000000 in
set_option maxRecDepth 100000 in
theorem wotsSigns_any (m seed pub ad : List Int) (w : World) (hm : Dg m) (hseed : Dg seed) (hpub : Dg pub) (had : Aw ad) (tab : ShaTab w) :
    Calls Tryd.prog 4 #[(.agg (m.map (Value.int .u8)).toArray), (.agg (seed.map (Value.int .u8)).toArray), (.agg (pub.map (Value.int .u8)).toArray), (.agg (ad.map (Value.int .u32)).toArray)] w fun e w' => e = .returned (.bool true) ∧ Below w.heap.size w w' := by
  have b1 := (Below.refl w.heap.size w).alloc (Nat.le_refl _) (.cells (m.map (Value.int .u8)).toArray 23 (0, 0))
  have b2 := b1.alloc b1.size (.cells (seed.map (Value.int .u8)).toArray 23 (0, 0))
  have b3 := b2.alloc b2.size (.cells (pub.map (Value.int .u8)).toArray 23 (0, 0))
  have b4 := b3.alloc b3.size (.cells (ad.map (Value.int .u32)).toArray 26 (0, 0))
  have Km := hid ((((Blk.new (w := w) (n := w.heap.size) rfl (m.map (Value.int .u8)).toArray 23).old (.cells (seed.map (Value.int .u8)).toArray 23 (0, 0))).old (.cells (pub.map (Value.int .u8)).toArray 23 (0, 0))).old (.cells (ad.map (Value.int .u32)).toArray 26 (0, 0)))
  have Ks := hid (((Blk.new (w := (w.alloc (.cells (m.map (Value.int .u8)).toArray 23 (0, 0)))) (n := w.heap.size + 1) (by simp only [World.size_alloc]) (seed.map (Value.int .u8)).toArray 23).old (.cells (pub.map (Value.int .u8)).toArray 23 (0, 0))).old (.cells (ad.map (Value.int .u32)).toArray 26 (0, 0)))
  have Kp := hid ((Blk.new (w := ((w.alloc (.cells (m.map (Value.int .u8)).toArray 23 (0, 0))).alloc (.cells (seed.map (Value.int .u8)).toArray 23 (0, 0)))) (n := w.heap.size + 1 + 1) (by simp only [World.size_alloc]) (pub.map (Value.int .u8)).toArray 23).old (.cells (ad.map (Value.int .u32)).toArray 26 (0, 0)))
  have Kad := hid (Blk.new (w := (((w.alloc (.cells (m.map (Value.int .u8)).toArray 23 (0, 0))).alloc (.cells (seed.map (Value.int .u8)).toArray 23 (0, 0))).alloc (.cells (pub.map (Value.int .u8)).toArray 23 (0, 0)))) (n := w.heap.size + 1 + 1 + 1) (by simp only [World.size_alloc]) (ad.map (Value.int .u32)).toArray 26)
  have Hb := hid b4
  have HzA := hid zsize
  have hbz := b4.size
  have Hbs := hid (show w.heap.size + 1 + 1 + 1 + 1 = ((((w.alloc (.cells (m.map (Value.int .u8)).toArray 23 (0, 0))).alloc (.cells (seed.map (Value.int .u8)).toArray 23 (0, 0))).alloc (.cells (pub.map (Value.int .u8)).toArray 23 (0, 0))).alloc (.cells (ad.map (Value.int .u32)).toArray 26 (0, 0))).heap.size by simp only [World.size_alloc])
  have Htab := hid tab
  clear b1 b2 b3 b4 tab
  go_enter Tryd.func4, Tryd.ntmps4
  go_wp2_with fail
  refine wp_region_flow 14 [0, 1, 2, 3, 5, 6, 7, 8] [] [(.c 4, [], []), (.c 9, [10, 11, 12, 13], [])] (by kernel_rfl) (by kernel_rfl) ?_
  apply Exists.intro
  refine ⟨fun w0 hb0 hF0 => ?_, ?_⟩
  · skip
    have x0 : ∀ w', (∃ x : Ext w0, w' = x.at_) → ∃ T, Blk w' (w.heap.size) (m.map (Value.int .u8)).toArray T := fun w' ⟨x, hx⟩ => ⟨_, hx ▸ (Km.out.below hb0).below x.same⟩
    have x1 : ∀ w', (∃ x : Ext w0, w' = x.at_) → ∃ T, Blk w' (w.heap.size + 1) (seed.map (Value.int .u8)).toArray T := fun w' ⟨x, hx⟩ => ⟨_, hx ▸ (Ks.out.below hb0).below x.same⟩
    have x2 : ∀ w', (∃ x : Ext w0, w' = x.at_) → ∃ T, Blk w' (w.heap.size + 1 + 1) (pub.map (Value.int .u8)).toArray T := fun w' ⟨x, hx⟩ => ⟨_, hx ▸ (Kp.out.below hb0).below x.same⟩
    have x3 : ∀ w', (∃ x : Ext w0, w' = x.at_) → ∃ T, Blk w' (w.heap.size + 1 + 1 + 1) (ad.map (Value.int .u32)).toArray T := fun w' ⟨x, hx⟩ => ⟨_, hx ▸ (Kad.out.below hb0).below x.same⟩
    simp only [pick, List.getElem?_toArray, List.getElem?_cons_succ, List.getElem?_cons_zero, Option.toList_some, List.cons_append, List.nil_append]
    repeat (first | (go_big_quiet_want; refine quiet_load_blk 23 _ rfl (w.heap.size) rfl _ x0 _ Tryd.underlying23 rfl 32 size_digest hm.size ?_; go_big_quiet_on; simp only [Act.put, List.setIfInBounds_toArray, List.set_cons_zero, List.set_cons_succ]) | (go_big_quiet_want; refine quiet_load_blk 23 _ rfl (w.heap.size + 1) rfl _ x1 _ Tryd.underlying23 rfl 32 size_digest hseed.size ?_; go_big_quiet_on; simp only [Act.put, List.setIfInBounds_toArray, List.set_cons_zero, List.set_cons_succ]) | (go_big_quiet_want; refine quiet_load_blk 23 _ rfl (w.heap.size + 1 + 1) rfl _ x2 _ Tryd.underlying23 rfl 32 size_digest hpub.size ?_; go_big_quiet_on; simp only [Act.put, List.setIfInBounds_toArray, List.set_cons_zero, List.set_cons_succ]) | (go_big_quiet_want; refine quiet_load_blk 26 _ rfl (w.heap.size + 1 + 1 + 1) rfl _ x3 _ Tryd.underlying26 rfl 8 sizeAdrs had.size ?_; go_big_quiet_on; simp only [Act.put, List.setIfInBounds_toArray, List.set_cons_zero, List.set_cons_succ]) | go_big_quiet_step (fail))
    exact wpQuiet_nil rfl
  refine AlChk.nil ?_
  refine Walk.call rfl 23 #[(.agg (m.map (Value.int .u8)).toArray), (.agg (seed.map (Value.int .u8)).toArray), (.agg (pub.map (Value.int .u8)).toArray), (.agg (ad.map (Value.int .u32)).toArray)] (RowV 67 (rowW (sigP m seed pub ad))) (fun v w' w'' h k => h.below k) rfl (fun w1 hb1 hF1 => ⟨by go_simp, ?_⟩) ?_
  · skip
    exact sign_v m seed pub ad hm hseed hpub had w1 ((Htab.out.below Hb.out).below hb1)
  rintro v0 w1 hb1 hF1 ⟨pa, pc, rfl, _⟩
  apply Exists.intro
  refine ⟨fun w0 hb0 hF0 => ?_, ?_⟩
  · skip
    exact wpQuiet_nil rfl
  refine AlChk.nil ?_
  refine Walk.call rfl 24 #[(.agg (m.map (Value.int .u8)).toArray), (.agg (seed.map (Value.int .u8)).toArray), (.agg (pub.map (Value.int .u8)).toArray), (.agg (ad.map (Value.int .u32)).toArray)] (RowV 67 (rowW (sigP m seed pub ad))) (fun v w' w'' h k => h.below k) rfl (fun w1 hb1 hF1 => ⟨by go_simp, ?_⟩) ?_
  · skip
    exact refsign_any m seed pub ad w1 hm hseed hpub had
  rintro v1 w1 hb1 hF1 ⟨qa, qc, rfl, _⟩
  apply Exists.intro
  refine ⟨fun w0 hb0 hF0 => ?_, ?_⟩
  · skip
    have c0 := fun e : Ext w0 => same_any pa qa 67 pc qc _ e.at_ ((show RowV 67 (rowW (sigP m seed pub ad)) _ w0 from hF0.1.2).below e.same).digs.2 ((show RowV 67 (rowW (sigP m seed pub ad)) _ w0 from hF0.2).below e.same).digs.2
    have c1 := fun e : Ext w0 => knows08 e.at_ ((Htab.out.below (Below.on Hb.out hb0)).below e.same)
    simp only [pick, List.getElem?_toArray, List.getElem?_cons_succ, List.getElem?_cons_zero, Option.toList_some, List.cons_append, List.nil_append, Act.put, List.setIfInBounds_toArray, List.set_cons_zero, List.set_cons_succ]
    repeat (first | go_big_quiet_step (first | (go_at_call 17; with_reducible exact Calls.ext (c0 _)) | (go_at_call 22; with_reducible exact Calls.ext (c1 _))))
    exact wpQuiet_nil rfl
  refine AlChk.nil ?_
  refine Walk.fin fun w1 hw1 hFw1 _ => ?_
  simp only [List.drop_succ_cons, List.drop_zero]
  have HFw1 := hid hFw1
  have HBw1 := hid (Below.on Hb.out hw1)
  have hsw1 := HBw1.out.size
  have Kmw1 := hid (Km.out.below hw1)
  have Ksw1 := hid (Ks.out.below hw1)
  have Kpw1 := hid (Kp.out.below hw1)
  have Kadw1 := hid (Kad.out.below hw1)
  clear hw1 hFw1
  go_wp2_with fail
  go_returns
  exact ⟨rfl, HBw1.out⟩

set_option maxHeartbeats 4000000 in
set_option maxRecDepth 100000 in
theorem wotsMeets_any (m seed pub ad : List Int) (w : World) (hm : Dg m) (hseed : Dg seed) (hpub : Dg pub) (had : Aw ad) (tab : ShaTab w) :
    Calls Tryd.prog 6 #[(.agg (m.map (Value.int .u8)).toArray), (.agg (seed.map (Value.int .u8)).toArray), (.agg (pub.map (Value.int .u8)).toArray), (.agg (ad.map (Value.int .u32)).toArray)] w fun e w' => e = .returned (.bool true) ∧ Below w.heap.size w w' := by
  have b1 := (Below.refl w.heap.size w).alloc (Nat.le_refl _) (.cells (m.map (Value.int .u8)).toArray 23 (0, 0))
  have b2 := b1.alloc b1.size (.cells (seed.map (Value.int .u8)).toArray 23 (0, 0))
  have b3 := b2.alloc b2.size (.cells (pub.map (Value.int .u8)).toArray 23 (0, 0))
  have b4 := b3.alloc b3.size (.cells (ad.map (Value.int .u32)).toArray 26 (0, 0))
  have Km := hid ((((Blk.new (w := w) (n := w.heap.size) rfl (m.map (Value.int .u8)).toArray 23).old (.cells (seed.map (Value.int .u8)).toArray 23 (0, 0))).old (.cells (pub.map (Value.int .u8)).toArray 23 (0, 0))).old (.cells (ad.map (Value.int .u32)).toArray 26 (0, 0)))
  have Ks := hid (((Blk.new (w := (w.alloc (.cells (m.map (Value.int .u8)).toArray 23 (0, 0)))) (n := w.heap.size + 1) (by simp only [World.size_alloc]) (seed.map (Value.int .u8)).toArray 23).old (.cells (pub.map (Value.int .u8)).toArray 23 (0, 0))).old (.cells (ad.map (Value.int .u32)).toArray 26 (0, 0)))
  have Kp := hid ((Blk.new (w := ((w.alloc (.cells (m.map (Value.int .u8)).toArray 23 (0, 0))).alloc (.cells (seed.map (Value.int .u8)).toArray 23 (0, 0)))) (n := w.heap.size + 1 + 1) (by simp only [World.size_alloc]) (pub.map (Value.int .u8)).toArray 23).old (.cells (ad.map (Value.int .u32)).toArray 26 (0, 0)))
  have Kad := hid (Blk.new (w := (((w.alloc (.cells (m.map (Value.int .u8)).toArray 23 (0, 0))).alloc (.cells (seed.map (Value.int .u8)).toArray 23 (0, 0))).alloc (.cells (pub.map (Value.int .u8)).toArray 23 (0, 0)))) (n := w.heap.size + 1 + 1 + 1) (by simp only [World.size_alloc]) (ad.map (Value.int .u32)).toArray 26)
  have Hb := hid b4
  have HzA := hid zsize
  have hbz := b4.size
  have Hbs := hid (show w.heap.size + 1 + 1 + 1 + 1 = ((((w.alloc (.cells (m.map (Value.int .u8)).toArray 23 (0, 0))).alloc (.cells (seed.map (Value.int .u8)).toArray 23 (0, 0))).alloc (.cells (pub.map (Value.int .u8)).toArray 23 (0, 0))).alloc (.cells (ad.map (Value.int .u32)).toArray 26 (0, 0))).heap.size by simp only [World.size_alloc])
  have Htab := hid tab
  clear b1 b2 b3 b4 tab
  go_enter Tryd.func6, Tryd.ntmps6
  go_wp2_with fail
  refine wp_region_late 12 11 12 [0, 1, 2, 3, 5, 6, 7] [] [(.c 4, [], []), (.c 8, [9, 10, 11], [])] (by kernel_rfl) (by kernel_rfl) rfl (by kernel_rfl) (fun _ _ d _ _ h => by cases d <;> exact h) ?_
  simp only [late]
  apply Exists.intro
  refine ⟨fun w0 hb0 hF0 => ?_, ?_⟩
  · skip
    have x0 : ∀ w', (∃ x : Ext w0, w' = x.at_) → ∃ T, Blk w' (w.heap.size) (m.map (Value.int .u8)).toArray T := fun w' ⟨x, hx⟩ => ⟨_, hx ▸ (Km.out.below hb0).below x.same⟩
    have x1 : ∀ w', (∃ x : Ext w0, w' = x.at_) → ∃ T, Blk w' (w.heap.size + 1) (seed.map (Value.int .u8)).toArray T := fun w' ⟨x, hx⟩ => ⟨_, hx ▸ (Ks.out.below hb0).below x.same⟩
    have x2 : ∀ w', (∃ x : Ext w0, w' = x.at_) → ∃ T, Blk w' (w.heap.size + 1 + 1) (pub.map (Value.int .u8)).toArray T := fun w' ⟨x, hx⟩ => ⟨_, hx ▸ (Kp.out.below hb0).below x.same⟩
    have x3 : ∀ w', (∃ x : Ext w0, w' = x.at_) → ∃ T, Blk w' (w.heap.size + 1 + 1 + 1) (ad.map (Value.int .u32)).toArray T := fun w' ⟨x, hx⟩ => ⟨_, hx ▸ (Kad.out.below hb0).below x.same⟩
    simp only [pick, List.getElem?_toArray, List.getElem?_cons_succ, List.getElem?_cons_zero, Option.toList_some, List.cons_append, List.nil_append]
    repeat (first | (go_big_quiet_want; refine quiet_load_blk 23 _ rfl (w.heap.size) rfl _ x0 _ Tryd.underlying23 rfl 32 size_digest hm.size ?_; go_big_quiet_on; simp only [Act.put, List.setIfInBounds_toArray, List.set_cons_zero, List.set_cons_succ]) | (go_big_quiet_want; refine quiet_load_blk 23 _ rfl (w.heap.size + 1) rfl _ x1 _ Tryd.underlying23 rfl 32 size_digest hseed.size ?_; go_big_quiet_on; simp only [Act.put, List.setIfInBounds_toArray, List.set_cons_zero, List.set_cons_succ]) | (go_big_quiet_want; refine quiet_load_blk 23 _ rfl (w.heap.size + 1 + 1) rfl _ x2 _ Tryd.underlying23 rfl 32 size_digest hpub.size ?_; go_big_quiet_on; simp only [Act.put, List.setIfInBounds_toArray, List.set_cons_zero, List.set_cons_succ]) | (go_big_quiet_want; refine quiet_load_blk 26 _ rfl (w.heap.size + 1 + 1 + 1) rfl _ x3 _ Tryd.underlying26 rfl 8 sizeAdrs had.size ?_; go_big_quiet_on; simp only [Act.put, List.setIfInBounds_toArray, List.set_cons_zero, List.set_cons_succ]) | go_big_quiet_step (fail))
    exact wpQuiet_nil rfl
  refine AlChk.nil ?_
  refine Walk.call rfl 23 #[(.agg (m.map (Value.int .u8)).toArray), (.agg (seed.map (Value.int .u8)).toArray), (.agg (pub.map (Value.int .u8)).toArray), (.agg (ad.map (Value.int .u32)).toArray)] (RowV 67 (rowW (sigP m seed pub ad))) (fun v w' w'' h k => h.below k) rfl (fun w1 hb1 hF1 => ⟨by go_simp, ?_⟩) ?_
  · skip
    exact sign_v m seed pub ad hm hseed hpub had w1 ((Htab.out.below Hb.out).below hb1)
  rintro v0 w1 hb1 hF1 ⟨pa, pc, rfl, _⟩
  apply Exists.intro
  refine ⟨fun w0 hb0 hF0 => ?_, ?_⟩
  · skip
    exact wpQuiet_nil rfl
  refine AlChk.nil ?_
  refine Walk.call rfl 25 #[.slice pa 67 pc, (.agg (m.map (Value.int .u8)).toArray), (.agg (pub.map (Value.int .u8)).toArray), (.agg (ad.map (Value.int .u32)).toArray)] (TupV 67 (rowW (pubP seed pub ad))) (fun v w' w'' h k => h.below k) rfl (fun w1 hb1 hF1 => ⟨by go_simp, ?_⟩) ?_
  · skip
    have := from_v (rowW (sigP m seed pub ad)) pa pc m pub ad w1 (show RowV 67 (rowW (sigP m seed pub ad)) _ w1 from hF1.2).digs.2 hm hpub had ((Htab.out.below Hb.out).below hb1)
    rw [meets_row hm] at this
    exact this
  rintro v1 w1 hb1 hF1 ⟨qa, qc, rfl, _⟩
  apply Exists.intro
  refine ⟨fun w0 hb0 hF0 => ?_, ?_⟩
  · skip
    simp only [pick, List.getElem?_toArray, List.getElem?_cons_succ, List.getElem?_cons_zero, Option.toList_some, List.cons_append, List.nil_append, Act.put, List.setIfInBounds_toArray, List.set_cons_zero, List.set_cons_succ]
    repeat (first | go_big_quiet_step (fail))
    exact wpQuiet_nil rfl
  refine AlChk.nil ?_
  refine Walk.fin fun w1 hw1 hFw1 _ => ?_
  simp only [List.drop_succ_cons, List.drop_zero]
  have HFw1 := hid hFw1
  have HBw1 := hid (Below.on Hb.out hw1)
  have hsw1 := HBw1.out.size
  have Kmw1 := hid (Km.out.below hw1)
  have Ksw1 := hid (Ks.out.below hw1)
  have Kpw1 := hid (Kp.out.below hw1)
  have Kadw1 := hid (Kad.out.below hw1)
  clear hw1 hFw1
  have Hq := hid (show TupV 67 (rowW (pubP seed pub ad)) (.tuple #[.slice qa 67 qc, .int .i64 0]) w1 from HFw1.out.2).digs
  go_wp2_with (first
     | (refine wpList_load_blk rfl 23 _ rfl (w.heap.size + 1) rfl _ 23 Ksw1.out _ Tryd.underlying23 rfl 32 size_digest hseed.size ?_)
     | (refine wpList_load_blk rfl 23 _ rfl (w.heap.size + 1 + 1) rfl _ 23 Kpw1.out _ Tryd.underlying23 rfl 32 size_digest hpub.size ?_)
     | (refine wpList_load_blk rfl 26 _ rfl (w.heap.size + 1 + 1 + 1) rfl _ 26 Kadw1.out _ Tryd.underlying26 rfl 8 sizeAdrs had.size ?_))
  refine (public_v seed pub ad hseed hpub had _ (Htab.out.below HBw1.out)).mono ?_
  rintro e w50 ⟨_, rfl, bw50, ⟨ra, rc, rfl, hr⟩⟩
  have HBw50 := hid (Below.on HBw1.out bw50)
  have hsw50 := HBw50.out.size
  have Kmw50 := hid (Kmw1.out.below bw50)
  have Ksw50 := hid (Ksw1.out.below bw50)
  have Kpw50 := hid (Kpw1.out.below bw50)
  have Kadw50 := hid (Kadw1.out.below bw50)
  have Hr := hid hr
  have Hq2 := hid (Hq.out.below bw50)
  clear bw50 hr
  go_wp2_with fail
  refine (same_any qa ra 67 qc rc _ _ Hq2.out Hr.out).mono ?_
  rintro e w2 ⟨rfl, bw2⟩
  have HBw2 := hid (Below.on HBw50.out bw2)
  have hsw2 := HBw2.out.size
  have Kmw2 := hid (Kmw50.out.below bw2)
  have Ksw2 := hid (Ksw50.out.below bw2)
  have Kpw2 := hid (Kpw50.out.below bw2)
  have Kadw2 := hid (Kadw50.out.below bw2)
  clear bw2
  go_wp2_with fail
  refine (knows08 _ (Htab.out.below HBw2.out)).mono ?_
  rintro e w3 ⟨rfl, bw3⟩
  have HBw3 := hid (Below.on HBw2.out bw3)
  have hsw3 := HBw3.out.size
  have Kmw3 := hid (Kmw2.out.below bw3)
  have Ksw3 := hid (Ksw2.out.below bw3)
  have Kpw3 := hid (Kpw2.out.below bw3)
  have Kadw3 := hid (Kadw2.out.below bw3)
  clear bw3
  go_wp2_with fail
  go_returns
  exact ⟨rfl, HBw3.out⟩

set_option maxHeartbeats 4000000 in
set_option maxRecDepth 100000 in
theorem wotsLeads_long (na : Option Addr) (n nc : Nat) (ls : List (List Int)) (m pub ad : List Int) (w : World) (hN : DigsAt w na n nc ls) (hn : 100 < n) (tab : ShaTab w) :
    Calls Tryd.prog 5 #[.slice na n nc, (.agg (m.map (Value.int .u8)).toArray), (.agg (pub.map (Value.int .u8)).toArray), (.agg (ad.map (Value.int .u32)).toArray)] w fun e w' => e = .returned (.bool true) ∧ Below w.heap.size w w' := by
  have HN := hid hN
  have hle := hN.le
  have hmx := hN.max
  have hn1 : (100 : Int) < n := by omega
  have b1 := (Below.refl w.heap.size w).alloc (Nat.le_refl _) (.cells (m.map (Value.int .u8)).toArray 23 (0, 0))
  have b2 := b1.alloc b1.size (.cells (pub.map (Value.int .u8)).toArray 23 (0, 0))
  have b3 := b2.alloc b2.size (.cells (ad.map (Value.int .u32)).toArray 26 (0, 0))
  have Km := hid (((Blk.new (w := w) (n := w.heap.size) rfl (m.map (Value.int .u8)).toArray 23).old (.cells (pub.map (Value.int .u8)).toArray 23 (0, 0))).old (.cells (ad.map (Value.int .u32)).toArray 26 (0, 0)))
  have Kp := hid ((Blk.new (w := (w.alloc (.cells (m.map (Value.int .u8)).toArray 23 (0, 0)))) (n := w.heap.size + 1) (by simp only [World.size_alloc]) (pub.map (Value.int .u8)).toArray 23).old (.cells (ad.map (Value.int .u32)).toArray 26 (0, 0)))
  have Kad := hid (Blk.new (w := ((w.alloc (.cells (m.map (Value.int .u8)).toArray 23 (0, 0))).alloc (.cells (pub.map (Value.int .u8)).toArray 23 (0, 0)))) (n := w.heap.size + 1 + 1) (by simp only [World.size_alloc]) (ad.map (Value.int .u32)).toArray 26)
  have Hb := hid b3
  have HzA := hid zsize
  have hbz := b3.size
  have Hbs := hid (show w.heap.size + 1 + 1 + 1 = (((w.alloc (.cells (m.map (Value.int .u8)).toArray 23 (0, 0))).alloc (.cells (pub.map (Value.int .u8)).toArray 23 (0, 0))).alloc (.cells (ad.map (Value.int .u32)).toArray 26 (0, 0))).heap.size by simp only [World.size_alloc])
  have Htab := hid tab
  clear b1 b2 b3 tab
  go_enter Tryd.func5, Tryd.ntmps5
  go_wp2_with fail
  refine (knows08 _ (Htab.out.below Hb.out)).mono ?_
  rintro e w1 ⟨rfl, bw1⟩
  have HBw1 := hid (Below.on Hb.out bw1)
  have hsw1 := HBw1.out.size
  have Kmw1 := hid (Km.out.below bw1)
  have Kpw1 := hid (Kp.out.below bw1)
  have Kadw1 := hid (Kad.out.below bw1)
  clear bw1
  go_wp2_with fail
  go_returns
  exact ⟨rfl, HBw1.out⟩

set_option maxHeartbeats 4000000 in
set_option maxRecDepth 100000 in
theorem wotsLeads_bad (na : Option Addr) (n nc : Nat) (ls : List (List Int)) (m pub ad : List Int) (w : World) (hN : DigsAt w na n nc ls) (hm : Dg m) (hpub : Dg pub) (had : Aw ad) (hn : n ≤ 100) (hb : n ≠ 67) (tab : ShaTab w) :
    Calls Tryd.prog 5 #[.slice na n nc, (.agg (m.map (Value.int .u8)).toArray), (.agg (pub.map (Value.int .u8)).toArray), (.agg (ad.map (Value.int .u32)).toArray)] w fun e w' => e = .returned (.bool true) ∧ Below w.heap.size w w' := by
  have HN := hid hN
  have hle := hN.le
  have hmx := hN.max
  have hn1 : ¬ ((100 : Int) < n) := by omega
  have hn2 : ¬ ((n : Int) = 67) := by omega
  have b1 := (Below.refl w.heap.size w).alloc (Nat.le_refl _) (.cells (m.map (Value.int .u8)).toArray 23 (0, 0))
  have b2 := b1.alloc b1.size (.cells (pub.map (Value.int .u8)).toArray 23 (0, 0))
  have b3 := b2.alloc b2.size (.cells (ad.map (Value.int .u32)).toArray 26 (0, 0))
  have Km := hid (((Blk.new (w := w) (n := w.heap.size) rfl (m.map (Value.int .u8)).toArray 23).old (.cells (pub.map (Value.int .u8)).toArray 23 (0, 0))).old (.cells (ad.map (Value.int .u32)).toArray 26 (0, 0)))
  have Kp := hid ((Blk.new (w := (w.alloc (.cells (m.map (Value.int .u8)).toArray 23 (0, 0)))) (n := w.heap.size + 1) (by simp only [World.size_alloc]) (pub.map (Value.int .u8)).toArray 23).old (.cells (ad.map (Value.int .u32)).toArray 26 (0, 0)))
  have Kad := hid (Blk.new (w := ((w.alloc (.cells (m.map (Value.int .u8)).toArray 23 (0, 0))).alloc (.cells (pub.map (Value.int .u8)).toArray 23 (0, 0)))) (n := w.heap.size + 1 + 1) (by simp only [World.size_alloc]) (ad.map (Value.int .u32)).toArray 26)
  have Hb := hid b3
  have HzA := hid zsize
  have hbz := b3.size
  have Hbs := hid (show w.heap.size + 1 + 1 + 1 = (((w.alloc (.cells (m.map (Value.int .u8)).toArray 23 (0, 0))).alloc (.cells (pub.map (Value.int .u8)).toArray 23 (0, 0))).alloc (.cells (ad.map (Value.int .u32)).toArray 26 (0, 0))).heap.size by simp only [World.size_alloc])
  have Htab := hid tab
  clear b1 b2 b3 tab
  go_enter Tryd.func5, Tryd.ntmps5
  go_wp2_with (first
     | (refine wpList_load_blk rfl 23 _ rfl (w.heap.size) rfl _ 23 Km.out _ Tryd.underlying23 rfl 32 size_digest hm.size ?_)
     | (refine wpList_load_blk rfl 23 _ rfl (w.heap.size + 1) rfl _ 23 Kp.out _ Tryd.underlying23 rfl 32 size_digest hpub.size ?_)
     | (refine wpList_load_blk rfl 26 _ rfl (w.heap.size + 1 + 1) rfl _ 26 Kad.out _ Tryd.underlying26 rfl 8 sizeAdrs had.size ?_))
  refine (from_bad na n nc m pub ad _ (by omega)).mono ?_
  rintro e w1 ⟨rfl, bw1⟩
  have HBw1 := hid (Below.on Hb.out bw1)
  have hsw1 := HBw1.out.size
  have Kmw1 := hid (Km.out.below bw1)
  have Kpw1 := hid (Kp.out.below bw1)
  have Kadw1 := hid (Kad.out.below bw1)
  clear bw1
  go_wp2_with fail
  refine (knows08 _ (Htab.out.below HBw1.out)).mono ?_
  rintro e w2 ⟨rfl, bw2⟩
  have HBw2 := hid (Below.on HBw1.out bw2)
  have hsw2 := HBw2.out.size
  have Kmw2 := hid (Kmw1.out.below bw2)
  have Kpw2 := hid (Kpw1.out.below bw2)
  have Kadw2 := hid (Kadw1.out.below bw2)
  clear bw2
  go_wp2_with fail
  go_returns
  exact ⟨rfl, HBw2.out⟩

set_option maxHeartbeats 4000000 in
set_option maxRecDepth 100000 in
theorem wotsLeads_good (na : Option Addr) (nc : Nat) (ls : List (List Int)) (m pub ad : List Int) (w : World) (hN : DigsAt w na 67 nc ls) (hm : Dg m) (hpub : Dg pub) (had : Aw ad)  (tab : ShaTab w) :
    Calls Tryd.prog 5 #[.slice na 67 nc, (.agg (m.map (Value.int .u8)).toArray), (.agg (pub.map (Value.int .u8)).toArray), (.agg (ad.map (Value.int .u32)).toArray)] w fun e w' => e = .returned (.bool true) ∧ Below w.heap.size w w' := by
  have HN := hid hN
  have hle := hN.le
  have hmx := hN.max
  have b1 := (Below.refl w.heap.size w).alloc (Nat.le_refl _) (.cells (m.map (Value.int .u8)).toArray 23 (0, 0))
  have b2 := b1.alloc b1.size (.cells (pub.map (Value.int .u8)).toArray 23 (0, 0))
  have b3 := b2.alloc b2.size (.cells (ad.map (Value.int .u32)).toArray 26 (0, 0))
  have Km := hid (((Blk.new (w := w) (n := w.heap.size) rfl (m.map (Value.int .u8)).toArray 23).old (.cells (pub.map (Value.int .u8)).toArray 23 (0, 0))).old (.cells (ad.map (Value.int .u32)).toArray 26 (0, 0)))
  have Kp := hid ((Blk.new (w := (w.alloc (.cells (m.map (Value.int .u8)).toArray 23 (0, 0)))) (n := w.heap.size + 1) (by simp only [World.size_alloc]) (pub.map (Value.int .u8)).toArray 23).old (.cells (ad.map (Value.int .u32)).toArray 26 (0, 0)))
  have Kad := hid (Blk.new (w := ((w.alloc (.cells (m.map (Value.int .u8)).toArray 23 (0, 0))).alloc (.cells (pub.map (Value.int .u8)).toArray 23 (0, 0)))) (n := w.heap.size + 1 + 1) (by simp only [World.size_alloc]) (ad.map (Value.int .u32)).toArray 26)
  have Hb := hid b3
  have HzA := hid zsize
  have hbz := b3.size
  have Hbs := hid (show w.heap.size + 1 + 1 + 1 = (((w.alloc (.cells (m.map (Value.int .u8)).toArray 23 (0, 0))).alloc (.cells (pub.map (Value.int .u8)).toArray 23 (0, 0))).alloc (.cells (ad.map (Value.int .u32)).toArray 26 (0, 0))).heap.size by simp only [World.size_alloc])
  have Htab := hid tab
  clear b1 b2 b3 tab
  go_enter Tryd.func5, Tryd.ntmps5
  go_wp2_with (first
     | (refine wpList_load_blk rfl 23 _ rfl (w.heap.size) rfl _ 23 Km.out _ Tryd.underlying23 rfl 32 size_digest hm.size ?_)
     | (refine wpList_load_blk rfl 23 _ rfl (w.heap.size + 1) rfl _ 23 Kp.out _ Tryd.underlying23 rfl 32 size_digest hpub.size ?_)
     | (refine wpList_load_blk rfl 26 _ rfl (w.heap.size + 1 + 1) rfl _ 26 Kad.out _ Tryd.underlying26 rfl 8 sizeAdrs had.size ?_))
  refine (from_v ls na nc m pub ad _ (HN.out.below Hb.out) hm hpub had (Htab.out.below Hb.out)).mono ?_
  rintro e w50 ⟨_, rfl, bw50, ⟨ra, rc, rfl, hr⟩⟩
  have HBw50 := hid (Below.on Hb.out bw50)
  have hsw50 := HBw50.out.size
  have Kmw50 := hid (Km.out.below bw50)
  have Kpw50 := hid (Kp.out.below bw50)
  have Kadw50 := hid (Kad.out.below bw50)
  have Hr := hid hr
  clear bw50 hr
  go_wp2_with (first
     | (refine wpList_load_blk rfl 23 _ rfl (w.heap.size) rfl _ 23 Kmw50.out _ Tryd.underlying23 rfl 32 size_digest hm.size ?_)
     | (refine wpList_load_blk rfl 23 _ rfl (w.heap.size + 1) rfl _ 23 Kpw50.out _ Tryd.underlying23 rfl 32 size_digest hpub.size ?_)
     | (refine wpList_load_blk rfl 26 _ rfl (w.heap.size + 1 + 1) rfl _ 26 Kadw50.out _ Tryd.underlying26 rfl 8 sizeAdrs had.size ?_))
  refine (reffrom_any ls na nc m pub ad _ (HN.out.below HBw50.out) hm hpub had).mono ?_
  rintro e w51 ⟨_, rfl, bw51, ⟨ta, tc, rfl, ht⟩⟩
  have HBw51 := hid (Below.on HBw50.out bw51)
  have hsw51 := HBw51.out.size
  have Kmw51 := hid (Kmw50.out.below bw51)
  have Kpw51 := hid (Kpw50.out.below bw51)
  have Kadw51 := hid (Kadw50.out.below bw51)
  have Ht := hid ht
  have Hr2 := hid (Hr.out.below bw51)
  clear bw51 ht
  go_wp2_with fail
  refine (same_any ra ta 67 rc tc _ _ Hr2.out Ht.out).mono ?_
  rintro e w1 ⟨rfl, bw1⟩
  have HBw1 := hid (Below.on HBw51.out bw1)
  have hsw1 := HBw1.out.size
  have Kmw1 := hid (Kmw51.out.below bw1)
  have Kpw1 := hid (Kpw51.out.below bw1)
  have Kadw1 := hid (Kadw51.out.below bw1)
  clear bw1
  go_wp2_with fail
  refine (knows08 _ (Htab.out.below HBw1.out)).mono ?_
  rintro e w2 ⟨rfl, bw2⟩
  have HBw2 := hid (Below.on HBw1.out bw2)
  have hsw2 := HBw2.out.size
  have Kmw2 := hid (Kmw1.out.below bw2)
  have Kpw2 := hid (Kpw1.out.below bw2)
  have Kadw2 := hid (Kadw1.out.below bw2)
  clear bw2
  go_wp2_with fail
  go_returns
  exact ⟨rfl, HBw2.out⟩
end Go.Proofs.YtjkfbeillmeomaaDoor
