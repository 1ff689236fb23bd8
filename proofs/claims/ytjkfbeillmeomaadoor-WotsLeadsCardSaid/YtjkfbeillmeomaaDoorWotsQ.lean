/-
  Layer 8: one-time keys, as the program makes them: the calls.
-/
import Derived.Test.YtjkfbeillmeomaaDoorWotsP
namespace Go.Proofs.YtjkfbeillmeomaaDoor
open Go.ChangeShapes Go.WideShapes Go.ChangeAt Go.RowKit

theorem makeFunc_run (fn : Fn) (first cap : Array Value) (w : World) : (Instr.makeFunc fn first cap).run Tryd.prog w = .ok (.func fn first cap) w := rfl

set_option maxHeartbeats 4000000 in
set_option maxRecDepth 100000 in
theorem secret_any (seed ad : List Int) (w : World) (hseed : Dg seed) (had : Aw ad) (tab : ShaTab w) :
    Calls Tryd.prog 18 #[(.agg (seed.map (Value.int .u8)).toArray), (.agg (ad.map (Value.int .u32)).toArray)] w fun e w' => ∃ g, w.heap.size ≤ g ∧ e = .returned (.slice (some ⟨g, 0, none⟩) 67 67) ∧ Below w.heap.size w w' ∧ Blk w' g (dcs (rowW (partZ seed ad))) 23 := by
  have b1 := (Below.refl w.heap.size w).alloc (Nat.le_refl _) (.cells (seed.map (Value.int .u8)).toArray 23 (0, 0))
  have b2 := b1.alloc b1.size (.cells (ad.map (Value.int .u32)).toArray 26 (0, 0))
  have Ks := hid ((Blk.new (w := w) (n := w.heap.size) rfl (seed.map (Value.int .u8)).toArray 23).old (.cells (ad.map (Value.int .u32)).toArray 26 (0, 0)))
  have Kad := hid (Blk.new (w := (w.alloc (.cells (seed.map (Value.int .u8)).toArray 23 (0, 0)))) (n := w.heap.size + 1) (by simp only [World.size_alloc]) (ad.map (Value.int .u32)).toArray 26)
  have Hb := hid b2
  have HzA := hid zsize
  have hbz := b2.size
  have Hbs := hid (show w.heap.size + 1 + 1 = ((w.alloc (.cells (seed.map (Value.int .u8)).toArray 23 (0, 0))).alloc (.cells (ad.map (Value.int .u32)).toArray 26 (0, 0))).heap.size by simp only [World.size_alloc])
  have Htab := hid tab
  clear b1 b2 tab
  have hmf := makeFunc_run
  go_enter Tryd.func18, Tryd.ntmps18
  go_wp2_with (refine wpList_load_blk rfl 26 _ rfl (w.heap.size + 1) rfl _ 26 Kad.out _ Tryd.underlying26 rfl 8 sizeAdrs had.size ?_)
  refine (each_any ad 68 #[.pointer (some ⟨w.heap.size, 0, none⟩)] (partZ seed ad) _ had (Dg.part seed ad) (enter_run Tryd.func68 rfl rfl) (fun i hi W hb => ?_)).mono ?_
  · simp only [List.append_toArray, List.cons_append, List.nil_append]
    exact secret1_any seed (setAd ad i 0 0) i w.heap.size W hseed (had.set (by omega) (by omega) (by omega)) (Ks.out.below hb) ((Htab.out.below Hb.out).below hb)
  rintro e w9 ⟨g, hg, rfl, b9, kg⟩
  have hgw : w.heap.size ≤ g := Nat.le_trans Hb.out.size hg
  have HB9 := hid (Below.on Hb.out b9)
  have HG := hid kg
  clear b9 kg hg
  go_wp2_with fail
  go_ret
  exact ⟨g, hgw, rfl, HB9.out, HG.out⟩

set_option maxHeartbeats 4000000 in
set_option maxRecDepth 100000 in
theorem public_any (seed pub ad : List Int) (w : World) (hseed : Dg seed) (hpub : Dg pub) (had : Aw ad) (tab : ShaTab w) :
    Calls Tryd.prog 20 #[(.agg (seed.map (Value.int .u8)).toArray), (.agg (pub.map (Value.int .u8)).toArray), (.agg (ad.map (Value.int .u32)).toArray)] w fun e w' => ∃ g, w.heap.size ≤ g ∧ e = .returned (.slice (some ⟨g, 0, none⟩) 67 67) ∧ Below w.heap.size w w' ∧ Blk w' g (dcs (rowW (pubP seed pub ad))) 23 := by
  have b1 := (Below.refl w.heap.size w).alloc (Nat.le_refl _) (.cells (seed.map (Value.int .u8)).toArray 23 (0, 0))
  have b2 := b1.alloc b1.size (.cells (pub.map (Value.int .u8)).toArray 23 (0, 0))
  have b3 := b2.alloc b2.size (.cells (ad.map (Value.int .u32)).toArray 26 (0, 0))
  have Ks := hid (((Blk.new (w := w) (n := w.heap.size) rfl (seed.map (Value.int .u8)).toArray 23).old (.cells (pub.map (Value.int .u8)).toArray 23 (0, 0))).old (.cells (ad.map (Value.int .u32)).toArray 26 (0, 0)))
  have Kp := hid ((Blk.new (w := (w.alloc (.cells (seed.map (Value.int .u8)).toArray 23 (0, 0)))) (n := w.heap.size + 1) (by simp only [World.size_alloc]) (pub.map (Value.int .u8)).toArray 23).old (.cells (ad.map (Value.int .u32)).toArray 26 (0, 0)))
  have Kad := hid (Blk.new (w := ((w.alloc (.cells (seed.map (Value.int .u8)).toArray 23 (0, 0))).alloc (.cells (pub.map (Value.int .u8)).toArray 23 (0, 0)))) (n := w.heap.size + 1 + 1) (by simp only [World.size_alloc]) (ad.map (Value.int .u32)).toArray 26)
  have Hb := hid b3
  have HzA := hid zsize
  have hbz := b3.size
  have Hbs := hid (show w.heap.size + 1 + 1 + 1 = (((w.alloc (.cells (seed.map (Value.int .u8)).toArray 23 (0, 0))).alloc (.cells (pub.map (Value.int .u8)).toArray 23 (0, 0))).alloc (.cells (ad.map (Value.int .u32)).toArray 26 (0, 0))).heap.size by simp only [World.size_alloc])
  have Htab := hid tab
  clear b1 b2 b3 tab
  have hmf := makeFunc_run
  go_enter Tryd.func20, Tryd.ntmps20
  go_wp2_with (refine wpList_load_blk rfl 26 _ rfl (w.heap.size + 1 + 1) rfl _ 26 Kad.out _ Tryd.underlying26 rfl 8 sizeAdrs had.size ?_)
  refine (each_any ad 72 #[.pointer (some ⟨w.heap.size, 0, none⟩), .pointer (some ⟨w.heap.size + 1, 0, none⟩)] (pubP seed pub ad) _ had (Dg.pubP seed pub ad) (enter_run Tryd.func72 rfl rfl) (fun i hi W hb => ?_)).mono ?_
  · simp only [List.append_toArray, List.cons_append, List.nil_append]
    exact public1_any seed pub (setAd ad i 0 0) i w.heap.size (w.heap.size + 1) W hseed hpub (had.set (by omega) (by omega) (by omega)) (Ks.out.below hb) (Kp.out.below hb) ((Htab.out.below Hb.out).below hb)
  rintro e w9 ⟨g, hg, rfl, b9, kg⟩
  have hgw : w.heap.size ≤ g := Nat.le_trans Hb.out.size hg
  have HB9 := hid (Below.on Hb.out b9)
  have HG := hid kg
  clear b9 kg hg
  go_wp2_with fail
  go_ret
  exact ⟨g, hgw, rfl, HB9.out, HG.out⟩

set_option maxHeartbeats 4000000 in
set_option maxRecDepth 100000 in
theorem sign_any (m seed pub ad : List Int) (w : World) (hm : Dg m) (hseed : Dg seed) (hpub : Dg pub) (had : Aw ad) (tab : ShaTab w) :
    Calls Tryd.prog 23 #[(.agg (m.map (Value.int .u8)).toArray), (.agg (seed.map (Value.int .u8)).toArray), (.agg (pub.map (Value.int .u8)).toArray), (.agg (ad.map (Value.int .u32)).toArray)] w fun e w' => ∃ g, w.heap.size ≤ g ∧ e = .returned (.slice (some ⟨g, 0, none⟩) 67 67) ∧ Below w.heap.size w w' ∧ Blk w' g (dcs (rowW (sigP m seed pub ad))) 23 := by
  have Hdl := hid (show ((digits m).map (Value.int .i64)).toArray.size = 67 by simp [digits_length m hm.len])
  have Hz67 := hid zero67
  have hmf := makeFunc_run
  have b1 := (Below.refl w.heap.size w).alloc (Nat.le_refl _) (.cells (m.map (Value.int .u8)).toArray 23 (0, 0))
  have b2 := b1.alloc b1.size (.cells (seed.map (Value.int .u8)).toArray 23 (0, 0))
  have b3 := b2.alloc b2.size (.cells (pub.map (Value.int .u8)).toArray 23 (0, 0))
  have b4 := b3.alloc b3.size (.cells (ad.map (Value.int .u32)).toArray 26 (0, 0))
  have Km := hid ((((Blk.new (w := w) (n := w.heap.size) rfl (m.map (Value.int .u8)).toArray 23).old (.cells (seed.map (Value.int .u8)).toArray 23 (0, 0))).old (.cells (pub.map (Value.int .u8)).toArray 23 (0, 0))).old (.cells (ad.map (Value.int .u32)).toArray 26 (0, 0)))
  have Ks := hid (((Blk.new (w := (w.alloc (.cells (m.map (Value.int .u8)).toArray 23 (0, 0)))) (n := w.heap.size + 1) (by simp only [World.size_alloc]) (seed.map (Value.int .u8)).toArray 23).old (.cells (pub.map (Value.int .u8)).toArray 23 (0, 0))).old (.cells (ad.map (Value.int .u32)).toArray 26 (0, 0)))
  have Kp := hid ((Blk.new (w := ((w.alloc (.cells (m.map (Value.int .u8)).toArray 23 (0, 0))).alloc (.cells (seed.map (Value.int .u8)).toArray 23 (0, 0)))) (n := w.heap.size + 1 + 1) (by simp only [World.size_alloc]) (pub.map (Value.int .u8)).toArray 23).old (.cells (ad.map (Value.int .u32)).toArray 26 (0, 0)))
  have Kad := hid (Blk.new (w := (((w.alloc (.cells (m.map (Value.int .u8)).toArray 23 (0, 0))).alloc (.cells (seed.map (Value.int .u8)).toArray 23 (0, 0))).alloc (.cells (pub.map (Value.int .u8)).toArray 23 (0, 0)))) (n := w.heap.size + 1 + 1 + 1) (by simp only [World.size_alloc]) (ad.map (Value.int .u32)).toArray 26)
  have Hb := hid b4
  have HzA := hid zsize
  have hbz := b4.size
  have Hbs := hid (show w.heap.size + 1 + 1 + 1 + 1 = ((((w.alloc (.cells (m.map (Value.int .u8)).toArray 23 (0, 0))).alloc (.cells (seed.map (Value.int .u8)).toArray 23 (0, 0))).alloc (.cells (pub.map (Value.int .u8)).toArray 23 (0, 0))).alloc (.cells (ad.map (Value.int .u32)).toArray 26 (0, 0))).heap.size by simp only [World.size_alloc])
  have Htab := hid tab
  clear b1 b2 b3 b4 tab
  go_enter Tryd.func23, Tryd.ntmps23
  go_wp2_with (refine wpList_load_blk rfl 23 _ rfl (w.heap.size) rfl _ 23 Km.out _ Tryd.underlying23 rfl 32 size_digest hm.size ?_)
  refine (digits_any m hm.len hm.small _).mono ?_
  rintro e w1 ⟨rfl, bw1⟩
  have HBw1 := hid (Below.on Hb.out bw1)
  have hsw1 := HBw1.out.size
  have Kmw1 := hid (Km.out.below bw1)
  have Ksw1 := hid (Ks.out.below bw1)
  have Kpw1 := hid (Kp.out.below bw1)
  have Kadw1 := hid (Kad.out.below bw1)
  clear bw1
  go_wp2_with (first
     | (
        refine wpList_store_blk rfl 113 _ _ rfl (w1.heap.size) ((digits m).map (Value.int .i64)).toArray rfl rfl _ 113 (Blk.new rfl (zeros .i64 67) _) 67 size67 (by simp [zeros]) Hdl.out (ints_one _ _) ?_
        intro w2 hbw2 hkw2
        have HBw2 := hid (hbw2.below (HBw1.out.alloc HBw1.out.size _) (by simp only [World.size_alloc]; omega) (by have := HBw1.out.size; omega))
        have hsw2 := HBw2.out.size
        have Ktw2 := hid hkw2
        have Kmw2 := hid (hbw2.blk (Kmw1.out.old _) (by have := Kmw1.out.lt; omega))
        have Ksw2 := hid (hbw2.blk (Ksw1.out.old _) (by have := Ksw1.out.lt; omega))
        have Kpw2 := hid (hbw2.blk (Kpw1.out.old _) (by have := Kpw1.out.lt; omega))
        have Kadw2 := hid (hbw2.blk (Kadw1.out.old _) (by have := Kadw1.out.lt; omega))
        clear hbw2 hkw2)
     | (refine wpList_load_blk rfl 26 _ rfl (w.heap.size + 1 + 1 + 1) rfl _ 26 Kadw2.out _ Tryd.underlying26 rfl 8 sizeAdrs had.size ?_))
  refine (each_any ad 77 #[.pointer (some ⟨w.heap.size + 1, 0, none⟩), .pointer (some ⟨w1.heap.size, 0, none⟩), .pointer (some ⟨w.heap.size + 1 + 1, 0, none⟩)] (sigP m seed pub ad) _ had (Dg.sigP m seed pub ad) (enter_run Tryd.func77 rfl rfl) (fun i hi W hb => ?_)).mono ?_
  · simp only [List.append_toArray, List.cons_append, List.nil_append]
    exact sign1_any seed pub (setAd ad i 0 0) (digits m) i (dgN m i) (w.heap.size + 1) (w1.heap.size) (w.heap.size + 1 + 1) W hseed hpub (had.set (by omega) (by omega) (by omega)) hi (dgN_le hm i) (by simp only [List.getElem?_toArray, List.getElem?_map]; have := dgN_eq hm hi; rw [List.getD_eq_getElem?_getD] at this; rw [List.getElem?_eq_getElem (by rw [digits_length m hm.len]; exact hi)] at this ⊢; simpa using this) (Ksw2.out.below hb) (Ktw2.out.below hb) (Kpw2.out.below hb) ((Htab.out.below HBw2.out).below hb)
  rintro e w9 ⟨g, hg, rfl, b9, kg⟩
  have hgw : w.heap.size ≤ g := Nat.le_trans HBw2.out.size hg
  have HB9 := hid (Below.on HBw2.out b9)
  have HG := hid kg
  clear b9 kg hg
  go_wp2_with fail
  go_ret
  exact ⟨g, hgw, rfl, HB9.out, HG.out⟩

section
variable {P : Program} {ops : Array Oper} {rest : List Oper} {op : Oper} {a : Act} {w : World} {Q : Exit → Act → World → Prop}
theorem wpList_load_slice_blk (hgd : op.guard = none) (ty : TypeId) (x : Operand) (ho : op.op = .load ty x) (b : Nat) (hx : a.eval x = .pointer (some ⟨b, 0, none⟩)) (sa : Option Addr) (n c : Nat) (T : TypeId) (hk : Blk w b #[.slice sa n c] T)
    {e : TypeId} (hu : P.underlying ty = some (.slice e)) (h : wpList P ops Q rest (a.put op.dst (.slice sa n c)) w) : wpList P ops Q (op :: rest) a w :=
  wpList_plain hgd fun K hK => by
    have hc : w.cell? ⟨b, 0, none⟩ = some (.slice sa n c) := by rw [hk.cell]; rfl
    unfold Oper.wp execOp
    simp only [ho, hx, Instr.loadAt, Instr.sureAddr, Sem.run_bind, Sem.run_pure, Result.andThen_ok, run_load_one w hc _ hu rfl, Oper.upon_value]
    exact hK _ _ h
end

set_option maxHeartbeats 4000000 in
set_option maxRecDepth 100000 in
theorem from_good (ls : List (List Int)) (na : Option Addr) (nc : Nat) (m pub ad : List Int) (w : World) (hN : DigsAt w na 67 nc ls) (hm : Dg m) (hpub : Dg pub) (had : Aw ad) (tab : ShaTab w) :
    Calls Tryd.prog 25 #[.slice na 67 nc, (.agg (m.map (Value.int .u8)).toArray), (.agg (pub.map (Value.int .u8)).toArray), (.agg (ad.map (Value.int .u32)).toArray)] w fun e w' => ∃ g, w.heap.size ≤ g ∧ e = .returned (.tuple #[.slice (some ⟨g, 0, none⟩) 67 67, .int .i64 0]) ∧ Below w.heap.size w w' ∧ Blk w' g (dcs (rowW (fromP ls m pub ad))) 23 := by
  have HN := hid hN
  have HE := hid hN.each
  have Hnl := hid hN.length
  clear hN
  have Hdl := hid (show ((digits m).map (Value.int .i64)).toArray.size = 67 by simp [digits_length m hm.len])
  have Hz67 := hid zero67
  have hmf := makeFunc_run
  have b1 := (Below.refl w.heap.size w).alloc (Nat.le_refl _) (.cells #[.slice na 67 nc] 28 (0, 0))
  have b2 := b1.alloc b1.size (.cells (m.map (Value.int .u8)).toArray 23 (0, 0))
  have b3 := b2.alloc b2.size (.cells (pub.map (Value.int .u8)).toArray 23 (0, 0))
  have b4 := b3.alloc b3.size (.cells (ad.map (Value.int .u32)).toArray 26 (0, 0))
  have Kl := hid ((((Blk.new (w := w) (n := w.heap.size) rfl #[.slice na 67 nc] 28).old (.cells (m.map (Value.int .u8)).toArray 23 (0, 0))).old (.cells (pub.map (Value.int .u8)).toArray 23 (0, 0))).old (.cells (ad.map (Value.int .u32)).toArray 26 (0, 0)))
  have Km := hid (((Blk.new (w := w.alloc (.cells #[.slice na 67 nc] 28 (0, 0))) (n := w.heap.size + 1) (by simp only [World.size_alloc]) (m.map (Value.int .u8)).toArray 23).old (.cells (pub.map (Value.int .u8)).toArray 23 (0, 0))).old (.cells (ad.map (Value.int .u32)).toArray 26 (0, 0)))
  have Kp := hid ((Blk.new (w := (w.alloc (.cells #[.slice na 67 nc] 28 (0, 0))).alloc (.cells (m.map (Value.int .u8)).toArray 23 (0, 0))) (n := w.heap.size + 1 + 1) (by simp only [World.size_alloc]) (pub.map (Value.int .u8)).toArray 23).old (.cells (ad.map (Value.int .u32)).toArray 26 (0, 0)))
  have Kad := hid (Blk.new (w := ((w.alloc (.cells #[.slice na 67 nc] 28 (0, 0))).alloc (.cells (m.map (Value.int .u8)).toArray 23 (0, 0))).alloc (.cells (pub.map (Value.int .u8)).toArray 23 (0, 0))) (n := w.heap.size + 1 + 1 + 1) (by simp only [World.size_alloc]) (ad.map (Value.int .u32)).toArray 26)
  have Hb := hid b4
  have Htab := hid tab
  clear b1 b2 b3 b4 tab
  go_enter Tryd.func25, Tryd.ntmps25
  go_wp2_with (first
     | (refine wpList_load_slice_blk rfl 28 _ rfl (w.heap.size) rfl _ _ _ 28 Kl.out Tryd.underlying28 ?_)
     | (refine wpList_load_blk rfl 23 _ rfl (w.heap.size + 1) rfl _ 23 Km.out _ Tryd.underlying23 rfl 32 size_digest hm.size ?_))
  refine (digits_any m hm.len hm.small _).mono ?_
  rintro e w1 ⟨rfl, bw1⟩
  have HBw1 := hid (Below.on Hb.out bw1)
  have hsw1 := HBw1.out.size
  have Klw1 := hid (Kl.out.below bw1)
  have Kmw1 := hid (Km.out.below bw1)
  have Kpw1 := hid (Kp.out.below bw1)
  have Kadw1 := hid (Kad.out.below bw1)
  clear bw1
  go_wp2_with (first
     | (
        refine wpList_store_blk rfl 113 _ _ rfl (w1.heap.size) ((digits m).map (Value.int .i64)).toArray rfl rfl _ 113 (Blk.new rfl (zeros .i64 67) _) 67 size67 (by simp [zeros]) Hdl.out (ints_one _ _) ?_
        intro w2 hbw2 hkw2
        have HBw2 := hid (hbw2.below (HBw1.out.alloc HBw1.out.size _) (by simp only [World.size_alloc]; omega) (by have := HBw1.out.size; omega))
        have hsw2 := HBw2.out.size
        have Ktw2 := hid hkw2
        have Klw2 := hid (hbw2.blk (Klw1.out.old _) (by have := Klw1.out.lt; omega))
        have Kmw2 := hid (hbw2.blk (Kmw1.out.old _) (by have := Kmw1.out.lt; omega))
        have Kpw2 := hid (hbw2.blk (Kpw1.out.old _) (by have := Kpw1.out.lt; omega))
        have Kadw2 := hid (hbw2.blk (Kadw1.out.old _) (by have := Kadw1.out.lt; omega))
        clear hbw2 hkw2)
     | (refine wpList_load_blk rfl 26 _ rfl (w.heap.size + 1 + 1 + 1) rfl _ 26 Kadw2.out _ Tryd.underlying26 rfl 8 sizeAdrs had.size ?_))
  refine (each_any ad 79 #[.pointer (some ⟨w.heap.size, 0, none⟩), .pointer (some ⟨w1.heap.size, 0, none⟩), .pointer (some ⟨w.heap.size + 1 + 1, 0, none⟩)] (fromP ls m pub ad) _ had (Dg.fromP HE.out m pub ad) (enter_run Tryd.func79 rfl rfl) (fun i hi W hb => ?_)).mono ?_
  · simp only [List.append_toArray, List.cons_append, List.nil_append]
    exact by
      have := from1_any ls na nc pub (setAd ad i 0 0) (digits m) i (dgN m i) (w.heap.size) (w1.heap.size) (w.heap.size + 1 + 1) W (HN.out.below (Below.on HBw2.out hb)) hpub (had.set (by omega) (by omega) (by omega)) hi (dgN_le hm i) (by simp only [List.getElem?_toArray, List.getElem?_map]; have := dgN_eq hm hi; rw [List.getD_eq_getElem?_getD] at this; rw [List.getElem?_eq_getElem (by rw [digits_length m hm.len]; exact hi)] at this ⊢; simpa using this) (Klw2.out.below hb) (Ktw2.out.below hb) (Kpw2.out.below hb) ((Htab.out.below HBw2.out).below hb)
      rw [← getZ (l := ls) (i := i) (by rw [Hnl.out]; exact hi)] at this
      exact this
  rintro e w9 ⟨g, hg, rfl, b9, kg⟩
  have hgw : w.heap.size ≤ g := Nat.le_trans HBw2.out.size hg
  have HB9 := hid (Below.on HBw2.out b9)
  have HG := hid kg
  clear b9 kg hg
  go_wp2_with fail
  go_ret2
  exact ⟨g, hgw, rfl, HB9.out, HG.out⟩

set_option maxHeartbeats 4000000 in
set_option maxRecDepth 100000 in
theorem from_bad (na : Option Addr) (n nc : Nat) (m pub ad : List Int) (w : World) (hn : n ≠ 67) :
    Calls Tryd.prog 25 #[.slice na n nc, (.agg (m.map (Value.int .u8)).toArray), (.agg (pub.map (Value.int .u8)).toArray), (.agg (ad.map (Value.int .u32)).toArray)] w fun e w' => e = .returned (.tuple #[.slice none 0 0, .int .i64 1]) ∧ Below w.heap.size w w' := by
  have hn1 : ¬ ((n : Int) = 67) := by omega
  have b1 := (Below.refl w.heap.size w).alloc (Nat.le_refl _) (.cells #[.slice na n nc] 28 (0, 0))
  have b2 := b1.alloc b1.size (.cells (m.map (Value.int .u8)).toArray 23 (0, 0))
  have b3 := b2.alloc b2.size (.cells (pub.map (Value.int .u8)).toArray 23 (0, 0))
  have b4 := b3.alloc b3.size (.cells (ad.map (Value.int .u32)).toArray 26 (0, 0))
  have Kl := hid ((((Blk.new (w := w) (n := w.heap.size) rfl #[.slice na n nc] 28).old (.cells (m.map (Value.int .u8)).toArray 23 (0, 0))).old (.cells (pub.map (Value.int .u8)).toArray 23 (0, 0))).old (.cells (ad.map (Value.int .u32)).toArray 26 (0, 0)))
  have Km := hid (((Blk.new (w := w.alloc (.cells #[.slice na n nc] 28 (0, 0))) (n := w.heap.size + 1) (by simp only [World.size_alloc]) (m.map (Value.int .u8)).toArray 23).old (.cells (pub.map (Value.int .u8)).toArray 23 (0, 0))).old (.cells (ad.map (Value.int .u32)).toArray 26 (0, 0)))
  have Kp := hid ((Blk.new (w := (w.alloc (.cells #[.slice na n nc] 28 (0, 0))).alloc (.cells (m.map (Value.int .u8)).toArray 23 (0, 0))) (n := w.heap.size + 1 + 1) (by simp only [World.size_alloc]) (pub.map (Value.int .u8)).toArray 23).old (.cells (ad.map (Value.int .u32)).toArray 26 (0, 0)))
  have Kad := hid (Blk.new (w := ((w.alloc (.cells #[.slice na n nc] 28 (0, 0))).alloc (.cells (m.map (Value.int .u8)).toArray 23 (0, 0))).alloc (.cells (pub.map (Value.int .u8)).toArray 23 (0, 0))) (n := w.heap.size + 1 + 1 + 1) (by simp only [World.size_alloc]) (ad.map (Value.int .u32)).toArray 26)
  have Hb := hid b4
  skip
  clear b1 b2 b3 b4
  go_enter Tryd.func25, Tryd.ntmps25
  go_wp2_with (refine wpList_load_slice_blk rfl 28 _ rfl (w.heap.size) rfl _ _ _ 28 Kl.out Tryd.underlying28 ?_)
  go_ret2
  exact ⟨rfl, Hb.out⟩
end Go.Proofs.YtjkfbeillmeomaaDoor
