/-
  Layer 11: verifying, by the reference; HyperVerifies.
-/
import Derived.Test.YtjkfbeillmeomaaGreatDoorSZVer
namespace Go.Proofs.YtjkfbeillmeomaaGreatDoor
set_option maxRecDepth 100000
open Go.ChangeShapes Go.WideShapes Go.ChangeAt Go.RowKit
set_option maxHeartbeats 4000000 in
theorem refmsg11_any (L V i : Int) (root pub r m : List Int) (ta : Option Addr) (tn tc : Nat) (w : World) (hr : Dg r) (hroot : Dg root) (_hpub : Dg pub) (h0 : 0 ≤ i) (h1 : i < 65536) (hT : TextAt w ta tn tc m) (hn : tn ≤ 140737488320000) :
    Calls Tryz.prog 27 #[.agg (pubC L V root pub).toArray, .agg (r.map (Value.int .u8)).toArray, .int .i64 i, .slice ta tn tc] w fun e w' => e = .returned (.agg ((msgZ r root i m).map (Value.int .u8)).toArray) ∧ Below w.heap.size w w' := by
  have CM := hid (fun (W : World) (h : TextAt W ta tn tc m) => refMessage_any r root m i ta tn tc W hr hroot h0 (by omega) h hn)
  have HM := hid (Dg.msg r root i m)
  generalize msgZ r root i m = M at *
  have b1 := (Below.refl w.heap.size w).alloc (Nat.le_refl _) (.cells (pubC L V root pub).toArray 27 (0, 0))
  have b2 := b1.alloc b1.size (.cells (r.map (Value.int .u8)).toArray 25 (0, 0))
  have b3 := b2.alloc b2.size (.cells (byteCells 32 []) 25 (0, 0))
  have Kp := hid (((Blk.new (w := w) (n := w.heap.size) rfl (pubC L V root pub).toArray 27).old (.cells (r.map (Value.int .u8)).toArray 25 (0, 0))).old (.cells (byteCells 32 []) 25 (0, 0)))
  have Kd := hid ((Blk.new (w := (w.alloc (.cells (pubC L V root pub).toArray 27 (0, 0)))) (n := w.heap.size + 1) (by simp only [World.size_alloc]) (r.map (Value.int .u8)).toArray 25).old (.cells (byteCells 32 []) 25 (0, 0)))
  have Kr := hid (Blk.new (w := ((w.alloc (.cells (pubC L V root pub).toArray 27 (0, 0))).alloc (.cells (r.map (Value.int .u8)).toArray 25 (0, 0)))) (n := w.heap.size + 1 + 1) (by simp only [World.size_alloc]) (byteCells 32 []) 25)
  have Hb := hid b3
  have hbz := b3.size
  have Hbs := hid (show w.heap.size + 1 + 1 + 1 = (((w.alloc (.cells (pubC L V root pub).toArray 27 (0, 0))).alloc (.cells (r.map (Value.int .u8)).toArray 25 (0, 0))).alloc (.cells (byteCells 32 []) 25 (0, 0))).heap.size by simp only [World.size_alloc])
  clear b1 b2 b3 
  go_enter Tryz.func27, Tryz.ntmps27
  go_wp2_with (first
     | (refine wpList_load_blk rfl 25 _ rfl (w.heap.size + 1) rfl _ 25 Kd.out _ Tryz.underlying25 rfl 32 size_digest hr.size ?_)
     | (refine wpList_load_mid rfl 25 _ rfl (w.heap.size) 2 rfl _ _ (pubC_root Kp.out) Tryz.underlying25 rfl (by rw [List.length_map, hroot.len]; exact size_digest) ?_))
  refine (CM.out _ (hT.below Hb.out)).mono ?_
  rintro e w1 ⟨rfl, bw1⟩
  have HBw1 := hid (Below.on Hb.out bw1)
  have hsw1 := HBw1.out.size
  have Kpw1 := hid (Kp.out.below bw1)
  have Kdw1 := hid (Kd.out.below bw1)
  have Krw1 := hid (Kr.out.below bw1)
  clear bw1
  go_wp2_with (
      refine wpList_store_blk rfl 25 _ _ rfl (w.heap.size + 1 + 1) (M.map (Value.int .u8)).toArray rfl rfl _ 25 Krw1.out 32 size_digest zsize HM.out.size (ints_one _ _) ?_
      intro w9 hb9 hk9
      have HB9 := hid (hb9.below HBw1.out HBw1.out.size (by omega))
      have HK9 := hid hk9
      clear hb9 hk9)
  exact bodyPost_ret (v := .agg (M.map (Value.int .u8)).toArray) (results_blk Tryz.results27 _ (w.heap.size + 1 + 1) rfl _ 25 HK9.out _ Tryz.underlying25 rfl 32 size_digest HM.out.size) rfl ⟨rfl, HB9.out⟩
theorem wpList_load_mid_if {P : Program} {ops : Array Oper} {rest : List Oper} {op : Oper} {a : Act} {w : World} {Q : Exit → Act → World → Prop} (hw : Region.wanted op (yielded ops a.tmps) = true) (ty : TypeId) (x : Operand) (ho : op.op = .load ty x) (b o : Nat) (hx : a.eval x = .pointer (some ⟨b, o, none⟩)) (cs : List Value) (d : TypeDesc) (hk : w.rangeAt b o cs)
    (hu : P.underlying ty = some d) (hd : d.isRow = true) (hi : (P.info? ty).map (·.size) = some cs.length)
    (h : wpList P ops Q rest (a.put op.dst (.agg cs.toArray)) w) : wpList P ops Q (op :: rest) a w := by
  unfold wpList
  rw [if_pos hw]
  exact .inl (wp_load_mid ty x ho b o hx cs d hk hu hd hi h)
end Go.Proofs.YtjkfbeillmeomaaGreatDoor
