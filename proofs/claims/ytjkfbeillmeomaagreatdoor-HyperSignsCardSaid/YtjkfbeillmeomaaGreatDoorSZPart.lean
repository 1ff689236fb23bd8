/-
  Layer 11: the part of one layer in a signature.
-/
import Derived.Test.YtjkfbeillmeomaaGreatDoorSZPlace
import Derived.Test.YtjkfbeillmeomaaGreatDoorSZNSplit
import Derived.Test.YtjkfbeillmeomaaGreatDoorSZHyper3
namespace Go.Proofs.YtjkfbeillmeomaaGreatDoor
set_option maxRecDepth 100000
open Go.ChangeShapes Go.WideShapes Go.ChangeAt Go.RowKit
/-- A way's cells. -/
def wayC (seed prf pub : List Int) (la tr leaf V : Int) : List Value := (secL seed prf pub).map (Value.int .u8) ++ [.int .u32 la, .int .u64 tr, .int .i64 leaf, .int .i64 V]
theorem size_way : (Tryz.prog.info? 60).map (·.size) = some 100 := by kernel_rfl
theorem wayC_size {seed prf pub : List Int} {la tr leaf V : Int} (h1 : Dg seed) (h2 : Dg prf) (h3 : Dg pub) : (wayC seed prf pub la tr leaf V).toArray.size = 100 := by
  rw [List.size_toArray]
  unfold wayC
  rw [List.length_append, List.length_map, secL_length h1 h2 h3]
  rfl
theorem wayC_ones (seed prf pub : List Int) (la tr leaf V : Int) : (wayC seed prf pub la tr leaf V).toArray.all (·.oneCell') = true := all_oneCell_toArray fun u hu => by
  simp only [wayC, List.mem_cons, List.mem_append, List.mem_map, List.not_mem_nil, or_false] at hu
  rcases hu with ⟨_, _, rfl⟩ | rfl | rfl | rfl | rfl <;> rfl
theorem wayC_sec {seed prf pub : List Int} {la tr leaf V : Int} {w : World} {b : Nat} {T : TypeId} (k : Blk w b (wayC seed prf pub la tr leaf V).toArray T) : w.rangeAt b 0 ((secL seed prf pub).map (Value.int .u8)) := fun j v hv => by
  have hj : j < (secL seed prf pub).length := by have := (List.getElem?_eq_some_iff.1 hv).1; simpa using this
  rw [Nat.zero_add, k.cell, List.getElem?_toArray, ← hv]
  unfold wayC
  rw [List.getElem?_append_left (by rw [List.length_map]; exact hj)]
theorem wayC_at {seed prf pub : List Int} {la tr leaf V : Int} {w : World} {b : Nat} {T : TypeId} (h1 : Dg seed) (h2 : Dg prf) (h3 : Dg pub) (k : Blk w b (wayC seed prf pub la tr leaf V).toArray T) (j : Nat) : w.cell? ⟨b, 96 + j, none⟩ = ([.int .u32 la, .int .u64 tr, .int .i64 leaf, .int .i64 V] : List Value)[j]? := by
  rw [k.cell, List.getElem?_toArray]
  unfold wayC
  rw [List.getElem?_append_right (by rw [List.length_map, secL_length h1 h2 h3]; omega), List.length_map, secL_length h1 h2 h3, show 96 + j - 96 = j by omega]
theorem wayC_place {seed prf pub : List Int} {la tr leaf V : Int} {w : World} {b : Nat} {T : TypeId} (h1 : Dg seed) (h2 : Dg prf) (h3 : Dg pub) (k : Blk w b (wayC seed prf pub la tr leaf V).toArray T) : w.rangeAt b 96 [.int .u32 la, .int .u64 tr, .int .i64 leaf, .int .i64 V] := fun j v hv => by
  rw [wayC_at h1 h2 h3 k j]; exact hv
theorem wayC_seed {seed prf pub : List Int} {la tr leaf V : Int} {w : World} {b : Nat} {T : TypeId} (k : Blk w b (wayC seed prf pub la tr leaf V).toArray T) : w.rangeAt b 0 (seed.map (Value.int .u8)) := fun j v hv => by
  have hj : j < seed.length := by have := (List.getElem?_eq_some_iff.1 hv).1; simpa using this
  refine wayC_sec k j v ?_
  unfold secL
  rw [← hv, List.map_append, List.getElem?_append_left (by rw [List.length_map]; exact hj)]
theorem wayC_pub {seed prf pub : List Int} {la tr leaf V : Int} {w : World} {b : Nat} {T : TypeId} (h1 : Dg seed) (h2 : Dg prf) (k : Blk w b (wayC seed prf pub la tr leaf V).toArray T) : w.rangeAt b 64 (pub.map (Value.int .u8)) := fun j v hv => by
  have h := wayC_sec k (64 + j) v (by
    unfold secL
    rw [← hv, List.map_append, List.map_append, List.getElem?_append_right (by rw [List.length_map, h1.len]; omega), List.length_map, h1.len, List.getElem?_append_right (by rw [List.length_map, h2.len]; omega), List.length_map, h2.len, show 64 + j - 32 - 32 = j by omega])
  rw [Nat.zero_add] at h
  exact h
theorem results_blk2t {P : Program} {w : World} {fn : Func} {p q : Tmp} {ty ty2 : TypeId} (h : fn.results = #[.cell p ty, .cell q ty2]) (tmps : Array Value) (b c : Nat) (hp : tmps.getD p undef = .pointer (some ⟨b, 0, none⟩)) (hq : tmps.getD q undef = .pointer (some ⟨c, 0, none⟩)) (cs ds : Array Value) (T T2 : TypeId) (hk : Blk w b cs T) (hk2 : Blk w c ds T2)
    (d d2 : TypeDesc) (hu : P.underlying ty = some d) (hd : d.isRow = true) (hu2 : P.underlying ty2 = some d2) (hd2 : d2.isRow = true) (n n2 : Nat) (hi : (P.info? ty).map (·.size) = some n) (hi2 : (P.info? ty2).map (·.size) = some n2) (hs : cs.size = n) (hs2 : ds.size = n2) : (results fn tmps).run P w = .ok (.tuple #[.agg cs, .agg ds]) w := by
  have hp' : tmps[p]?.getD undef = .pointer (some ⟨b, 0, none⟩) := by simpa using hp
  have hq' : tmps[q]?.getD undef = .pointer (some ⟨c, 0, none⟩) := by simpa using hq
  have hl := run_loadVar_row (P := P) w b T ty cs (0, 0) d hk hu (by cases d <;> simp_all) (by rw [hi, hs])
  have hl2 := run_loadVar_row (P := P) w c T2 ty2 ds (0, 0) d2 hk2 hu2 (by cases d2 <;> simp_all) (by rw [hi2, hs2])
  simp [results, h, hp', hq', asAddr, hl, hl2]
/-- A row of digests in a block of its own. -/
def RowT (B n : Nat) (ds : List (List Int)) (v : Value) (w : World) : Prop := ds.length = n ∧ (∀ d ∈ ds, Dg d) ∧ ∃ g, B ≤ g ∧ v = .slice (some ⟨g, 0, none⟩) n n ∧ Blk w g (dcs ds) 25
theorem RowT.below {B n : Nat} {ds : List (List Int)} {v : Value} {w w' : World} (h : RowT B n ds v w) (hb : Below w.heap.size w w') : RowT B n ds v w' := by
  obtain ⟨h1, h2, g, hg, h3, h4⟩ := h
  exact ⟨h1, h2, g, hg, h3, h4.below hb⟩
theorem RowT.re {B B2 n : Nat} {ds : List (List Int)} {v : Value} {w : World} (h : RowT B n ds v w) (hb : B2 ≤ B) : RowT B2 n ds v w := by
  obtain ⟨h1, h2, g, hg, h3, h4⟩ := h
  exact ⟨h1, h2, g, Nat.le_trans hb hg, h3, h4⟩
theorem RowT.row {B n : Nat} {ds : List (List Int)} {v : Value} {w : World} (h : RowT B n ds v w) (hn : n ≤ 9223372036854775807) : RowV n ds v w := by
  obtain ⟨h1, h2, g, _, rfl, h4⟩ := h
  exact RowV.of_blk h4 h2 n h1 hn
/-- a row of 67 digests, in a block of its own -/
def RowG (B : Nat) (ds : List (List Int)) (v : Value) (w : World) : Prop := ∃ g, v = .slice (some ⟨g, 0, none⟩) 67 67 ∧ B ≤ g ∧ Blk w g (dcs ds) 25
/-- What a value holds: rows of digests. -/
def RootW (seed pub : List Int) (la tr : Int) (n : Nat) : List Int := nodeZ pub (treeZ la tr) (fun j => leafZ seed pub la tr j) n 0
def WayW (seed pub : List Int) (la tr : Int) (n leaf : Nat) : List (List Int) := wayZ pub (treeZ la tr) (fun j => leafZ seed pub la tr j) leaf n
set_option maxHeartbeats 4000000 in
theorem part_any (seed prf pub m : List Int) (la tr : Int) (n leaf bw : Nat) (w : World) (hkw : Blk w bw (wayC seed prf pub la tr leaf n).toArray 60) (hseed : Dg seed) (hprf : Dg prf) (hpub : Dg pub) (hm : Dg m) (hla : 0 ≤ la ∧ la < 4294967296) (htr : 0 ≤ tr ∧ tr < 18446744073709551616) (hr : rightZ n leaf = true) (tab : ShaTab w) :
    Calls Tryz.prog 22 #[.pointer (some ⟨bw, 0, none⟩), .agg (m.map (Value.int .u8)).toArray] w fun e w' => ∃ sv av, e = .returned (.tuple #[.agg #[sv, av], .agg ((RootW seed pub la tr n).map (Value.int .u8)).toArray]) ∧ Below w.heap.size w w' ∧ RowT w.heap.size 67 (rowW (sigP m seed pub (otsZ la tr leaf))) sv w' ∧ RowT w.heap.size n (WayW seed pub la tr n leaf) av w' := by
  have hr2 := hr
  simp only [rightZ, decide_eq_true_eq] at hr2
  have hle : (0 : Int) ≤ leaf ∧ (leaf : Int) < 4294967296 := by
    rcases (show n = 1 ∨ n = 2 ∨ n = 3 ∨ n = 4 by omega) with rfl | rfl | rfl | rfl <;> simp at hr2 <;> omega
  clear hr2
  have HA := hid (Aw.ots (la := la) (tr := tr) (i := (leaf : Int)) hla htr hle)
  have HR := hid (show Dg (RootW seed pub la tr n) from Dg.node pub (treeZ la tr) (fun j => Dg.leaf seed pub la tr (j : Int)) n 0)
  have Htlt := hid (And.intro tab.lt tab.lt0)
  have HWe := hid (show ∀ d ∈ WayW seed pub la tr n leaf, Dg d from fun d hd => by
    obtain ⟨_, _, rfl⟩ := List.mem_map.1 hd
    exact Dg.node pub _ (fun j => Dg.leaf _ _ _ _ _) _ _)
  have HWl := hid (show (WayW seed pub la tr n leaf).length = n from wayZ_length _ _ _ _ _)
  have hn4 : n ≤ 4 := by
    simp only [rightZ, decide_eq_true_eq] at hr
    omega
  have CB := hid (fun (W : World) (t : ShaTab W) => build_good2 seed prf pub la tr n leaf W hseed hprf hpub hla htr hr t)
  rw [show nodeZ pub (treeZ la tr) (fun j : Nat => leafZ seed pub la tr (j : Int)) n 0 = RootW seed pub la tr n from rfl, show wayZ pub (treeZ la tr) (fun j : Nat => leafZ seed pub la tr (j : Int)) leaf n = WayW seed pub la tr n leaf from rfl] at CB
  generalize RootW seed pub la tr n = R at *
  generalize WayW seed pub la tr n leaf = WW at *
  have b1 := (Below.refl w.heap.size w).alloc (Nat.le_refl _) (.cells (m.map (Value.int .u8)).toArray 25 (0, 0))
  have b2 := b1.alloc b1.size (.cells #[.slice none 0 0, .slice none 0 0] 63 (0, 0))
  have b3 := b2.alloc b2.size (.cells (byteCells 32 []) 25 (0, 0))
  have Km := hid (((Blk.new (w := w) (n := w.heap.size) rfl (m.map (Value.int .u8)).toArray 25).old (.cells #[.slice none 0 0, .slice none 0 0] 63 (0, 0))).old (.cells (byteCells 32 []) 25 (0, 0)))
  have Kr := hid ((Blk.new (w := (w.alloc (.cells (m.map (Value.int .u8)).toArray 25 (0, 0)))) (n := w.heap.size + 1) (by simp only [World.size_alloc]) #[.slice none 0 0, .slice none 0 0] 63).old (.cells (byteCells 32 []) 25 (0, 0)))
  have Ks := hid (Blk.new (w := ((w.alloc (.cells (m.map (Value.int .u8)).toArray 25 (0, 0))).alloc (.cells #[.slice none 0 0, .slice none 0 0] 63 (0, 0)))) (n := w.heap.size + 1 + 1) (by simp only [World.size_alloc]) (byteCells 32 []) 25)
  have Hb := hid b3
  have hbz := b3.size
  have Hbs := hid (show w.heap.size + 1 + 1 + 1 = (((w.alloc (.cells (m.map (Value.int .u8)).toArray 25 (0, 0))).alloc (.cells #[.slice none 0 0, .slice none 0 0] 63 (0, 0))).alloc (.cells (byteCells 32 []) 25 (0, 0))).heap.size by simp only [World.size_alloc])
  have Htab := hid tab
  clear b1 b2 b3 tab 
  have Kw := hid (((hkw.old (.cells (m.map (Value.int .u8)).toArray 25 (0, 0))).old (.cells #[.slice none 0 0, .slice none 0 0] 63 (0, 0))).old (.cells (byteCells 32 []) 25 (0, 0)))
  have hwlt := hkw.lt
  go_enter Tryz.func22, Tryz.ntmps22
  go_wp2_with fail
  refine wp_region_split 30 27 30 28 24 29 30 (List.range 24) [] [(.c 24, [25, 26, 27, 28], []), (.c 29, [], [])] (List.range 24) [29] [(.b 29, [], []), (.c 24, [25, 26, 27, 28], [])] (by kernel_rfl) (by kernel_rfl) (by kernel_rfl) rfl rfl rfl (by decide) (by kernel_rfl) (by kernel_rfl) (by kernel_rfl) (fun _ _ d _ _ h => by cases d <;> exact h) ?_ ?_
  · skip
    simp only [late]
    apply Exists.intro
    refine ⟨fun w0 hb0 hF0 => ?_, ?_⟩
    · skip
      have z0 : ∀ w', (∃ x : Ext w0, w' = x.at_) → w'.rangeAt (bw) 0 ((secL seed prf pub).map (Value.int .u8)) := fun w' ⟨x, hx⟩ => hx ▸ wayC_sec ((Kw.out.below hb0).below x.same)
      have y0 : ∀ w', (∃ x : Ext w0, w' = x.at_) → w'.cell? ⟨bw, 96, none⟩ = some (.int .u32 la) := fun w' ⟨x, hx⟩ => by rw [hx]; exact wayC_at hseed hprf hpub ((Kw.out.below hb0).below x.same) 0
      have y1 : ∀ w', (∃ x : Ext w0, w' = x.at_) → w'.cell? ⟨bw, 97, none⟩ = some (.int .u64 tr) := fun w' ⟨x, hx⟩ => by rw [hx]; exact wayC_at hseed hprf hpub ((Kw.out.below hb0).below x.same) 1
      have y2 : ∀ w', (∃ x : Ext w0, w' = x.at_) → w'.cell? ⟨bw, 98, none⟩ = some (.int .i64 (leaf : Int)) := fun w' ⟨x, hx⟩ => by rw [hx]; exact wayC_at hseed hprf hpub ((Kw.out.below hb0).below x.same) 2
      have y3 : ∀ w', (∃ x : Ext w0, w' = x.at_) → w'.cell? ⟨bw, 99, none⟩ = some (.int .i64 (n : Int)) := fun w' ⟨x, hx⟩ => by rw [hx]; exact wayC_at hseed hprf hpub ((Kw.out.below hb0).below x.same) 3
      simp only [pick, List.range, List.range.loop, List.getElem?_toArray, List.getElem?_cons_succ, List.getElem?_cons_zero, Option.toList_some, List.cons_append, List.nil_append]
      repeat (first | (go_big_quiet_want; refine quiet_load_mid 29 _ rfl (bw) 0 rfl _ z0 _ Tryz.underlying29 rfl (by rw [List.length_map, secL_length hseed hprf hpub]; exact size_secret) ?_; go_big_quiet_on; simp only [Act.put, List.setIfInBounds_toArray, List.set_cons_zero, List.set_cons_succ]) | (go_big_quiet_want; refine quiet_load_one 55 _ rfl ⟨bw, 96, none⟩ rfl _ y0 _ Tryz.underlying55 rfl ?_; go_big_quiet_on; simp only [Act.put, List.setIfInBounds_toArray, List.set_cons_zero, List.set_cons_succ]) | (go_big_quiet_want; refine quiet_load_one 53 _ rfl ⟨bw, 97, none⟩ rfl _ y1 _ Tryz.underlying53 rfl ?_; go_big_quiet_on; simp only [Act.put, List.setIfInBounds_toArray, List.set_cons_zero, List.set_cons_succ]) | (go_big_quiet_want; refine quiet_load_one 3 _ rfl ⟨bw, 98, none⟩ rfl _ y2 _ Tryz.underlying3 rfl ?_; go_big_quiet_on; simp only [Act.put, List.setIfInBounds_toArray, List.set_cons_zero, List.set_cons_succ]) | (go_big_quiet_want; refine quiet_load_one 3 _ rfl ⟨bw, 99, none⟩ rfl _ y3 _ Tryz.underlying3 rfl ?_; go_big_quiet_on; simp only [Act.put, List.setIfInBounds_toArray, List.set_cons_zero, List.set_cons_succ]) | go_big_quiet_step (fail))
      exact wpQuiet_nil rfl
    refine AlChk.nil ?_
    refine Walk.call rfl 31 #[.agg ((secL seed prf pub).map (Value.int .u8)).toArray, .int .u32 la, .int .u64 tr, .int .i64 n, .int .i64 leaf] (fun v w' => ∃ g, v = .tuple #[.agg (R.map (Value.int .u8)).toArray, .slice (some ⟨g, 0, none⟩) n n, .int .i64 0] ∧ w.heap.size + 1 + 1 + 1 ≤ g ∧ Blk w' g (dcs WW) 25) (fun v w' w'' h k => by obtain ⟨u, h1, h2, h3⟩ := h; exact ⟨u, h1, h2, h3.below k⟩) rfl (fun w1 hb1 hF1 => ⟨by go_simp, ?_⟩) ?_
    · refine (CB.out w1 ((Htab.out.below Hb.out).below hb1)).mono ?_
      rintro e w2 ⟨g, hg, rfl, b2, r2⟩
      exact ⟨_, rfl, b2, g, rfl, (by rw [Hbs.out]; exact Nat.le_trans hb1.size hg), r2⟩
    rintro vb w1 hb1 hF1 ⟨gw, rfl, hgw0, _⟩
    apply Exists.intro
    refine ⟨fun w0 hb0 hF0 => ?_, ?_⟩
    · skip
      simp only [pick, List.getElem?_toArray, List.getElem?_cons_succ, List.getElem?_cons_zero, Option.toList_some, List.cons_append, List.nil_append, Act.put, List.setIfInBounds_toArray, List.set_cons_zero, List.set_cons_succ]
      repeat (first | go_big_quiet_step (fail))
      exact wpQuiet_nil rfl
    refine AlChk.nil ?_
    refine Walk.does rfl (fun v w' => ∃ b, v = .pointer (some ⟨b, 0, none⟩) ∧ (w.heap.size + 1 + 1 + 1 ≤ b ∧ gw ≠ b) ∧ Blk w' b (byteCells 32 []) 25) (fun v w' w'' h k => by obtain ⟨u, h1, h2, h3⟩ := h; exact ⟨u, h1, h2, h3.below k⟩) rfl (fun w1 hb1 hF1 => ?_) ?_
    · have kq : Blk w1 gw (dcs WW) 25 := by
        obtain ⟨u, h1, _, h2⟩ := hF1.2
        injection h1 with h1
        simp at h1
        rw [h1]; exact h2
      have hlt := kq.lt
      refine ⟨.pointer (some ⟨w1.heap.size, 0, none⟩), w1.alloc (.cells (byteCells 32 []) 25 (0, 0)), by go_simp; rfl, (Below.refl _ _).alloc (Nat.le_refl _) _, w1.heap.size, rfl, ⟨by rw [Hbs.out]; exact hb1.size, by omega⟩, Blk.new rfl _ _⟩
    rintro vd w1 hb1 hF1 ⟨bw1, rfl, ⟨hgsw1, hqne⟩, _⟩
    apply Exists.intro
    refine ⟨fun w4 hb4 hF4 => wpQuiet_nil rfl, ?_⟩
    refine AlChk.nil ?_
    refine Walk.fin fun w1 hw1 hFw1 _ => ?_
    simp only [List.drop_succ_cons, List.drop_zero]
    have Kzw1 := hid (show Blk w1 bw1 (byteCells 32 []) 25 from by
      obtain ⟨u, h1, _, h2⟩ := hFw1.2
      simp at h1
      rw [h1]; exact h2)
    have Kqw1 := hid (show Blk w1 gw (dcs WW) 25 from by
      obtain ⟨u, h1, _, h2⟩ := hFw1.1.2
      injection h1 with h1
      simp at h1
      rw [h1]; exact h2)
    clear hFw1
    have hgww1 : w.heap.size ≤ bw1 := by omega
    have hnmw1 : w.heap.size ≠ bw1 := by omega
    have hnrw1 : w.heap.size + 1 ≠ bw1 := by omega
    have hnsw1 : w.heap.size + 1 + 1 ≠ bw1 := by omega
    have hnww1 : bw ≠ bw1 := by omega
    have HBw1 := hid (Below.on Hb.out hw1)
    have hsw1 := HBw1.out.size
    have Kmw1 := hid (Km.out.below hw1)
    have Krw1 := hid (Kr.out.below hw1)
    have Ksw1 := hid (Ks.out.below hw1)
    have Kww1 := hid (Kw.out.below hw1)
    clear hw1
    have hnqw1 := hqne
    go_wp2_with (
          refine wpList_store_blk rfl 25 _ _ rfl bw1 (R.map (Value.int .u8)).toArray rfl rfl _ 25 Kzw1.out 32 size_digest zsize HR.out.size (ints_one _ _) ?_
          intro w2 hbw2 hkw2
          have HBw2 := hid (hbw2.below HBw1.out HBw1.out.size hgww1)
          have hsw2 := HBw2.out.size
          have Kyw2 := hid hkw2
          have Kmw2 := hid (hbw2.blk Kmw1.out hnmw1)
          have Krw2 := hid (hbw2.blk Krw1.out hnrw1)
          have Ksw2 := hid (hbw2.blk Ksw1.out hnsw1)
          have Kww2 := hid (hbw2.blk Kww1.out hnww1)
          have Kqw2 := hid (hbw2.blk Kqw1.out hnqw1)
          clear hbw2 hkw2)
    have hcs : w.heap.size + 1 + 1 + 1 ≤ w2.heap.size := by have := Kyw2.out.lt; omega
    have hyne : bw1 ≠ w.heap.size + 1 ∧ bw1 ≠ w.heap.size + 1 + 1 := by omega
    have hwne : bw ≠ w.heap.size + 1 ∧ bw ≠ w.heap.size + 1 + 1 := by omega
    refine FlowB.wp_region_butIn [w.heap.size + 1, w.heap.size + 1 + 1] (fun wz => Blk wz (w.heap.size + 1) #[.slice none 0 0, .slice none 0 0] 63 ∧ Blk wz (w.heap.size + 1 + 1) (byteCells 32 []) 25) 22 [0, 1, 2, 3, 4, 5, 6, 7, 8, 9, 10, 11, 12, 13, 14, 15, 17, 19] [] [(.c 16, [18], []), (.c 20, [], []), (.c 21, [], [])] (by kernel_rfl) (by kernel_rfl) ⟨Krw2.out, Ksw2.out⟩ (fun _ _ h hb => ⟨h.1.below hb, h.2.below hb⟩) ?_
    apply Exists.intro
    refine ⟨fun w0 hb0 hF0 => ?_, ?_⟩
    · skip
      have c0 := fun e : Ext w0 => ots_pl la tr leaf n e.at_ htr hle
      have x0 : ∀ w', (∃ x : Ext w0, w' = x.at_) → ∃ T, Blk w' (w.heap.size) (m.map (Value.int .u8)).toArray T := fun w' ⟨x, hx⟩ => ⟨_, hx ▸ ((hb0.blk Kmw2.out (by simp only [List.mem_cons, List.not_mem_nil, or_false]; omega)).below x.same)⟩
      have x1 : ∀ w', (∃ x : Ext w0, w' = x.at_) → ∃ T, Blk w' (bw1) (R.map (Value.int .u8)).toArray T := fun w' ⟨x, hx⟩ => ⟨_, hx ▸ ((hb0.blk Kyw2.out (by simp only [List.mem_cons, List.not_mem_nil, or_false]; omega)).below x.same)⟩
      have z0 : ∀ w', (∃ x : Ext w0, w' = x.at_) → w'.rangeAt bw 0 (seed.map (Value.int .u8)) := fun w' ⟨x, hx⟩ => hx ▸ wayC_seed ((hb0.blk Kww2.out (by simp only [List.mem_cons, List.not_mem_nil, or_false]; omega)).below x.same)
      have z1 : ∀ w', (∃ x : Ext w0, w' = x.at_) → w'.rangeAt bw 64 (pub.map (Value.int .u8)) := fun w' ⟨x, hx⟩ => hx ▸ wayC_pub hseed hprf ((hb0.blk Kww2.out (by simp only [List.mem_cons, List.not_mem_nil, or_false]; omega)).below x.same)
      have z2 : ∀ w', (∃ x : Ext w0, w' = x.at_) → w'.rangeAt bw 96 ([.int .u32 la, .int .u64 tr, .int .i64 (leaf : Int), .int .i64 (n : Int)]) := fun w' ⟨x, hx⟩ => hx ▸ wayC_place hseed hprf hpub ((hb0.blk Kww2.out (by simp only [List.mem_cons, List.not_mem_nil, or_false]; omega)).below x.same)
      simp only [pick, List.getElem?_toArray, List.getElem?_cons_succ, List.getElem?_cons_zero, Option.toList_some, List.cons_append, List.nil_append]
      repeat (first | (go_big_quiet_want; refine quiet_load_blk 25 _ rfl (w.heap.size) rfl _ x0 _ Tryz.underlying25 rfl 32 size_digest hm.size ?_; go_big_quiet_on; simp only [Act.put, List.setIfInBounds_toArray, List.set_cons_zero, List.set_cons_succ]) | (go_big_quiet_want; refine quiet_load_blk 25 _ rfl (bw1) rfl _ x1 _ Tryz.underlying25 rfl 32 size_digest HR.out.size ?_; go_big_quiet_on; simp only [Act.put, List.setIfInBounds_toArray, List.set_cons_zero, List.set_cons_succ]) | (go_big_quiet_want; refine quiet_load_mid 25 _ rfl bw 0 rfl _ z0 _ Tryz.underlying25 rfl (by rw [List.length_map, hseed.len]; exact size_digest) ?_; go_big_quiet_on; simp only [Act.put, List.setIfInBounds_toArray, List.set_cons_zero, List.set_cons_succ]) | (go_big_quiet_want; refine quiet_load_mid 25 _ rfl bw 64 rfl _ z1 _ Tryz.underlying25 rfl (by rw [List.length_map, hpub.len]; exact size_digest) ?_; go_big_quiet_on; simp only [Act.put, List.setIfInBounds_toArray, List.set_cons_zero, List.set_cons_succ]) | (go_big_quiet_want; refine quiet_load_mid 57 _ rfl bw 96 rfl _ z2 _ Tryz.underlying57 rfl (by exact size_place) ?_; go_big_quiet_on; simp only [Act.put, List.setIfInBounds_toArray, List.set_cons_zero, List.set_cons_succ]) | go_big_quiet_step (first | (go_at_call 38; with_reducible exact Calls.ext (c0 _))))
      exact wpQuiet_nil rfl
    refine FlowB.AlChk.nil ?_
    refine FlowB.Walk.call rfl 37 #[.agg (m.map (Value.int .u8)).toArray, .agg (seed.map (Value.int .u8)).toArray, .agg (pub.map (Value.int .u8)).toArray, .agg ((otsZ la tr leaf).map (Value.int .u32)).toArray] (RowG w2.heap.size (rowW (sigP m seed pub (otsZ la tr leaf)))) (fun _ wz => Blk wz (w.heap.size + 1) #[.slice none 0 0, .slice none 0 0] 63 ∧ Blk wz (w.heap.size + 1 + 1) (byteCells 32 []) 25) (fun v w' w'' hbw h hb => by
      obtain ⟨g, h1, h2, h3⟩ := h
      exact ⟨g, h1, h2, hb.blk h3 (by simp only [List.mem_cons, List.not_mem_nil, or_false]; omega)⟩) (fun _ _ _ h hb => ⟨h.1.below hb, h.2.below hb⟩) rfl (fun w1 hb1 hF1 hG1 => ⟨by go_simp, ?_⟩) ?_
    · refine (sign_any m seed pub (otsZ la tr leaf) w1 hm hseed hpub HA.out ?_).mono ?_
      · exact ((Htab.out.below HBw2.out)).in_ hb1 (by have := Htlt.out.1; simp only [List.mem_cons, List.not_mem_nil, or_false]; omega) (by have := Htlt.out.2; simp only [List.mem_cons, List.not_mem_nil, or_false]; omega)
      rintro e w2 ⟨g, hg, rfl, b2, k2⟩
      exact ⟨_, rfl, FlowB.ButIn.of_below b2, ⟨g, rfl, Nat.le_trans hb1.size hg, k2⟩, hG1.1.below b2, hG1.2.below b2⟩
    rintro vs w1 hb1 hF1 ⟨g, rfl, hg, _⟩
    apply Exists.intro
    refine ⟨fun w0 hb0 hF0 => ?_, ?_⟩
    · skip
      simp only [pick, List.getElem?_toArray, List.getElem?_cons_succ, List.getElem?_cons_zero, Option.toList_some, List.cons_append, List.nil_append, Act.put, List.setIfInBounds_toArray, List.set_cons_zero, List.set_cons_succ]
      repeat (first | go_big_quiet_step (fail))
      exact wpQuiet_nil rfl
    refine FlowB.AlChk.nil ?_
    refine FlowB.Walk.skips rfl (fun wz => Blk wz (w.heap.size + 1) #[.slice (some ⟨g, 0, none⟩) 67 67, .slice (some ⟨gw, 0, none⟩) n n] 63 ∧ Blk wz (w.heap.size + 1 + 1) (byteCells 32 []) 25) (fun _ _ h hb => ⟨h.1.below hb, h.2.below hb⟩) rfl (fun w1 hb1 hF1 hG1 => ?_) ?_
    · exact FlowB.store_skips 63 _ _ rfl (w.heap.size + 1) #[.slice (some ⟨g, 0, none⟩) 67 67, .slice (some ⟨gw, 0, none⟩) n n] rfl rfl _ 63 hG1.1 2 size_part rfl rfl (by simp [Value.oneCell']) (by simp) (fun w2 h2 h3 => ⟨h3, h2.blk hG1.2 (by omega)⟩)
    intro w1 hb1 hF1
    apply Exists.intro
    refine ⟨fun w2 hb2 hF2 => wpQuiet_nil rfl, ?_⟩
    refine FlowB.AlChk.nil ?_
    refine FlowB.Walk.skips rfl (fun wz => Blk wz (w.heap.size + 1) #[.slice (some ⟨g, 0, none⟩) 67 67, .slice (some ⟨gw, 0, none⟩) n n] 63 ∧ Blk wz (w.heap.size + 1 + 1) (R.map (Value.int .u8)).toArray 25) (fun _ _ h hb => ⟨h.1.below hb, h.2.below hb⟩) rfl (fun w1 hb1 hF1 hG1 => ?_) ?_
    · exact FlowB.store_skips 25 _ _ rfl (w.heap.size + 1 + 1) (R.map (Value.int .u8)).toArray rfl rfl _ 25 hG1.2 32 size_digest zsize HR.out.size (ints_one _ _) (by simp) (fun w2 h2 h3 => ⟨h2.blk hG1.1 (by omega), h3⟩)
    intro w1 hb1 hF1
    apply Exists.intro
    refine ⟨fun w2 hb2 hF2 => wpQuiet_nil rfl, ?_⟩
    refine FlowB.AlChk.nil ?_
    refine FlowB.Walk.fin fun w5 h5 hF5 hG5 => ?_
    simp only [List.drop_succ_cons, List.drop_zero]
    have HG5 := hid hG5
    have HS5 := hid (show RowG w2.heap.size (rowW (sigP m seed pub (otsZ la tr leaf))) (.slice (some ⟨g, 0, none⟩) 67 67) w5 from by
      have := hF5.1.1.2
      exact this)
    have HB5 := hid (h5.below HBw2.out HBw2.out.size (by simp only [List.mem_cons, List.not_mem_nil, or_false, forall_eq_or_imp, forall_eq]; omega))
    have HW5 := hid (show RowT w.heap.size n WW (.slice (some ⟨gw, 0, none⟩) n n) w5 from ⟨HWl.out, HWe.out, gw, by omega, rfl, h5.blk Kqw2.out (by simp only [List.mem_cons, List.not_mem_nil, or_false]; omega)⟩)
    clear h5 hF5 hG5
    go_wp2_with fail
    refine bodyPost_ret (v := .tuple #[.agg #[.slice (some ⟨g, 0, none⟩) 67 67, .slice (some ⟨gw, 0, none⟩) n n], .agg (R.map (Value.int .u8)).toArray]) (results_blk2t Tryz.results22 _ (w.heap.size + 1) (w.heap.size + 1 + 1) rfl rfl _ _ 63 25 HG5.out.1 HG5.out.2 _ _ Tryz.underlying63 rfl Tryz.underlying25 rfl 2 32 size_part size_digest rfl HR.out.size) rfl ⟨_, _, rfl, HB5.out, ?_, HW5.out⟩
    obtain ⟨g', h1, h2, h3⟩ := HS5.out
    rw [h1]
    exact ⟨rowW_length _, rowW_each (Dg.sigP _ _ _ _), g', by omega, rfl, h3⟩
  · skip
    simp only [late]
    apply Exists.intro
    refine ⟨fun w0 hb0 hF0 => ?_, ?_⟩
    · skip
      have z0 : ∀ w', (∃ x : Ext w0, w' = x.at_) → w'.rangeAt (bw) 0 ((secL seed prf pub).map (Value.int .u8)) := fun w' ⟨x, hx⟩ => hx ▸ wayC_sec ((Kw.out.below hb0).below x.same)
      have y0 : ∀ w', (∃ x : Ext w0, w' = x.at_) → w'.cell? ⟨bw, 96, none⟩ = some (.int .u32 la) := fun w' ⟨x, hx⟩ => by rw [hx]; exact wayC_at hseed hprf hpub ((Kw.out.below hb0).below x.same) 0
      have y1 : ∀ w', (∃ x : Ext w0, w' = x.at_) → w'.cell? ⟨bw, 97, none⟩ = some (.int .u64 tr) := fun w' ⟨x, hx⟩ => by rw [hx]; exact wayC_at hseed hprf hpub ((Kw.out.below hb0).below x.same) 1
      have y2 : ∀ w', (∃ x : Ext w0, w' = x.at_) → w'.cell? ⟨bw, 98, none⟩ = some (.int .i64 (leaf : Int)) := fun w' ⟨x, hx⟩ => by rw [hx]; exact wayC_at hseed hprf hpub ((Kw.out.below hb0).below x.same) 2
      have y3 : ∀ w', (∃ x : Ext w0, w' = x.at_) → w'.cell? ⟨bw, 99, none⟩ = some (.int .i64 (n : Int)) := fun w' ⟨x, hx⟩ => by rw [hx]; exact wayC_at hseed hprf hpub ((Kw.out.below hb0).below x.same) 3
      simp only [pick, List.range, List.range.loop, List.getElem?_toArray, List.getElem?_cons_succ, List.getElem?_cons_zero, Option.toList_some, List.cons_append, List.nil_append]
      repeat (first | (go_big_quiet_want; refine quiet_load_mid 29 _ rfl (bw) 0 rfl _ z0 _ Tryz.underlying29 rfl (by rw [List.length_map, secL_length hseed hprf hpub]; exact size_secret) ?_; go_big_quiet_on; simp only [Act.put, List.setIfInBounds_toArray, List.set_cons_zero, List.set_cons_succ]) | (go_big_quiet_want; refine quiet_load_one 55 _ rfl ⟨bw, 96, none⟩ rfl _ y0 _ Tryz.underlying55 rfl ?_; go_big_quiet_on; simp only [Act.put, List.setIfInBounds_toArray, List.set_cons_zero, List.set_cons_succ]) | (go_big_quiet_want; refine quiet_load_one 53 _ rfl ⟨bw, 97, none⟩ rfl _ y1 _ Tryz.underlying53 rfl ?_; go_big_quiet_on; simp only [Act.put, List.setIfInBounds_toArray, List.set_cons_zero, List.set_cons_succ]) | (go_big_quiet_want; refine quiet_load_one 3 _ rfl ⟨bw, 98, none⟩ rfl _ y2 _ Tryz.underlying3 rfl ?_; go_big_quiet_on; simp only [Act.put, List.setIfInBounds_toArray, List.set_cons_zero, List.set_cons_succ]) | (go_big_quiet_want; refine quiet_load_one 3 _ rfl ⟨bw, 99, none⟩ rfl _ y3 _ Tryz.underlying3 rfl ?_; go_big_quiet_on; simp only [Act.put, List.setIfInBounds_toArray, List.set_cons_zero, List.set_cons_succ]) | go_big_quiet_step (fail))
      exact wpQuiet_nil rfl
    refine FlowR.AlChk.one rfl (fun b => .pointer (some ⟨b, 0, none⟩)) (.cells (byteCells 32 []) 25 (0, 0)) rfl (fun w3 hb3 hF3 => by go_simp; rfl) ?_
    refine FlowR.AlChk.nil ?_
    refine FlowR.Walk.blk rfl (fun b => .pointer (some ⟨b, 0, none⟩)) (.cells (byteCells 32 []) 25 (0, 0)) (by simp) ?_
    intro bw1 wz hbz_ hFz hgew1 _
    apply Exists.intro
    refine ⟨fun w4 hb4 hF4 => wpQuiet_nil rfl, ?_⟩
    refine FlowR.AlChk.nil ?_
    refine FlowR.Walk.call rfl 31 #[.agg ((secL seed prf pub).map (Value.int .u8)).toArray, .int .u32 la, .int .u64 tr, .int .i64 n, .int .i64 leaf] (fun v w' => ∃ g, v = .tuple #[.agg (R.map (Value.int .u8)).toArray, .slice (some ⟨g, 0, none⟩) n n, .int .i64 0] ∧ (w.heap.size + 1 + 1 + 1 ≤ g ∧ bw1 < g) ∧ Blk w' g (dcs WW) 25) (fun v w' w'' h k => by obtain ⟨u, h1, h2, h3⟩ := h; exact ⟨u, h1, h2, h3.below k⟩) rfl (fun w1 hb1 hF1 => ⟨by go_simp, ?_⟩) ?_
    · refine (CB.out w1 ((Htab.out.below Hb.out).below hb1)).mono ?_
      rintro e w2 ⟨g, hg, rfl, b2, r2⟩
      exact ⟨_, rfl, b2, g, rfl, ⟨by rw [Hbs.out]; exact Nat.le_trans hb1.size hg, Nat.lt_of_lt_of_le (show Blk w1 bw1 (byteCells 32 []) 25 from hF1.2).lt hg⟩, r2⟩
    rintro vb w1 hb1 hF1 ⟨gw, rfl, ⟨hgw0, hgw1⟩, _⟩
    apply Exists.intro
    refine ⟨fun w0 hb0 hF0 => ?_, ?_⟩
    · skip
      simp only [pick, List.getElem?_toArray, List.getElem?_cons_succ, List.getElem?_cons_zero, Option.toList_some, List.cons_append, List.nil_append, Act.put, List.setIfInBounds_toArray, List.set_cons_zero, List.set_cons_succ]
      repeat (first | go_big_quiet_step (fail))
      exact wpQuiet_nil rfl
    refine FlowR.AlChk.nil ?_
    refine FlowR.Walk.fin fun w1 hw1 hFw1 _ => ?_
    simp only [List.drop_succ_cons, List.drop_zero]
    have Kzw1 := hid (show Blk w1 bw1 (byteCells 32 []) 25 from hFw1.1.2)
    have Kqw1 := hid (show Blk w1 gw (dcs WW) 25 from by
      obtain ⟨u, h1, _, h2⟩ := hFw1.2
      injection h1 with h1
      simp at h1
      rw [h1]; exact h2)
    have hgsw1 : w.heap.size + 1 + 1 + 1 ≤ bw1 := by rw [Hbs.out]; exact hgew1
    have hqne : gw ≠ bw1 := by omega
    clear hFw1 hbz_ hFz
    have hgww1 : w.heap.size ≤ bw1 := by omega
    have hnmw1 : w.heap.size ≠ bw1 := by omega
    have hnrw1 : w.heap.size + 1 ≠ bw1 := by omega
    have hnsw1 : w.heap.size + 1 + 1 ≠ bw1 := by omega
    have hnww1 : bw ≠ bw1 := by omega
    have HBw1 := hid (Below.on Hb.out hw1)
    have hsw1 := HBw1.out.size
    have Kmw1 := hid (Km.out.below hw1)
    have Krw1 := hid (Kr.out.below hw1)
    have Ksw1 := hid (Ks.out.below hw1)
    have Kww1 := hid (Kw.out.below hw1)
    clear hw1
    have hnqw1 := hqne
    go_wp2_with (
          refine wpList_store_blk rfl 25 _ _ rfl bw1 (R.map (Value.int .u8)).toArray rfl rfl _ 25 Kzw1.out 32 size_digest zsize HR.out.size (ints_one _ _) ?_
          intro w2 hbw2 hkw2
          have HBw2 := hid (hbw2.below HBw1.out HBw1.out.size hgww1)
          have hsw2 := HBw2.out.size
          have Kyw2 := hid hkw2
          have Kmw2 := hid (hbw2.blk Kmw1.out hnmw1)
          have Krw2 := hid (hbw2.blk Krw1.out hnrw1)
          have Ksw2 := hid (hbw2.blk Ksw1.out hnsw1)
          have Kww2 := hid (hbw2.blk Kww1.out hnww1)
          have Kqw2 := hid (hbw2.blk Kqw1.out hnqw1)
          clear hbw2 hkw2)
    have hcs : w.heap.size + 1 + 1 + 1 ≤ w2.heap.size := by have := Kyw2.out.lt; omega
    have hyne : bw1 ≠ w.heap.size + 1 ∧ bw1 ≠ w.heap.size + 1 + 1 := by omega
    have hwne : bw ≠ w.heap.size + 1 ∧ bw ≠ w.heap.size + 1 + 1 := by omega
    refine FlowB.wp_region_butIn [w.heap.size + 1, w.heap.size + 1 + 1] (fun wz => Blk wz (w.heap.size + 1) #[.slice none 0 0, .slice none 0 0] 63 ∧ Blk wz (w.heap.size + 1 + 1) (byteCells 32 []) 25) 22 [0, 1, 2, 3, 4, 5, 6, 7, 8, 9, 10, 11, 12, 13, 14, 15, 17, 19] [] [(.c 16, [18], []), (.c 20, [], []), (.c 21, [], [])] (by kernel_rfl) (by kernel_rfl) ⟨Krw2.out, Ksw2.out⟩ (fun _ _ h hb => ⟨h.1.below hb, h.2.below hb⟩) ?_
    apply Exists.intro
    refine ⟨fun w0 hb0 hF0 => ?_, ?_⟩
    · skip
      have c0 := fun e : Ext w0 => ots_pl la tr leaf n e.at_ htr hle
      have x0 : ∀ w', (∃ x : Ext w0, w' = x.at_) → ∃ T, Blk w' (w.heap.size) (m.map (Value.int .u8)).toArray T := fun w' ⟨x, hx⟩ => ⟨_, hx ▸ ((hb0.blk Kmw2.out (by simp only [List.mem_cons, List.not_mem_nil, or_false]; omega)).below x.same)⟩
      have x1 : ∀ w', (∃ x : Ext w0, w' = x.at_) → ∃ T, Blk w' (bw1) (R.map (Value.int .u8)).toArray T := fun w' ⟨x, hx⟩ => ⟨_, hx ▸ ((hb0.blk Kyw2.out (by simp only [List.mem_cons, List.not_mem_nil, or_false]; omega)).below x.same)⟩
      have z0 : ∀ w', (∃ x : Ext w0, w' = x.at_) → w'.rangeAt bw 0 (seed.map (Value.int .u8)) := fun w' ⟨x, hx⟩ => hx ▸ wayC_seed ((hb0.blk Kww2.out (by simp only [List.mem_cons, List.not_mem_nil, or_false]; omega)).below x.same)
      have z1 : ∀ w', (∃ x : Ext w0, w' = x.at_) → w'.rangeAt bw 64 (pub.map (Value.int .u8)) := fun w' ⟨x, hx⟩ => hx ▸ wayC_pub hseed hprf ((hb0.blk Kww2.out (by simp only [List.mem_cons, List.not_mem_nil, or_false]; omega)).below x.same)
      have z2 : ∀ w', (∃ x : Ext w0, w' = x.at_) → w'.rangeAt bw 96 ([.int .u32 la, .int .u64 tr, .int .i64 (leaf : Int), .int .i64 (n : Int)]) := fun w' ⟨x, hx⟩ => hx ▸ wayC_place hseed hprf hpub ((hb0.blk Kww2.out (by simp only [List.mem_cons, List.not_mem_nil, or_false]; omega)).below x.same)
      simp only [pick, List.getElem?_toArray, List.getElem?_cons_succ, List.getElem?_cons_zero, Option.toList_some, List.cons_append, List.nil_append]
      repeat (first | (go_big_quiet_want; refine quiet_load_blk 25 _ rfl (w.heap.size) rfl _ x0 _ Tryz.underlying25 rfl 32 size_digest hm.size ?_; go_big_quiet_on; simp only [Act.put, List.setIfInBounds_toArray, List.set_cons_zero, List.set_cons_succ]) | (go_big_quiet_want; refine quiet_load_blk 25 _ rfl (bw1) rfl _ x1 _ Tryz.underlying25 rfl 32 size_digest HR.out.size ?_; go_big_quiet_on; simp only [Act.put, List.setIfInBounds_toArray, List.set_cons_zero, List.set_cons_succ]) | (go_big_quiet_want; refine quiet_load_mid 25 _ rfl bw 0 rfl _ z0 _ Tryz.underlying25 rfl (by rw [List.length_map, hseed.len]; exact size_digest) ?_; go_big_quiet_on; simp only [Act.put, List.setIfInBounds_toArray, List.set_cons_zero, List.set_cons_succ]) | (go_big_quiet_want; refine quiet_load_mid 25 _ rfl bw 64 rfl _ z1 _ Tryz.underlying25 rfl (by rw [List.length_map, hpub.len]; exact size_digest) ?_; go_big_quiet_on; simp only [Act.put, List.setIfInBounds_toArray, List.set_cons_zero, List.set_cons_succ]) | (go_big_quiet_want; refine quiet_load_mid 57 _ rfl bw 96 rfl _ z2 _ Tryz.underlying57 rfl (by exact size_place) ?_; go_big_quiet_on; simp only [Act.put, List.setIfInBounds_toArray, List.set_cons_zero, List.set_cons_succ]) | go_big_quiet_step (first | (go_at_call 38; with_reducible exact Calls.ext (c0 _))))
      exact wpQuiet_nil rfl
    refine FlowB.AlChk.nil ?_
    refine FlowB.Walk.call rfl 37 #[.agg (m.map (Value.int .u8)).toArray, .agg (seed.map (Value.int .u8)).toArray, .agg (pub.map (Value.int .u8)).toArray, .agg ((otsZ la tr leaf).map (Value.int .u32)).toArray] (RowG w2.heap.size (rowW (sigP m seed pub (otsZ la tr leaf)))) (fun _ wz => Blk wz (w.heap.size + 1) #[.slice none 0 0, .slice none 0 0] 63 ∧ Blk wz (w.heap.size + 1 + 1) (byteCells 32 []) 25) (fun v w' w'' hbw h hb => by
      obtain ⟨g, h1, h2, h3⟩ := h
      exact ⟨g, h1, h2, hb.blk h3 (by simp only [List.mem_cons, List.not_mem_nil, or_false]; omega)⟩) (fun _ _ _ h hb => ⟨h.1.below hb, h.2.below hb⟩) rfl (fun w1 hb1 hF1 hG1 => ⟨by go_simp, ?_⟩) ?_
    · refine (sign_any m seed pub (otsZ la tr leaf) w1 hm hseed hpub HA.out ?_).mono ?_
      · exact ((Htab.out.below HBw2.out)).in_ hb1 (by have := Htlt.out.1; simp only [List.mem_cons, List.not_mem_nil, or_false]; omega) (by have := Htlt.out.2; simp only [List.mem_cons, List.not_mem_nil, or_false]; omega)
      rintro e w2 ⟨g, hg, rfl, b2, k2⟩
      exact ⟨_, rfl, FlowB.ButIn.of_below b2, ⟨g, rfl, Nat.le_trans hb1.size hg, k2⟩, hG1.1.below b2, hG1.2.below b2⟩
    rintro vs w1 hb1 hF1 ⟨g, rfl, hg, _⟩
    apply Exists.intro
    refine ⟨fun w0 hb0 hF0 => ?_, ?_⟩
    · skip
      simp only [pick, List.getElem?_toArray, List.getElem?_cons_succ, List.getElem?_cons_zero, Option.toList_some, List.cons_append, List.nil_append, Act.put, List.setIfInBounds_toArray, List.set_cons_zero, List.set_cons_succ]
      repeat (first | go_big_quiet_step (fail))
      exact wpQuiet_nil rfl
    refine FlowB.AlChk.nil ?_
    refine FlowB.Walk.skips rfl (fun wz => Blk wz (w.heap.size + 1) #[.slice (some ⟨g, 0, none⟩) 67 67, .slice (some ⟨gw, 0, none⟩) n n] 63 ∧ Blk wz (w.heap.size + 1 + 1) (byteCells 32 []) 25) (fun _ _ h hb => ⟨h.1.below hb, h.2.below hb⟩) rfl (fun w1 hb1 hF1 hG1 => ?_) ?_
    · exact FlowB.store_skips 63 _ _ rfl (w.heap.size + 1) #[.slice (some ⟨g, 0, none⟩) 67 67, .slice (some ⟨gw, 0, none⟩) n n] rfl rfl _ 63 hG1.1 2 size_part rfl rfl (by simp [Value.oneCell']) (by simp) (fun w2 h2 h3 => ⟨h3, h2.blk hG1.2 (by omega)⟩)
    intro w1 hb1 hF1
    apply Exists.intro
    refine ⟨fun w2 hb2 hF2 => wpQuiet_nil rfl, ?_⟩
    refine FlowB.AlChk.nil ?_
    refine FlowB.Walk.skips rfl (fun wz => Blk wz (w.heap.size + 1) #[.slice (some ⟨g, 0, none⟩) 67 67, .slice (some ⟨gw, 0, none⟩) n n] 63 ∧ Blk wz (w.heap.size + 1 + 1) (R.map (Value.int .u8)).toArray 25) (fun _ _ h hb => ⟨h.1.below hb, h.2.below hb⟩) rfl (fun w1 hb1 hF1 hG1 => ?_) ?_
    · exact FlowB.store_skips 25 _ _ rfl (w.heap.size + 1 + 1) (R.map (Value.int .u8)).toArray rfl rfl _ 25 hG1.2 32 size_digest zsize HR.out.size (ints_one _ _) (by simp) (fun w2 h2 h3 => ⟨h2.blk hG1.1 (by omega), h3⟩)
    intro w1 hb1 hF1
    apply Exists.intro
    refine ⟨fun w2 hb2 hF2 => wpQuiet_nil rfl, ?_⟩
    refine FlowB.AlChk.nil ?_
    refine FlowB.Walk.fin fun w5 h5 hF5 hG5 => ?_
    simp only [List.drop_succ_cons, List.drop_zero]
    have HG5 := hid hG5
    have HS5 := hid (show RowG w2.heap.size (rowW (sigP m seed pub (otsZ la tr leaf))) (.slice (some ⟨g, 0, none⟩) 67 67) w5 from by
      have := hF5.1.1.2
      exact this)
    have HB5 := hid (h5.below HBw2.out HBw2.out.size (by simp only [List.mem_cons, List.not_mem_nil, or_false, forall_eq_or_imp, forall_eq]; omega))
    have HW5 := hid (show RowT w.heap.size n WW (.slice (some ⟨gw, 0, none⟩) n n) w5 from ⟨HWl.out, HWe.out, gw, by omega, rfl, h5.blk Kqw2.out (by simp only [List.mem_cons, List.not_mem_nil, or_false]; omega)⟩)
    clear h5 hF5 hG5
    go_wp2_with fail
    refine bodyPost_ret (v := .tuple #[.agg #[.slice (some ⟨g, 0, none⟩) 67 67, .slice (some ⟨gw, 0, none⟩) n n], .agg (R.map (Value.int .u8)).toArray]) (results_blk2t Tryz.results22 _ (w.heap.size + 1) (w.heap.size + 1 + 1) rfl rfl _ _ 63 25 HG5.out.1 HG5.out.2 _ _ Tryz.underlying63 rfl Tryz.underlying25 rfl 2 32 size_part size_digest rfl HR.out.size) rfl ⟨_, _, rfl, HB5.out, ?_, HW5.out⟩
    obtain ⟨g', h1, h2, h3⟩ := HS5.out
    rw [h1]
    exact ⟨rowW_length _, rowW_each (Dg.sigP _ _ _ _), g', by omega, rfl, h3⟩
end Go.Proofs.YtjkfbeillmeomaaGreatDoor
