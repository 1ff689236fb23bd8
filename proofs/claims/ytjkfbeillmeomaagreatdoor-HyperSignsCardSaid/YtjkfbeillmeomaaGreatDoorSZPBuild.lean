/-
  BuildT, BuildP, TRows, Way, BuildLaws: one text.
-/
import Derived.Test.YtjkfbeillmeomaaGreatDoorSZPStack
import Derived.Test.YtjkfbeillmeomaaGreatDoorSZPClimb
import Derived.Deep.Strs
namespace Go.Proofs.YtjkfbeillmeomaaGreatDoor
set_option maxRecDepth 100000
open Go.ChangeShapes Go.WideShapes Go.ChangeAt Go.RowKit
theorem addR_length (pub ad : List Int) (leaf : Nat) : ∀ (stk : List Nod) (path : List (List Int)) (x : Nod), (addR pub ad leaf stk path x).1.length ≤ stk.length + 1
  | [], _, _ => by simp [addR]
  | t :: s, path, x => by
    by_cases h : t.l = x.l
    · rw [addR_up h]
      have := addR_length pub ad leaf s (pickM leaf path (upN pub ad t x)) (upN pub ad t x)
      simp only [List.length_cons]
      omega
    · rw [addR_on h]
      simp
/-- What the first leaves come to. -/
def addAll (pub ad : List Int) (leaf n : Nat) (lf : Nat → List Int) : Nat → List Nod × List (List Int)
  | 0 => ([], List.replicate n zD)
  | k + 1 => addR pub ad leaf (addAll pub ad leaf n lf k).1 (pickM leaf (addAll pub ad leaf n lf k).2 ⟨lf k, 0, k⟩) ⟨lf k, 0, k⟩
theorem addAll_length (pub ad : List Int) (leaf n : Nat) (lf : Nat → List Int) : ∀ k, (addAll pub ad leaf n lf k).1.length ≤ k
  | 0 => by simp [addAll]
  | k + 1 => by
    have h1 := addAll_length pub ad leaf n lf k
    have h2 := addR_length pub ad leaf (addAll pub ad leaf n lf k).1 (pickM leaf (addAll pub ad leaf n lf k).2 ⟨lf k, 0, k⟩) ⟨lf k, 0, k⟩
    unfold addAll
    omega
/-- The node of a level, at a number. -/
def nodeZ (pub ad : List Int) (lf : Nat → List Int) : Nat → Nat → List Int
  | 0, j => lf j
  | k + 1, j => joinZ (nodeZ pub ad lf k (2 * j)) (nodeZ pub ad lf k (2 * j + 1)) pub (setAd ad (k : Nat) (j : Nat) 0)
def wayZ (pub ad : List Int) (lf : Nat → List Int) (leaf n : Nat) : List (List Int) := (List.range n).map fun k => nodeZ pub ad lf k (sibN leaf k)
theorem all_1 (pub ad : List Int) (lf : Nat → List Int) : ∀ i, i < 2 → addAll pub ad i 1 lf 2 = ([⟨nodeZ pub ad lf 1 0, 1, 0⟩], wayZ pub ad lf i 1)
  | 0, _ => by kernel_rfl
  | 1, _ => by kernel_rfl
  | _ + 2, h => absurd h (by omega)
theorem all_2 (pub ad : List Int) (lf : Nat → List Int) : ∀ i, i < 4 → addAll pub ad i 2 lf 4 = ([⟨nodeZ pub ad lf 2 0, 2, 0⟩], wayZ pub ad lf i 2)
  | 0, _ => by kernel_rfl
  | 1, _ => by kernel_rfl
  | 2, _ => by kernel_rfl
  | 3, _ => by kernel_rfl
  | _ + 4, h => absurd h (by omega)
theorem all_3 (pub ad : List Int) (lf : Nat → List Int) : ∀ i, i < 8 → addAll pub ad i 3 lf 8 = ([⟨nodeZ pub ad lf 3 0, 3, 0⟩], wayZ pub ad lf i 3)
  | 0, _ => by kernel_rfl
  | 1, _ => by kernel_rfl
  | 2, _ => by kernel_rfl
  | 3, _ => by kernel_rfl
  | 4, _ => by kernel_rfl
  | 5, _ => by kernel_rfl
  | 6, _ => by kernel_rfl
  | 7, _ => by kernel_rfl
  | _ + 8, h => absurd h (by omega)
theorem all_4 (pub ad : List Int) (lf : Nat → List Int) : ∀ i, i < 16 → addAll pub ad i 4 lf 16 = ([⟨nodeZ pub ad lf 4 0, 4, 0⟩], wayZ pub ad lf i 4)
  | 0, _ => by kernel_rfl
  | 1, _ => by kernel_rfl
  | 2, _ => by kernel_rfl
  | 3, _ => by kernel_rfl
  | 4, _ => by kernel_rfl
  | 5, _ => by kernel_rfl
  | 6, _ => by kernel_rfl
  | 7, _ => by kernel_rfl
  | 8, _ => by kernel_rfl
  | 9, _ => by kernel_rfl
  | 10, _ => by kernel_rfl
  | 11, _ => by kernel_rfl
  | 12, _ => by kernel_rfl
  | 13, _ => by kernel_rfl
  | 14, _ => by kernel_rfl
  | 15, _ => by kernel_rfl
  | _ + 16, h => absurd h (by omega)
theorem addAll_done (pub ad : List Int) (lf : Nat → List Int) (n leaf : Nat) (h : rightZ n leaf = true) : addAll pub ad leaf n lf (2 ^ n) = ([⟨nodeZ pub ad lf n 0, n, 0⟩], wayZ pub ad lf leaf n) := by
  simp only [rightZ, decide_eq_true_eq] at h
  obtain ⟨h1, h2, h3, h4⟩ := h
  rcases (show n = 1 ∨ n = 2 ∨ n = 3 ∨ n = 4 by omega) with rfl | rfl | rfl | rfl
  · exact all_1 pub ad lf leaf (by simp at h4; omega)
  · exact all_2 pub ad lf leaf (by simp at h4; omega)
  · exact all_3 pub ad lf leaf (by simp at h4; omega)
  · exact all_4 pub ad lf leaf (by simp at h4; omega)
/-- A world in which a builder may have changed but for its path's slice. -/
structure ButBld (b r : Nat) (a c : World) : Prop where
  inn : FlowB.ButIn [b, r] a c
  cell : b < a.heap.size → c.cell? ⟨b, 42, none⟩ = a.cell? ⟨b, 42, none⟩
theorem rel_butBld (b r : Nat) : Rel (ButBld b r) :=
  ⟨fun h => ⟨FlowB.ButIn.of_below h, fun hb => h.cell hb⟩, fun h k => ⟨h.inn.trans k.inn, fun hb => (k.cell (Nat.lt_of_lt_of_le hb h.inn.size)).trans (h.cell hb)⟩⟩
theorem build_bld (pub ad : List Int) (leaf n c : Nat) (hp : Dg pub) (ha : Aw ad) (w : World) : (Instr.build 102 #[(1, .agg (pub.map (Value.int .u8)).toArray), (2, .agg (ad.map (Value.int .u32)).toArray), (3, .int .i64 (leaf : Int)), (4, .slice (some ⟨c, 0, none⟩) n n)]).run Tryz.prog w = .ok (.agg (bldC (.slice none 0 0) pub ad leaf (.slice (some ⟨c, 0, none⟩) n n))) w := by
  refine run_build w _ _ _ ?_
  obtain ⟨i0, hi, hz0⟩ := Option.map_eq_some_iff.1 (show (Tryz.prog.info? 102).map (·.zero) = some (some (.agg (bldC (.slice none 0 0) zD (List.replicate 8 0) 0 (.slice none 0 0)))) by kernel_rfl)
  have hz : (Value.agg (bldC (.slice none 0 0) zD (List.replicate 8 0) 0 (.slice none 0 0))).cells = bldC (.slice none 0 0) zD (List.replicate 8 0) 0 (.slice none 0 0) := rfl
  obtain ⟨fields, hu, hq⟩ : ∃ fields, Tryz.prog.underlying 102 = some (.struct fields) ∧ fields.toList.mapM (fun f => (Tryz.prog.info? f.type).map fun i => (f.offset, i.size)) = some [(0, 1), (1, 32), (33, 8), (41, 1), (42, 1)] := ⟨_, Tryz.underlying102, by kernel_rfl⟩
  unfold Program.built
  simp only [hi, hu, hz0, hq, hz]
  have hzl : (zD : List Int).length = 32 := rfl
  have s0 : (bldC (.slice none 0 0) zD (List.replicate 8 0) 0 (.slice none 0 0)).size = 43 := rfl
  have hc1 : (Value.agg (pub.map (Value.int .u8)).toArray).cells.size = 32 := hp.size
  have hc2 : (Value.agg (ad.map (Value.int .u32)).toArray).cells.size = 8 := ha.size
  have hl1 : (Value.int IntKind.i64 (leaf : Int)).cells = #[Value.int IntKind.i64 (leaf : Int)] := rfl
  have hl2 : (Value.slice (some ⟨c, 0, none⟩) n n).cells = #[Value.slice (some ⟨c, 0, none⟩) n n] := rfl
  have t1 : splice (bldC (.slice none 0 0) zD (List.replicate 8 0) 0 (.slice none 0 0)).toList 1 (Value.agg (pub.map (Value.int .u8)).toArray).cells.toList = (bldC (.slice none 0 0) pub (List.replicate 8 0) 0 (.slice none 0 0)).toList := by
    show splice _ 1 (pub.map (Value.int .u8)) = _
    unfold splice
    rw [List.length_map, hp.len]
    rfl
  have t2 : splice (bldC (.slice none 0 0) pub (List.replicate 8 0) 0 (.slice none 0 0)).toList 33 (Value.agg (ad.map (Value.int .u32)).toArray).cells.toList = (bldC (.slice none 0 0) pub ad 0 (.slice none 0 0)).toList := by
    show splice (Value.slice none 0 0 :: (pub.map (Value.int .u8) ++ ((List.replicate 8 (0 : Int)).map (Value.int .u32) ++ [.int .i64 ((0 : Nat) : Int), .slice none 0 0]))) 33 (ad.map (Value.int .u32)) = _
    unfold splice
    rw [List.length_map, ha.len, List.take_succ_cons, List.take_append_of_le_length (by rw [List.length_map, hp.len]; omega), List.take_of_length_le (by rw [List.length_map, hp.len]; omega), show 33 + 8 = 40 + 1 by omega, List.drop_succ_cons, List.drop_append, List.drop_eq_nil_of_le (by rw [List.length_map, hp.len]; omega), List.length_map, hp.len]
    simp [bldC]
  have t3 : splice (bldC (.slice none 0 0) pub ad 0 (.slice none 0 0)).toList 41 (Value.int IntKind.i64 (leaf : Int)).cells.toList = (bldC (.slice none 0 0) pub ad leaf (.slice none 0 0)).toList := by
    rw [hl1]
    show splice (Value.slice none 0 0 :: (pub.map (Value.int .u8) ++ (ad.map (Value.int .u32) ++ [.int .i64 ((0 : Nat) : Int), .slice none 0 0]))) 41 [Value.int IntKind.i64 (leaf : Int)] = _
    unfold splice
    rw [List.take_succ_cons, List.take_append, List.take_of_length_le (by rw [List.length_map, hp.len]; omega), List.length_map, hp.len, List.take_append, List.take_of_length_le (by rw [List.length_map, ha.len]; omega), List.length_map, ha.len, show 41 + [Value.int IntKind.i64 (leaf : Int)].length = 41 + 1 from rfl, List.drop_succ_cons, List.drop_append, List.drop_eq_nil_of_le (by rw [List.length_map, hp.len]; omega), List.length_map, hp.len, List.drop_append, List.drop_eq_nil_of_le (by rw [List.length_map, ha.len]; omega), List.length_map, ha.len]
    simp [bldC]
  have t4 : splice (bldC (.slice none 0 0) pub ad leaf (.slice none 0 0)).toList 42 (Value.slice (some ⟨c, 0, none⟩) n n).cells.toList = (bldC (.slice none 0 0) pub ad leaf (.slice (some ⟨c, 0, none⟩) n n)).toList := by
    rw [hl2]
    show splice (Value.slice none 0 0 :: (pub.map (Value.int .u8) ++ (ad.map (Value.int .u32) ++ [.int .i64 (leaf : Int), .slice none 0 0]))) 42 [Value.slice (some ⟨c, 0, none⟩) n n] = _
    unfold splice
    rw [List.take_succ_cons, List.take_append, List.take_of_length_le (by rw [List.length_map, hp.len]; omega), List.length_map, hp.len, List.take_append, List.take_of_length_le (by rw [List.length_map, ha.len]; omega), List.length_map, ha.len, show 42 + [Value.slice (some ⟨c, 0, none⟩) n n].length = 42 + 1 from rfl, List.drop_succ_cons, List.drop_append, List.drop_eq_nil_of_le (by rw [List.length_map, hp.len]; omega), List.length_map, hp.len, List.drop_append, List.drop_eq_nil_of_le (by rw [List.length_map, ha.len]; omega), List.length_map, ha.len]
    simp [bldC]
  rw [fill_part _ _ 1 1 _ _ (by rw [hc1]; rfl) (by rw [hc1, s0]; omega), t1, Array.toArray_toList]
  rw [fill_part _ _ 2 33 _ _ (by rw [hc2]; rfl) (by rw [hc2, bldC_size hp ⟨rfl, fun x hx => by have := List.eq_of_mem_replicate hx; omega⟩]; omega), t2, Array.toArray_toList]
  rw [fill_part _ _ 3 41 _ _ (by rw [hl1]; rfl) (by rw [hl1, bldC_size hp ha]; show 41 + 1 ≤ 43; omega), t3, Array.toArray_toList]
  rw [fill_part _ _ 4 42 _ _ (by rw [hl2]; rfl) (by rw [hl2, bldC_size hp ha]; show 42 + 1 ≤ 43; omega), t4, Array.toArray_toList, Instr.fill]
theorem field_nod {x : Nod} (h : Dg x.d) (w : World) : (Instr.field 106 (.agg (nodC x).toArray) 0).run Tryz.prog w = .ok (.agg (x.d.map (Value.int .u8)).toArray) w := by
  obtain ⟨fields, hu, f, hf, ht, ho⟩ : ∃ fields, Tryz.prog.underlying 106 = some (.struct fields) ∧ ∃ f, fields[0]? = some f ∧ f.type = 25 ∧ f.offset = 0 := ⟨_, Tryz.underlying106, _, rfl, rfl, rfl⟩
  obtain ⟨i0, hi, hs⟩ := Option.map_eq_some_iff.1 size_digest
  unfold Instr.field part
  simp only [Sem.run_bind, run_underlying hu, Result.andThen_ok, hf, asAgg, Sem.run_pure, ht, ho]
  have hagg : (isAgg 25).run Tryz.prog w = .ok true w := by
    unfold isAgg
    simp only [Sem.run_bind, run_underlying Tryz.underlying25, Result.andThen_ok]
    rfl
  simp [hagg, sizeOf, typeInfo, hi, hs]
  simp [nodC, h.len]
end Go.Proofs.YtjkfbeillmeomaaGreatDoor
namespace Go.Proofs.YtjkfbeillmeomaaGreatDoor
set_option maxRecDepth 100000
open Go.ChangeShapes Go.WideShapes Go.ChangeAt Go.RowKit
theorem size_secret : (Tryz.prog.info? 29).map (·.size) = some 96 := by kernel_rfl
theorem wpList_buildv {P : Program} {ops : Array Oper} {rest : List Oper} {op : Oper} {a : Act} {w : World} {Q : Exit → Act → World → Prop} (hgd : op.guard = none) (t : TypeId) (parts : List (Nat × Operand)) (ho : op.op = .build t parts.toArray) (vs : List (Nat × Value)) (hv : (parts.map fun x => (x.1, a.eval x.2)) = vs) (v : Value) (h : ∀ w', (Instr.build t vs.toArray).run P w' = .ok v w') (hk : wpList P ops Q rest (a.put op.dst v) w) : wpList P ops Q (op :: rest) a w :=
  wpList_plain hgd fun K hK => by
    have hm : (parts.map fun (x : Nat × Operand) => match x with | (i, x) => (i, a.eval x)) = vs := hv
    unfold Oper.wp execOp
    simp only [ho, List.map_toArray, hm, Sem.run_bind, h, Result.andThen_ok, Sem.run_pure, Oper.upon_value]
    exact hK _ _ hk
theorem quiet_field {P : Program} {op : Oper} {a : Act} {C : World → Prop} {K : Act → Prop} (ty : TypeId) (x : Operand) (f : Nat) (ho : op.op = .field ty x f) (v0 : Value) (hx : a.eval x = v0) (v : Value) (h : ∀ w', (Instr.field ty v0 f).run P w' = .ok v w') (hk : K (a.put op.dst v)) : op.quiet P a C K :=
  quiet_of v (fun w' _ => by
    unfold execOp
    simp only [ho, hx, Sem.run_bind, h, Result.andThen_ok, Sem.run_pure]) hk
theorem wrap_pow {n : Nat} (h : n ≤ 4) : wrap64 ((2 : Int) ^ n) = ((2 ^ n : Nat) : Int) := (by decide +kernel : ∀ i : Fin 5, wrap64 ((2 : Int) ^ i.val) = ((2 ^ i.val : Nat) : Int)) ⟨n, by omega⟩
theorem But.cell_other {b c o : Nat} {w w' : World} (h : But b w w') (hl : c < w.heap.size) (hne : c ≠ b) : w'.cell? ⟨c, o, none⟩ = w.cell? ⟨c, o, none⟩ := by
  unfold World.cell?
  rw [h.block c hl hne]
theorem store_skips_bld {P : Program} {o : Oper} {A : Act} {w : World} (b r : Nat) (hbr : ¬ b = r) (ty : TypeId) (x y : Operand) (ho : o.op = .store ty x y) (cells : Array Value) (hx : A.eval x = .pointer (some ⟨r, 0, none⟩)) (hy : A.eval y = .agg cells)
    (cs : Array Value) (T : TypeId) (hk : Blk w r cs T) (n : Nat) (hi : (P.info? ty).map (·.size) = some n) (hs : cs.size = n) (hn : cells.size = n) (h1 : cells.all (·.oneCell') = true) {G : World → Prop} (hG : ∀ w2, But r w w2 → Blk w2 r cells T → G w2) :
    ∃ w2, (execOp A.eval o).run P w = .ok .skip w2 ∧ ButBld b r w w2 ∧ G w2 := by
  obtain ⟨w', e1, e2, e3⟩ := FlowB.exec_store_blk ty x y ho r cells hx hy cs T hk n hi hs hn h1
  exact ⟨w', e1, ⟨FlowB.ButIn.of_but e2 (by simp), fun hl => e2.cell_other hl hbr⟩, hG w' e2 e3⟩
theorem Dg.node (pub ad : List Int) {lf : Nat → List Int} (h : ∀ j, Dg (lf j)) : ∀ k j, Dg (nodeZ pub ad lf k j)
  | 0, j => h j
  | _ + 1, _ => Dg.join _ _ _ _
theorem size_bld : (Tryz.prog.info? 102).map (·.size) = some 43 := by kernel_rfl
theorem bldC_ones (v pv : Value) (pub ad : List Int) (leaf : Nat) (h1 : v.oneCell' = true) (h2 : pv.oneCell' = true) : (bldC v pub ad leaf pv).all (·.oneCell') = true := all_oneCell_toArray fun u hu => by
  simp only [List.mem_cons, List.mem_append, List.mem_map, List.not_mem_nil, or_false] at hu
  rcases hu with rfl | ⟨_, _, rfl⟩ | ⟨_, _, rfl⟩ | rfl | rfl
  · exact h1
  · rfl
  · rfl
  · rfl
  · exact h2
set_option maxHeartbeats 4000000 in
theorem build_good2 (seed prf pub : List Int) (la tr : Int) (n leaf : Nat) (w : World) (hseed : Dg seed) (hprf : Dg prf) (hpub : Dg pub) (hla : 0 ≤ la ∧ la < 4294967296) (htr : 0 ≤ tr ∧ tr < 18446744073709551616) (hr : rightZ n leaf = true) (tab : ShaTab w) :
    Calls Tryz.prog 31 #[(.agg ((secL seed prf pub).map (Value.int .u8)).toArray), .int .u32 la, .int .u64 tr, .int .i64 n, .int .i64 leaf] w fun e w' => ∃ g, w.heap.size ≤ g ∧ e = .returned (.tuple #[(.agg ((nodeZ pub (treeZ la tr) (fun j => leafZ seed pub la tr j) n 0).map (Value.int .u8)).toArray), .slice (some ⟨g, 0, none⟩) n n, .int .i64 0]) ∧ Below w.heap.size w w' ∧ Blk w' g (dcs (wayZ pub (treeZ la tr) (fun j => leafZ seed pub la tr j) leaf n)) 25 := by
  have hr2 := hr
  simp only [rightZ, decide_eq_true_eq] at hr2
  have hn4 : n ≤ 4 := by omega
  have hl16 : leaf < 16 := by
    rcases (show n = 1 ∨ n = 2 ∨ n = 3 ∨ n = 4 by omega) with rfl | rfl | rfl | rfl <;> simp at hr2 <;> omega
  have HAd := hid (Aw.tree hla htr)
  have Hr := hid hr
  have b1 := (Below.refl w.heap.size w).alloc (Nat.le_refl _) (.cells ((secL seed prf pub).map (Value.int .u8)).toArray 29 (0, 0))
  have b2 := b1.alloc b1.size (.cells (byteCells 32 []) 25 (0, 0))
  have Ks := hid ((Blk.new (w := w) (n := w.heap.size) rfl ((secL seed prf pub).map (Value.int .u8)).toArray 29).old (.cells (byteCells 32 []) 25 (0, 0)))
  have Kr := hid (Blk.new (w := w.alloc (.cells ((secL seed prf pub).map (Value.int .u8)).toArray 29 (0, 0))) (n := w.heap.size + 1) (by simp only [World.size_alloc]) (byteCells 32 []) 25)
  have Hb := hid b2
  have Hbs := hid (show w.heap.size + 1 + 1 = ((w.alloc (.cells ((secL seed prf pub).map (Value.int .u8)).toArray 29 (0, 0))).alloc (.cells (byteCells 32 []) 25 (0, 0))).heap.size by simp only [World.size_alloc])
  have HzA := hid zsize
  have Htab := hid tab
  have hss : ((secL seed prf pub).map (Value.int .u8)).toArray.size = 96 := by rw [List.size_toArray, List.length_map, secL_length hseed hprf hpub]
  have Hss := hid hss
  clear b1 b2 tab hss
  go_enter Tryz.func31, Tryz.ntmps31
  go_wp2_with fail
  refine (tright_b (n : Int) (leaf : Int) true hr _).mono ?_
  rintro e w1 ⟨rfl, b1⟩
  have HB1 := hid (Below.on Hb.out b1)
  have Ks1 := hid (Ks.out.below b1)
  have Kr1 := hid (Kr.out.below b1)
  have hs1 : w.heap.size + 1 + 1 ≤ w1.heap.size := by rw [Hbs.out]; exact b1.size
  clear b1
  go_wp2_with fail
  refine wp_region_flow 10 [0, 1, 2, 3, 4, 5, 6] [7, 9] [(.b 7, [8], []), (.b 9, [], [])] (by kernel_rfl) (by kernel_rfl) ?_
  apply Exists.intro
  refine ⟨fun w0 hb0 hF0 => ?_, ?_⟩
  · skip
    have xp : ∀ w', (∃ x : Ext w0, w' = x.at_) → w'.rangeAt (w.heap.size) 64 (pub.map (Value.int .u8)) := fun w' ⟨x, hx⟩ => hx ▸ secL_pub hseed hprf ((Ks1.out.below hb0).below x.same)
    have c0 := fun e : Ext w0 => tree_list la tr e.at_ htr.1 htr.2
    simp only [pick, List.getElem?_toArray, List.getElem?_cons_succ, List.getElem?_cons_zero, Option.toList_some, List.cons_append, List.nil_append]
    repeat (first | (go_big_quiet_want; refine quiet_load_mid 25 _ rfl (w.heap.size) 64 rfl _ xp _ Tryz.underlying25 rfl (by rw [List.length_map, hpub.len]; exact size_digest) ?_; go_big_quiet_on; simp only [Act.put, List.setIfInBounds_toArray, List.set_cons_zero, List.set_cons_succ]) | go_big_quiet_step (first | (go_at_call 48; with_reducible exact Calls.ext (c0 _))))
    exact wpQuiet_nil rfl
  refine AlChk.one rfl (fun b => .slice (some ⟨b, 0, none⟩) n n) (.cells (dcs (List.replicate n zD)) 25 (0, 0)) rfl (fun w3 hb3 hF3 => exec_make rfl rfl rfl (make_digs n n rfl (by omega) w3)) ?_
  refine AlChk.one rfl (fun b => .pointer (some ⟨b, 0, none⟩)) (.cells (bldC (.slice none 0 0) zD (List.replicate 8 0) 0 (.slice none 0 0)) 102 (0, 0)) rfl (fun w3 hb3 hF3 => by go_simp; rfl) ?_
  refine AlChk.nil ?_
  refine Walk.blk rfl (fun b => .slice (some ⟨b, 0, none⟩) n n) (.cells (dcs (List.replicate n zD)) 25 (0, 0)) (by simp) ?_
  intro b7 wz hbz_ hFz hge7 _
  apply Exists.intro
  refine ⟨fun w0 hb0 hF0 => ?_, ?_⟩
  · skip
    simp only [pick, List.getElem?_toArray, List.getElem?_cons_succ, List.getElem?_cons_zero, Option.toList_some, List.cons_append, List.nil_append, Act.put, List.setIfInBounds_toArray, List.set_cons_zero, List.set_cons_succ]
    repeat (go_big_quiet_want; refine quiet_build _ _ rfl [(1, (.agg (pub.map (Value.int .u8)).toArray)), (2, (.agg ((treeZ la tr).map (Value.int .u32)).toArray)), (3, .int .i64 (leaf : Int)), (4, .slice (some ⟨b7, 0, none⟩) n n)] rfl _ (build_bld pub (treeZ la tr) leaf n b7 hpub HAd.out) ?_; go_big_quiet_on; simp only [Act.put, List.setIfInBounds_toArray, List.set_cons_zero, List.set_cons_succ])
    exact wpQuiet_nil rfl
  refine AlChk.nil ?_
  refine Walk.blk rfl (fun b => .pointer (some ⟨b, 0, none⟩)) (.cells (bldC (.slice none 0 0) zD (List.replicate 8 0) 0 (.slice none 0 0)) 102 (0, 0)) (by simp) ?_
  intro b9 wz2 hbz2_ hFz2 hge9 _
  apply Exists.intro
  refine ⟨fun w4 hb4 hF4 => wpQuiet_nil rfl, ?_⟩
  refine AlChk.nil ?_
  refine Walk.fin fun w2 h2 hF2 _ => ?_
  simp only [List.drop_succ_cons, List.drop_zero]
  have k7 : Blk w2 b7 (dcs (List.replicate n zD)) 25 := hF2.1.2
  have k9 : Blk w2 b9 (bldC (.slice none 0 0) zD (List.replicate 8 0) 0 (.slice none 0 0)) 102 := hF2.2
  have hne79 : b9 ≠ b7 := k9.apart k7 (by decide)
  have hb7 : w.heap.size + 1 + 1 ≤ b7 := Nat.le_trans hs1 hge7
  have hb9 : w.heap.size + 1 + 1 ≤ b9 := Nat.le_trans hs1 hge9
  have K7 := hid k7
  have K9 := hid k9
  have HB2 := hid (Below.on HB1.out h2)
  have Ks2 := hid (Ks1.out.below h2)
  have Kr2 := hid (Kr1.out.below h2)
  have hs2 := Nat.le_trans hs1 h2.size
  clear h2 hF2 k7 k9 hbz_ hFz hbz2_ hFz2
  generalize hlf : (fun j : Nat => leafZ seed pub la tr (j : Int)) = lf at *
  go_wp2_with (
    refine wpList_store_blk rfl 102 _ _ rfl b9 (bldC (.slice none 0 0) pub (treeZ la tr) leaf (.slice (some ⟨b7, 0, none⟩) n n)) rfl rfl _ 102 K9.out 43 size_bld rfl (bldC_size hpub HAd.out) (bldC_ones _ _ _ _ _ rfl rfl) ?_
    intro w3 hb3 hk3
    have HBld3 := hid (show BldAt w3 (w.heap.size + 1 + 1) b9 b7 n leaf pub (treeZ la tr) (.slice none 0 0) [] (List.replicate n zD) from ⟨hk3, World.ownsRow_nil _ _ _ _, hb3.blk K7.out (Ne.symm hne79), by simp, zRow n, by simp, hne79, by simp [Value.ownBlock], by simp [Value.ownBlock]⟩)
    have HB3 := hid (hb3.below HB2.out HB2.out.size (by omega))
    have Ks3 := hid (hb3.blk Ks2.out (by omega))
    have Kr3 := hid (hb3.blk Kr2.out (by omega))
    have hs3 := Nat.le_trans hs2 hb3.size
    clear hb3 hk3)
  obtain ⟨m, hm⟩ : ∃ m, 2 ^ n = m := ⟨_, rfl⟩
  have hw64 : wrap64 ((2 : Int) ^ n) = (m : Int) := by rw [wrap_pow hn4, hm]
  have hm16 : m ≤ 16 := by
    rcases (show n = 1 ∨ n = 2 ∨ n = 3 ∨ n = 4 by omega) with rfl | rfl | rfl | rfl <;> simp at hm <;> omega
  have Hm := hid hm
  have Hlf := hid (show ∀ j, Dg (lf j) by intro j; rw [← hlf]; exact Dg.leaf _ _ _ _ _)
  have CL := hid (show ∀ (j : Nat) (W : World), j < 16 → ShaTab W → Calls Tryz.prog 50 #[(.agg ((secL seed prf pub).map (Value.int .u8)).toArray), .int .u32 la, .int .u64 tr, .int .i64 (j : Int)] W (fun e w' => e = .returned (.agg ((lf j).map (Value.int .u8)).toArray) ∧ Below W.heap.size W w') from fun j W hj t => by
    rw [← hlf]
    exact leaf_any seed prf pub la tr (j : Int) W hseed hprf hpub hla htr (by omega) t)
  have htl := Htab.out.lt
  have htl0 := Htab.out.lt0
  have Hlf0 := hid hlf
  clear hm hlf
  go_wp2_with fail
  simp only [hw64]
  go_loopw [31] (fun jv wr => ∃ (k : Nat) (v : Value), k ≤ m ∧ jv = .int .i64 k ∧ BldAt wr (w.heap.size + 1 + 1) b9 b7 n leaf pub (treeZ la tr) v (addAll pub (treeZ la tr) leaf n lf k).1 (addAll pub (treeZ la tr) leaf n lf k).2 ∧ Blk wr (w.heap.size) ((secL seed prf pub).map (Value.int .u8)).toArray 29 ∧ Blk wr (w.heap.size + 1) (byteCells 32 []) 25 ∧ Below w.heap.size w wr ∧ w.heap.size + 1 + 1 ≤ wr.heap.size) (fun jv _ => m - (intOf jv).toNat)
  case atStart => exact ⟨0, _, Nat.zero_le _, rfl, HBld3.out, Ks3.out, Kr3.out, HB3.out, hs3⟩
  case round =>
    clear HBld3 Ks3 Kr3 HB3 HB2 Ks2 Kr2 K7 K9 Ks1 Kr1 HB1 Ks Kr Hb
    obtain ⟨k, v, hk, rfl, hBl, ks, kr, bel, hsz⟩ := hrel
    have HBld := hid hBl
    have Ks := hid ks
    have Kr := hid kr
    have HB := hid bel
    clear hBl ks kr bel
    by_cases hlt : k < m
    · have hc0 : (k : Int) < m := by omega
      have hal := addAll_length pub (treeZ la tr) leaf n lf k
      go_wp2_with (refine wpList_load_blk rfl 29 _ rfl (w.heap.size) rfl _ 29 Ks.out _ Tryz.underlying29 rfl 96 size_secret Hss.out ?_)
      refine (CL.out k _ (by omega) (Htab.out.below HB.out)).mono ?_
      rintro e w4 ⟨rfl, b4⟩
      have HBld4 := hid (HBld.out.below b4)
      have Ks4 := hid (Ks.out.below b4)
      have Kr4 := hid (Kr.out.below b4)
      have HB4 := hid (Below.on HB.out b4)
      have hs4 := Nat.le_trans hsz b4.size
      clear b4
      go_wp2_with (refine wpList_buildv rfl 106 _ rfl [(0, (.agg ((lf k).map (Value.int .u8)).toArray)), (1, .int .i64 ((0 : Nat) : Int)), (2, .int .i64 (k : Int))] rfl _ (build_nod (lf k) 0 k (Hlf.out k)) ?_)
      refine (addn_any (w.heap.size + 1 + 1) b9 b7 n leaf pub (treeZ la tr) v _ _ ⟨lf k, 0, k⟩ _ HBld4.out hpub HAd.out (Hlf.out k) (by show 0 + _ ≤ 50; omega) (by show k < 100000; omega) hl16 (by omega) (by omega) (by omega) (Htab.out.below HB4.out)).mono ?_
      rintro e w5 ⟨rfl, v5, hI5, hB5, hv5⟩
      have hS5 : ∀ g ∈ b9 :: b7 :: v.ownBlock.toList, w.heap.size + 1 + 1 ≤ g := fun g hg => by
        simp only [List.mem_cons, Option.mem_toList] at hg
        rcases hg with rfl | rfl | hg
        · exact hb9
        · exact hb7
        · exact (HBld4.out.row.lt _ hg).1
      have H5 := hid (And.intro (show BldAt w5 (w.heap.size + 1 + 1) b9 b7 n leaf pub (treeZ la tr) v5 (addAll pub (treeZ la tr) leaf n lf (k + 1)).1 (addAll pub (treeZ la tr) leaf n lf (k + 1)).2 from hB5) (And.intro (hI5.blk Ks4.out (fun hm => by have := hS5 _ hm; omega)) (And.intro (hI5.blk Kr4.out (fun hm => by have := hS5 _ hm; omega)) (hI5.below HB4.out HB4.out.size (fun g hg => by have := hS5 g hg; omega)))))
      have hs5 := Nat.le_trans hs4 hI5.size
      clear hI5 hB5 hv5 hS5
      go_wp2_with fail
      go_roundw
      case rel => exact ⟨k + 1, v5, by omega, by go_num, H5.out.1, H5.out.2.1, H5.out.2.2.1, H5.out.2.2.2, hs5⟩
      case measure => simp [intOf]; omega
    · have hkm : k = m := by omega
      subst hkm
      have hc0 : ¬ ((k : Int) < k) := by omega
      have hdone := addAll_done pub (treeZ la tr) lf n leaf Hr.out
      rw [Hm.out] at hdone
      have hBl := HBld.out
      rw [hdone] at hBl
      have HBl := hid hBl
      have HN := hid (Dg.node pub (treeZ la tr) Hlf.out n 0)
      have HE := hid hBl.each
      clear HBld hBl hdone
      have HRe := hid (show nodeZ pub (treeZ la tr) (fun j : Nat => leafZ seed pub la tr (j : Int)) n 0 = nodeZ pub (treeZ la tr) lf n 0 by rw [Hlf0.out])
      have HWe := hid (show wayZ pub (treeZ la tr) (fun j : Nat => leafZ seed pub la tr (j : Int)) leaf n = wayZ pub (treeZ la tr) lf leaf n by rw [Hlf0.out])
      generalize nodeZ pub (treeZ la tr) lf n 0 = R at *
      generalize wayZ pub (treeZ la tr) lf leaf n = Wy at *
      have h9l := HBl.out.blk.lt
      have h9r : ¬ b9 = w.heap.size + 1 := by omega
      have h7r : ¬ b7 = w.heap.size + 1 := by omega
      go_wp2_with fail
      refine FlowB.wp_region_flow_in (rel_butBld b9 (w.heap.size + 1)) (fun wz => BldAt wz (w.heap.size + 1 + 1) b9 b7 n leaf pub (treeZ la tr) v [⟨R, n, 0⟩] Wy ∧ Blk wz (w.heap.size + 1) (byteCells 32 []) 25) 6 [0, 3, 4] [] [(.c 1, [2], []), (.c 5, [], [])] (by kernel_rfl) (by kernel_rfl) (fun _ h => h.inn.size) ⟨HBl.out, Kr.out⟩ (fun _ _ h hb => ⟨h.1.below hb, h.2.below hb⟩) ?_
      apply Exists.intro
      refine ⟨fun w0 hb0 hF0 => ?_, ?_⟩
      · skip
        have y0 : ∀ w', (∃ x : Ext w0, w' = x.at_) → w'.cell? ⟨b9, 42, none⟩ = some (.slice (some ⟨b7, 0, none⟩) n n) := fun w' ⟨x, hx⟩ => by
          rw [hx]
          exact (x.same.cell (Nat.lt_of_lt_of_le h9l hb0.inn.size)).trans ((hb0.cell h9l).trans (by rw [HBl.out.blk.cell]; exact bldC_path hpub HAd.out))
        simp only [pick, List.getElem?_toArray, List.getElem?_cons_succ, List.getElem?_cons_zero, Option.toList_some, List.cons_append, List.nil_append]
        repeat (first | (go_big_quiet_want; refine quiet_load_one 61 _ rfl ⟨b9, 42, none⟩ rfl _ y0 _ Tryz.underlying61 rfl ?_; go_big_quiet_on; simp only [Act.put, List.setIfInBounds_toArray, List.set_cons_zero, List.set_cons_succ]) | go_big_quiet_step (fail))
        exact wpQuiet_nil rfl
      refine FlowB.AlChk.nil ?_
      refine FlowB.Walk.call rfl 51 #[.pointer (some ⟨b9, 0, none⟩)] (fun v' _ => v' = .agg (nodC ⟨R, n, 0⟩).toArray) (fun _ wz => Blk wz b7 (dcs Wy) 25 ∧ Blk wz (w.heap.size + 1) (byteCells 32 []) 25) (fun v w' w'' _ h _ => h) (fun v w' w'' h hb => ⟨h.1.below hb, h.2.below hb⟩) rfl (fun w1 hb1 hF1 hG1 => ⟨by go_simp, ?_⟩) ?_
      · refine (pop_any b9 (w.heap.size + 1 + 1) 0 _ _ v [] ⟨R, n, 0⟩ w1 hG1.1.blk (bldC_top _ _ _ _ _) (by rw [bldC_size hpub HAd.out]; omega) (by have := hG1.1.row; simpa [nodsC] using this) rfl HN.out hG1.1.nb).mono ?_
        rintro e w2 ⟨rfl, v', hb2, hk2, ho2, hv2⟩
        rw [bldC_set] at hk2
        exact ⟨_, rfl, ⟨FlowB.ButIn.of_but hb2 (by simp), fun _ => by rw [hk2.cell, bldC_path hpub HAd.out, hG1.1.blk.cell, bldC_path hpub HAd.out]⟩, rfl, hb2.blk hG1.1.pth (Ne.symm hG1.1.ne), hb2.blk hG1.2 (Ne.symm h9r)⟩
      rintro v' w1 hb1 hF1 rfl
      apply Exists.intro
      refine ⟨fun w0 hb0 hF0 => ?_, ?_⟩
      · skip
        simp only [pick, List.getElem?_toArray, List.getElem?_cons_succ, List.getElem?_cons_zero, Option.toList_some, List.cons_append, List.nil_append, Act.put, List.setIfInBounds_toArray, List.set_cons_zero, List.set_cons_succ]
        repeat (go_big_quiet_want; refine quiet_field 106 _ 0 rfl _ rfl _ (fun w' => field_nod (x := ⟨R, n, 0⟩) HN.out w') ?_; go_big_quiet_on; simp only [Act.put, List.setIfInBounds_toArray, List.set_cons_zero, List.set_cons_succ])
        exact wpQuiet_nil rfl
      refine FlowB.AlChk.nil ?_
      refine FlowB.Walk.skips rfl (fun wz => Blk wz b7 (dcs Wy) 25 ∧ Blk wz (w.heap.size + 1) (R.map (Value.int .u8)).toArray 25) (fun _ _ h hb => ⟨h.1.below hb, h.2.below hb⟩) rfl (fun w1 hb1 hF1 hG1 => ?_) ?_
      · exact store_skips_bld b9 (w.heap.size + 1) h9r 25 _ _ rfl (R.map (Value.int .u8)).toArray rfl rfl _ 25 hG1.2 32 size_digest HzA.out HN.out.size (ints_one _ _) (fun w2 e2 e3 => ⟨e2.blk hG1.1 h7r, e3⟩)
      intro w1 hb1 hF1
      apply Exists.intro
      refine ⟨fun w2 hb2 hF2 => wpQuiet_nil rfl, ?_⟩
      refine FlowB.AlChk.nil ?_
      refine FlowB.Walk.fin fun w5 h5 _ hG5 => ?_
      simp only [List.drop_succ_cons, List.drop_zero]
      have HG5 := hid hG5
      have HB5 := hid (h5.inn.below HB.out HB.out.size (by simp only [List.mem_cons, List.not_mem_nil, or_false, forall_eq_or_imp, forall_eq]; omega))
      clear h5 hG5
      go_wp2_with fail
      exact bodyPost_ret (v := .tuple #[(.agg (R.map (Value.int .u8)).toArray), .slice (some ⟨b7, 0, none⟩) n n, .int .i64 0]) (results_blk_tmp2 Tryz.results31 _ (w.heap.size + 1) rfl _ _ rfl rfl _ 25 HG5.out.2 _ Tryz.underlying25 rfl 32 size_digest HN.out.size) rfl ⟨b7, by omega, by rw [HRe.out], HB5.out, by rw [HWe.out]; exact HG5.out.1⟩
end Go.Proofs.YtjkfbeillmeomaaGreatDoor
namespace Go.Proofs.YtjkfbeillmeomaaGreatDoor
set_option maxRecDepth 100000
open Go.ChangeShapes Go.WideShapes Go.ChangeAt Go.RowKit
def rowN (pub ad : List Int) (lf : Nat → List Int) (k m : Nat) : List (List Int) := (List.range m).map (nodeZ pub ad lf k)
theorem rowN_succ (pub ad : List Int) (lf : Nat → List Int) (k m : Nat) : rowN pub ad lf k (m + 1) = rowN pub ad lf k m ++ [nodeZ pub ad lf k m] := by
  unfold rowN
  rw [List.range_succ, List.map_append]
  rfl
theorem rowN_length (pub ad : List Int) (lf : Nat → List Int) (k m : Nat) : (rowN pub ad lf k m).length = m := by simp [rowN]
theorem rowN_get (pub ad : List Int) (lf : Nat → List Int) (k m j : Nat) (h : j < m) : (rowN pub ad lf k m).getD j [] = nodeZ pub ad lf k j := by simp [rowN, h]
/-- The rows, wherever they lie. -/
def RowsV (pub ad : List Int) (lf : Nat → List Int) (n : Nat) (v : Value) (w : World) : Prop := ∃ g cap, v = .slice (some ⟨g, 0, none⟩) (n + 1) cap ∧ n + 1 ≤ cap ∧ g < w.heap.size ∧ ∀ j, j ≤ n → ∃ u, w.cell? ⟨g, j, none⟩ = some u ∧ RowV (2 ^ (n - j)) (rowN pub ad lf j (2 ^ (n - j))) u w
theorem infoLD : (Tryz.prog.info? 61).map (fun i => (i.zero, i.size, i.bytes)) = some (some (.slice none 0 0), 1, 24) := by kernel_rfl
theorem wpList_build_rec {P : Program} {ops : Array Oper} {rest : List Oper} {o : Oper} {A : Act} {w : World} {Q : Exit → Act → World → Prop} {t e : TypeId} {x : Operand} {i : TypeInfo} {z v : Value} {n : Nat} (hgd : o.guard = none) (ho : o.op = .buildSlice t 1 #[(0, x)]) (he : A.eval x = v) (ht : P.underlying t = some (.slice e)) (hi : P.info? e = some i) (hz : i.zero = some z) (hs : i.size = n) (h0 : 0 < n) (hn : n ≤ 16777216) (hv : v.cells.size = n)
    (h : wpList P ops Q rest (A.put o.dst (.slice (some ⟨w.heap.size, 0, none⟩) 1 1)) (w.alloc (.cells v.cells e (0, 0)))) : wpList P ops Q (o :: rest) A w :=
  wpList_plain hgd fun K hK => by
    unfold Oper.wp execOp
    simp only [ho, List.map_toArray, List.map_cons, List.map_nil, he, Sem.run_bind, run_build_rec ht hi hz hs h0 hn hv, Result.andThen_ok, Sem.run_pure, Oper.upon_value]
    exact hK _ _ h
/-- A row of digests of the call's own stays where a row of slices is appended to. -/
theorem OwnD.other {w w' : World} {base base2 n : Nat} {v u : Value} {ds : List (List Int)} {xs : List Value} (h : OwnD w base 25 v ds) (ho : w.ownsRow base2 61 1 u n xs) (hg : w.grownBy w' u.ownBlock) : OwnD w' base 25 v ds := by
  refine ⟨?_, h.each⟩
  obtain ⟨h1, ⟨rfl, h2⟩ | ⟨g, cap, cur, rfl, hg1, hh, h3⟩⟩ := h.row
  · exact ⟨h1, .inl ⟨rfl, h2⟩⟩
  · refine ⟨h1, .inr ⟨g, cap, cur, rfl, hg1, ?_, h3⟩⟩
    rw [hg.block g (Array.getElem?_eq_some_iff.1 hh).1 (fun e => ?_)]
    · exact hh
    · obtain ⟨_, ⟨rfl, _⟩ | ⟨g', cap', cur', rfl, _, hh', _⟩⟩ := ho
      · cases e
      · injection e with e
        subst e
        rw [hh] at hh'
        injection hh' with hh'
        injection hh' with _ hh'
        exact absurd hh' (by decide)
set_option maxHeartbeats 4000000 in
theorem refrows_any (seed prf pub : List Int) (la tr : Int) (n : Nat) (w : World) (hseed : Dg seed) (hprf : Dg prf) (hpub : Dg pub) (hla : 0 ≤ la ∧ la < 4294967296) (htr : 0 ≤ tr ∧ tr < 18446744073709551616) (hn : n ≤ 4) :
    Calls Tryz.prog 41 #[(.agg ((secL seed prf pub).map (Value.int .u8)).toArray), .int .u32 la, .int .u64 tr, .int .i64 n] w fun e w' => ∃ v, e = .returned v ∧ Below w.heap.size w w' ∧ RowsV pub (treeZ la tr) (fun j => leafZ seed pub la tr j) n v w' := by
  have HAd := hid (Aw.tree hla htr)
  have b1 := (Below.refl w.heap.size w).alloc (Nat.le_refl _) (.cells ((secL seed prf pub).map (Value.int .u8)).toArray 29 (0, 0))
  have Ks := hid (Blk.new (w := w) (n := w.heap.size) rfl ((secL seed prf pub).map (Value.int .u8)).toArray 29)
  have Hb := hid b1
  have Hss := hid (show ((secL seed prf pub).map (Value.int .u8)).toArray.size = 96 by rw [List.size_toArray, List.length_map, secL_length hseed hprf hpub])
  have hpl := hpub.len
  generalize hlf : (fun j : Nat => leafZ seed pub la tr (j : Int)) = lf at *
  have Hlf := hid (show ∀ j, Dg (lf j) by intro j; rw [← hlf]; exact Dg.leaf _ _ _ _ _)
  have CL := hid (show ∀ (j : Nat) (W : World), j < 16 → Calls Tryz.prog 66 #[(.agg ((secL seed prf pub).map (Value.int .u8)).toArray), .int .u32 la, .int .u64 tr, .int .u32 (j : Int)] W (fun e w' => e = .returned (.agg ((lf j).map (Value.int .u8)).toArray) ∧ Below W.heap.size W w') from fun j W hj => by
    rw [← hlf]
    exact refleaf_any seed prf pub la tr (j : Int) W hseed hprf hpub hla htr (by omega))
  have HN := hid (fun k j => Dg.node pub (treeZ la tr) Hlf.out k j)
  clear b1 hlf
  have hsb : w.heap.size + 1 = (w.alloc (.cells ((secL seed prf pub).map (Value.int .u8)).toArray 29 (0, 0))).heap.size := by simp only [World.size_alloc]
  have Hsb := hid hsb
  clear hsb
  go_enter Tryz.func41, Tryz.ntmps41
  go_wp2_with fail
  -- how many leaves
  go_loopw [10, 11] (fun mv iv wr => ∃ k p : Nat, k ≤ n ∧ p = 2 ^ k ∧ mv = .int .i64 (p : Int) ∧ iv = .int .i64 k ∧ Below w.heap.size w wr ∧ Blk wr (w.heap.size) ((secL seed prf pub).map (Value.int .u8)).toArray 29 ∧ (w.heap.size + 1) ≤ wr.heap.size) (fun _ iv _ => n - (intOf iv).toNat)
  case atStart => exact ⟨0, 1, Nat.zero_le _, rfl, rfl, rfl, Hb.out, Ks.out, by rw [← Hsb.out]; exact Nat.le_refl _⟩
  case round =>
    obtain ⟨k, p, hk, hp, rfl, rfl, bel, ks, hsz⟩ := hrel
    have HB := hid bel
    have Ks := hid ks
    have hp16 : p ≤ 16 := by
      rcases (show k = 0 ∨ k = 1 ∨ k = 2 ∨ k = 3 ∨ k = 4 by omega) with rfl | rfl | rfl | rfl | rfl <;> simp at hp <;> omega
    have Hp := hid hp
    clear bel ks Hb hp
    by_cases hlt : k < n
    · have hc0 : (k : Int) < n := by omega
      go_wp2_with fail
      exact ⟨⟨k + 1, p * 2, by omega, by rw [Hp.out, Nat.pow_succ], by go_num, by go_num, HB.out, Ks.out, hsz⟩, by simp [intOf]; omega⟩
    · obtain rfl : k = n := by omega
      have hc0 : ¬ ((k : Int) < k) := by omega
      go_wp2_with fail
      -- the leaves
      have HO0 := hid (OwnD.nil wr (w.heap.size + 1) 25)
      go_loopw [9, 12] (fun v iv w2 => ∃ j : Nat, j ≤ p ∧ iv = .int .i64 j ∧ OwnD w2 (w.heap.size + 1) 25 v (rowN pub (treeZ la tr) lf 0 j) ∧ Below w.heap.size w w2 ∧ Blk w2 (w.heap.size) ((secL seed prf pub).map (Value.int .u8)).toArray 29 ∧ (w.heap.size + 1) ≤ w2.heap.size) (fun _ iv _ => p - (intOf iv).toNat)
      case atStart => exact ⟨0, Nat.zero_le _, rfl, HO0.out, HB.out, Ks.out, hsz⟩
      case round =>
        clear HO0 HB Ks
        obtain ⟨j, hj, rfl, ho, bel, ks, hsz2⟩ := hrel
        have HO := hid ho
        have HB := hid bel
        have Ks := hid ks
        clear ho bel ks
        by_cases hlt2 : j < p
        · have hc1 : (j : Int) < p := by omega
          obtain ⟨i0, hi, hz0, hz1, hz2⟩ := info_parts info_dig
          have HLj := hid (Hlf.out j)
          have HLl := hid (rowN_length pub (treeZ la tr) lf 0 j)
          have HRs := hid (rowN_succ pub (treeZ la tr) lf 0 j)
          have C0 := hid (CL.out j)
          have hlz : nodeZ pub (treeZ la tr) lf 0 j = lf j := rfl
          rw [hlz] at HRs
          clear hlz
          generalize lf j = X at *
          generalize rowN pub (treeZ la tr) lf 0 j = L at *
          go_wp2_with (refine wpList_load_blk rfl 29 _ rfl (w.heap.size) rfl _ 29 Ks.out _ Tryz.underlying29 rfl 96 size_secret Hss.out ?_)
          refine (C0.out _ (by omega)).mono ?_
          rintro e w4 ⟨rfl, b4⟩
          have HO4 := hid (HO.out.below b4)
          have HB4 := hid (Below.on HB.out b4)
          have Ks4 := hid (Ks.out.below b4)
          have hs4 := Nat.le_trans hsz2 b4.size
          clear b4
          have HOa := hid (HO4.out.below ((Below.refl w4.heap.size w4).alloc (Nat.le_refl _) (.cells (X.map (Value.int .u8)).toArray 25 (0, 0))))
          have HKa := hid (Blk.new (w := w4) rfl (X.map (Value.int .u8)).toArray 25)
          have HBa := hid (HB4.out.alloc HB4.out.size (.cells (X.map (Value.int .u8)).toArray 25 (0, 0)))
          have Ksa := hid (Ks4.out.old (.cells (X.map (Value.int .u8)).toArray 25 (0, 0)))
          go_wp2_with (first
           | (refine wpList_build_one rfl _ rfl rfl HLj.out ?_)
           | (
            at_builtin
            refine wpList_append_dig rfl _ _ rfl Tryz.underlying61 hi hz0 zD_cells32 hz1 hz2 rfl HOa.out rfl HKa.out HLj.out (by rw [HLl.out]; omega) (by rw [World.size_alloc]; omega) ?_
            intro v5 w5 own5 hg5 b5
            have Ho5 := hid own5
            have HB5 := hid (HBa.out.trans (b5.mono (by omega)))
            have Ks5 := hid (Ksa.out.belowB (by omega) b5)
            have hs5 := Nat.le_trans (Nat.le_trans hs4 (by simp only [World.size_alloc]; omega)) b5.size
            clear own5 hg5 b5))
          exact ⟨⟨j + 1, by omega, by go_num, by rw [HRs.out]; exact Ho5.out, HB5.out, Ks5.out, hs5⟩, by simp [intOf]; omega⟩
        · obtain rfl : j = p := by omega
          have hc1 : ¬ ((j : Int) < j) := by omega
          obtain ⟨i1, hi1, hz10, hz11, hz12⟩ := info_parts infoLD
          have hoc := own_cells HO.out.row
          have ho1 := own_cell HO.out.row
          have Al := (Below.refl wr.heap.size wr).alloc (Nat.le_refl _) (.cells u9.cells 61 (0, 0))
          have HRo := hid (HO.out.below Al)
          have HBo := hid (HB.out.alloc HB.out.size (.cells u9.cells 61 (0, 0)))
          have Kso := hid (Ks.out.old (.cells u9.cells 61 (0, 0)))
          have kvo : Blk (wr.alloc (.cells u9.cells 61 (0, 0))) wr.heap.size [u9].toArray 61 := by rw [hoc]; exact Blk.new (w := wr) rfl #[u9] 61
          have Kvo := hid kvo
          clear Al kvo
          have hvs : u9.cells.size = 1 := by rw [hoc]; rfl
          have Hoc := hid hoc
          clear hoc
          go_wp2_with (first
           | (refine wpList_build_rec (v := u9) rfl rfl rfl Tryz.underlying88 hi1 hz10 hz11 (by omega) (by omega) hvs ?_)
           | (
            at_builtin
            refine wpList_append_own _ rfl _ _ 88 rfl (w.heap.size + 1) 61 i1 (.slice none 0 0) 1 24 Tryz.underlying88 hi1 hz10 hz11 hz12 rfl (by omega) (.slice none 0 0) 0 [] rfl (World.ownsRow_nil _ _ _ _) ⟨wr.heap.size, 0, none⟩ 1 1 [u9] rfl rfl (news_blk Kvo.out) (by simpa using ho1) (by unfold maxLen; omega) (by omega) (by rw [World.size_alloc]; omega) ?_
            intro v13 w3 hov hgv _
            have Hov := hid hov
            have HR3 := hid (HRo.out.other (World.ownsRow_nil _ (w.heap.size + 1) 61 1) hgv)
            have HB3 := hid (HBo.out.grown hgv (by rw [World.size_alloc]; omega) (fun q hq => by cases hq))
            have Ks3 := hid (Kso.out.grown hgv (fun q hq => by cases hq))
            have hs3 := hgv.size
            rw [World.size_alloc] at hs3
            clear hov hgv))
          have hr0 : OwnD w3 (w.heap.size + 1) 25 u9 (rowN pub (treeZ la tr) lf 0 (2 ^ (k - 0))) := by
            rw [Nat.sub_zero, ← Hp.out]
            exact HR3.out
          have Hr0 := hid hr0
          clear hr0 HR3 HRo HBo Kso Kvo
          go_loopw [9, 13, 14] (fun rv ov kv wr => ∃ (q : Nat) (vals : List Value), q ≤ k ∧ kv = .int .i64 q ∧ vals.length = q + 1 ∧ wr.ownsRow (w.heap.size + 1) 61 1 ov (q + 1) vals ∧ (∀ j, j ≤ q → OwnD wr (w.heap.size + 1) 25 (vals.getD j undef) (rowN pub (treeZ la tr) lf j (2 ^ (k - j)))) ∧ vals.getD q undef = rv ∧ Below w.heap.size w wr ∧ Blk wr (w.heap.size) ((secL seed prf pub).map (Value.int .u8)).toArray 29 ∧ (w.heap.size + 1) ≤ wr.heap.size) (fun _ _ kv _ => k - (intOf kv).toNat)
          case atStart => exact ⟨0, [u9], Nat.zero_le _, rfl, rfl, Hov.out, (fun j hj => (by obtain rfl : j = 0 := (by omega); exact Hr0.out)), rfl, HB3.out, Ks3.out, by omega⟩
          case round =>
            clear Hr0 Hov HB3 Ks3
            obtain ⟨q, vals, hq, rfl, hvl, hov, hrs, hrv, bel, ks, hsz3⟩ := hrel
            obtain ⟨wo, rfl⟩ : ∃ x : World, x = wr := ⟨_, rfl⟩
            have Hov := hid hov
            have Hrs := hid hrs
            have Hrv := hid hrv
            have Hvl := hid hvl
            have HB := hid bel
            have Ks := hid ks
            clear hov hrs hrv hvl bel ks
            by_cases hlt3 : q < k
            · have hc2 : (q : Int) < k := by omega
              obtain ⟨M, hM⟩ : ∃ M, 2 ^ (k - (q + 1)) = M := ⟨_, rfl⟩
              have hMr : 2 ^ (k - q) = 2 * M := by rw [← hM, show k - q = (k - (q + 1)) + 1 by omega, Nat.pow_succ]; omega
              have hM8 : M ≤ 16 := by
                rw [← hM]
                exact Nat.le_trans (Nat.pow_le_pow_right (by omega) (show k - (q + 1) ≤ 4 by omega)) (by omega)
              have hM1 : 1 ≤ M := by rw [← hM]; exact Nat.one_le_two_pow
              have hrow := Hrs.out q (Nat.le_refl _)
              rw [Hrv.out, hMr] at hrow
              have HRow := hid hrow
              obtain ⟨ra, rc, hva, hD, _⟩ := hrow.digs
              rw [rowN_length] at hva hD
              subst hva
              have HD := hid hD
              have hle := hD.le
              have hmx := hD.max
              obtain ⟨xs, xo, rfl, hxs, hcell⟩ := hD.at_ (by omega)
              have Hcell := hid hcell
              have HMe := hid hM
              have HMr := hid hMr
              clear hD hcell hM hMr hrow
              go_wp2_with fail
              have HO0 := hid (OwnD.nil wo (wo.heap.size) 25)
              have HBl0 := hid (Below.refl wo.heap.size wo)
              go_loopw [15, 16] (fun v iv w5 => ∃ j : Nat, j ≤ M ∧ iv = .int .i64 j ∧ OwnD w5 (wo.heap.size) 25 v (rowN pub (treeZ la tr) lf (q + 1) j) ∧ Below wo.heap.size wo w5) (fun _ iv _ => M - (intOf iv).toNat)
              case atStart => exact ⟨0, Nat.zero_le _, rfl, HO0.out, HBl0.out⟩
              case round =>
                clear HO0 HBl0
                obtain ⟨j, hj, rfl, ho, bel⟩ := hrel
                have HO := hid ho
                have HBl := hid bel
                have hsl := bel.size
                clear ho bel
                by_cases hlt4 : j < M
                · have hc3 : 2 * (j : Int) + 1 < ((2 * M : Nat) : Int) := by omega
                  obtain ⟨i0, hi, hz0, hz1, hz2⟩ := info_parts info_dig
                  have HJ := hid (HN.out (q + 1) j)
                  have HX := hid (HN.out q (2 * j))
                  have HY := hid (HN.out q (2 * j + 1))
                  have HL := hid (rowN_succ pub (treeZ la tr) lf (q + 1) j)
                  have HLl := hid (rowN_length pub (treeZ la tr) lf (q + 1) j)
                  have hcx := Hcell.out (2 * j) (by omega)
                  have hcy := Hcell.out (2 * j + 1) (by omega)
                  rw [rowN_get _ _ _ _ _ _ (by omega)] at hcx hcy
                  have HCx := hid (rangeAt_below hcx hxs HBl.out)
                  have HCy := hid (rangeAt_below hcy hxs HBl.out)
                  have hxs' := Nat.lt_of_lt_of_le hxs hsl
                  have Ksl := hid (Ks.out.below HBl.out)
                  have hje : nodeZ pub (treeZ la tr) lf (q + 1) j = joinZ (nodeZ pub (treeZ la tr) lf q (2 * j)) (nodeZ pub (treeZ la tr) lf q (2 * j + 1)) pub (setAd (treeZ la tr) (q : Nat) (j : Nat) 0) := rfl
                  have hksz := Ks.out.lt
                  clear hcx hcy
                  generalize nodeZ pub (treeZ la tr) lf (q + 1) j = J at *
                  generalize nodeZ pub (treeZ la tr) lf q (2 * j) = X at *
                  generalize nodeZ pub (treeZ la tr) lf q (2 * j + 1) = Y at *
                  have HJe := hid hje
                  clear hje
                  generalize hL : rowN pub (treeZ la tr) lf (q + 1) j = L at *
                  go_wp2_with fail
                  refine FlowB.wp_region_butIn (u15.ownBlock.toList) (fun wz => OwnD wz (wo.heap.size) 25 u15 L) 21 (List.range 19) [19] [(.b 19, [], []), (.c 20, [], [])] (by kernel_rfl) (by kernel_rfl) HO.out (fun _ _ h hb => h.below hb) ?_
                  apply Exists.intro
                  refine ⟨fun w0 hb0 hF0 => ?_, ?_⟩
                  · skip
                    have xx : ∀ w', (∃ x : Ext w0, w' = x.at_) → w'.rangeAt xs (xo + 2 * j * 32) (X.map (Value.int .u8)) := fun w' ⟨x, hx⟩ => hx ▸ rangeAt_below (hb0.range hxs' (own_low HO.out (by omega)) HCx.out) (Nat.lt_of_lt_of_le hxs' hb0.size) x.same
                    have xy : ∀ w', (∃ x : Ext w0, w' = x.at_) → w'.rangeAt xs (xo + (2 * j + 1) * 32) (Y.map (Value.int .u8)) := fun w' ⟨x, hx⟩ => hx ▸ rangeAt_below (hb0.range hxs' (own_low HO.out (by omega)) HCy.out) (Nat.lt_of_lt_of_le hxs' hb0.size) x.same
                    have xp : ∀ w', (∃ x : Ext w0, w' = x.at_) → w'.rangeAt (w.heap.size) 64 (pub.map (Value.int .u8)) := fun w' ⟨x, hx⟩ => hx ▸ secL_pub hseed hprf ((hb0.blk Ksl.out (own_low HO.out (by omega))).below x.same)
                    have c0 := fun e : Ext w0 => two_any X Y pub la tr (q : Int) (j : Int) e.at_ HX.out HY.out hpub hla htr (by omega) (by omega)
                    rw [← HJe.out] at c0
                    simp only [pick, List.range, List.range.loop, List.getElem?_toArray, List.getElem?_cons_succ, List.getElem?_cons_zero, Option.toList_some, List.cons_append, List.nil_append]
                    repeat (first | (go_big_quiet_want; refine quiet_index_digs 61 _ _ rfl Tryz.underlying61 size_digest xs xo (2 * M) rc rfl _ _ rfl (2 * j) (by omega) (by omega) ?_; go_big_quiet_on; simp only [Act.put, List.setIfInBounds_toArray, List.set_cons_zero, List.set_cons_succ]) | (go_big_quiet_want; refine quiet_index_digs 61 _ _ rfl Tryz.underlying61 size_digest xs xo (2 * M) rc rfl _ _ rfl (2 * j + 1) (by omega) (by omega) ?_; go_big_quiet_on; simp only [Act.put, List.setIfInBounds_toArray, List.set_cons_zero, List.set_cons_succ]) | (go_big_quiet_want; refine quiet_load_mid 25 _ rfl xs (xo + 2 * j * 32) rfl _ xx _ Tryz.underlying25 rfl (by rw [List.length_map, HX.out.len]; exact size_digest) ?_; go_big_quiet_on; simp only [Act.put, List.setIfInBounds_toArray, List.set_cons_zero, List.set_cons_succ]) | (go_big_quiet_want; refine quiet_load_mid 25 _ rfl xs (xo + (2 * j + 1) * 32) rfl _ xy _ Tryz.underlying25 rfl (by rw [List.length_map, HY.out.len]; exact size_digest) ?_; go_big_quiet_on; simp only [Act.put, List.setIfInBounds_toArray, List.set_cons_zero, List.set_cons_succ]) | (go_big_quiet_want; refine quiet_load_mid 25 _ rfl (w.heap.size) 64 rfl _ xp _ Tryz.underlying25 rfl (by rw [List.length_map, hpub.len]; exact size_digest) ?_; go_big_quiet_on; simp only [Act.put, List.setIfInBounds_toArray, List.set_cons_zero, List.set_cons_succ]) | go_big_quiet_step (first | (go_at_call 67; with_reducible exact Calls.ext (c0 _))))
                    exact wpQuiet_nil rfl
                  refine FlowB.AlChk.one rfl (fun b => .slice (some ⟨b, 0, none⟩) 1 1) (.cells (J.map (Value.int .u8)).toArray 25 (0, 0)) rfl (FlowB.st_butIn _ (own_size HO.out)) (fun w2 hb2 hF2 => exec_build_one rfl rfl HJ.out) ?_
                  refine FlowB.AlChk.nil ?_
                  refine FlowB.Walk.blk rfl (fun b => .slice (some ⟨b, 0, none⟩) 1 1) (.cells (J.map (Value.int .u8)).toArray 25 (0, 0)) (by simp) ?_
                  intro b9 w2 hb2 hF2 hge9 _
                  apply Exists.intro
                  refine ⟨fun w2 hb2 hF2 => wpQuiet_nil rfl, ?_⟩
                  refine FlowB.AlChk.nil ?_
                  refine FlowB.Walk.does rfl (fun _ _ => True) (fun v w' => OwnD w' (wo.heap.size) 25 v (L ++ [J])) (fun v w' w'' _ h _ => h) (fun v w' w'' h k => h.below k) rfl (fun w2 hb2 hF2 hG2 => ?_) ?_
                  · have k9 : Blk w2 b9 (J.map (Value.int .u8)).toArray 25 := hF2.2
                    obtain ⟨v', w', hr, q2, q3, q4⟩ := run_append_dig (P := Tryz.prog) _ Tryz.underlying61 hi hz0 zD_cells32 hz1 hz2 hG2 k9 HJ.out (by rw [HLl.out]; omega) (Nat.le_trans hsl hb2.size)
                    exact ⟨v', w', FlowB.exec_append rfl rfl rfl hr, FlowB.ButIn.of_grown q3, trivial, q2⟩
                  rintro v3 w3 hb3 hF3 _
                  apply Exists.intro
                  refine ⟨fun w2 hb2 hF2 => wpQuiet_nil rfl, ?_⟩
                  refine FlowB.AlChk.nil ?_
                  refine FlowB.Walk.fin fun w4 h4 _ hG4 => ?_
                  simp only [List.drop_succ_cons, List.drop_zero]
                  have HG4 := hid hG4
                  rw [← HL.out] at HG4
                  have HB4 := hid (h4.below HBl.out hsl (fun b hb => own_from HO.out b hb))
                  clear h4 hG4
                  go_wp2_with fail
                  exact ⟨⟨j + 1, by omega, by go_num, HG4.out, HB4.out⟩, by simp [intOf]; omega⟩
                · obtain rfl : j = M := by omega
                  have hc3 : ¬ (2 * (j : Int) + 1 < ((2 * j : Nat) : Int)) := by omega
                  obtain ⟨i1, hi1, hz10, hz11, hz12⟩ := info_parts infoLD
                  have hn := HO.out.re (base' := (w.heap.size + 1)) hsz3
                  have hoc := own_cells hn.row
                  have ho1 := own_cell hn.row
                  have Al := (Below.refl wr.heap.size wr).alloc (Nat.le_refl _) (.cells u15.cells 61 (0, 0))
                  have HNo := hid (hn.below Al)
                  have HOo := hid (owns_below (owns_below Hov.out HBl.out) Al)
                  have HRo := hid (fun j hj => ((Hrs.out j hj).below HBl.out).below Al)
                  have hbb := Below.on HB.out HBl.out
                  have HBo := hid (hbb.alloc hbb.size (.cells u15.cells 61 (0, 0)))
                  have Kso := hid ((Ks.out.below HBl.out).below Al)
                  have kvo : Blk (wr.alloc (.cells u15.cells 61 (0, 0))) wr.heap.size [u15].toArray 61 := by rw [hoc]; exact Blk.new (w := wr) rfl #[u15] 61
                  have Kvo := hid kvo
                  have hvs : u15.cells.size = 1 := by rw [hoc]; rfl
                  have hol := HOo.out.lt
                  have hksz := Ks.out.lt
                  have hszr : (w.heap.size + 1) ≤ wr.heap.size := Nat.le_trans hsz3 hsl
                  clear Al kvo hn hbb hoc
                  go_wp2_with (first
                   | (refine wpList_build_rec (v := u15) rfl rfl rfl Tryz.underlying88 hi1 hz10 hz11 (by omega) (by omega) hvs ?_)
                   | (
                    at_builtin
                    refine wpList_append_own _ rfl _ _ 88 rfl (w.heap.size + 1) 61 i1 (.slice none 0 0) 1 24 Tryz.underlying88 hi1 hz10 hz11 hz12 rfl (by omega) u13 (q + 1) vals rfl HOo.out ⟨wr.heap.size, 0, none⟩ 1 1 [u15] rfl rfl (news_blk Kvo.out) (by simpa using ho1) (by unfold maxLen; omega) (by omega) (by rw [World.size_alloc]; omega) ?_
                    intro v14 w3 hov3 hgv _
                    have Hov3 := hid hov3
                    have HN3 := hid (HNo.out.other HOo.out hgv)
                    have HR3 := hid (fun j hj => (HRo.out j hj).other HOo.out hgv)
                    have HB3 := hid (HBo.out.grown hgv (by rw [World.size_alloc]; omega) (fun p hp => by have := (hol p hp).1; omega))
                    have Ks3 := hid (Kso.out.grown hgv (fun p hp => by have := (hol p hp).1; omega))
                    have hs3 := hgv.size
                    rw [World.size_alloc] at hs3
                    clear hov3 hgv))
                  refine ⟨⟨q + 1, vals ++ [u15], by omega, by go_num, by rw [List.length_append, Hvl.out]; rfl, Hov3.out, (fun p hp => ?_), ?_, HB3.out, Ks3.out, by omega⟩, by simp [intOf]; omega⟩
                  · by_cases hpq : p ≤ q
                    · rw [List.getD_eq_getElem?_getD, List.getElem?_append_left (by rw [Hvl.out]; omega), ← List.getD_eq_getElem?_getD]
                      exact HR3.out p hpq
                    · obtain rfl : p = q + 1 := by omega
                      rw [List.getD_eq_getElem?_getD, List.getElem?_append_right (by rw [Hvl.out]; omega), Hvl.out, Nat.sub_self, HMe.out]
                      exact HN3.out
                  · rw [List.getD_eq_getElem?_getD, List.getElem?_append_right (by rw [Hvl.out]; omega), Hvl.out, Nat.sub_self]
                    rfl
            · obtain rfl : q = k := by omega
              have hc2 : ¬ ((q : Int) < q) := by omega
              have HRV : Hid (RowsV pub (treeZ la tr) lf q u13 wo) := hid (by
                obtain ⟨hl1, ⟨_, h0⟩ | ⟨g, cap, cur, rfl, hg1, hh, hle, hmx, hcs, htk⟩⟩ := Hov.out
                · omega
                · refine ⟨g, cap, rfl, hle, (Array.getElem?_eq_some_iff.1 hh).1, fun p hp => ⟨vals.getD p undef, ?_, RowV.of_own (Hrs.out p hp) (rowN_length _ _ _ _ _)⟩⟩
                  have hb : Blk wo g cur 61 := hh
                  rw [hb.cell]
                  have h6 : (cur.toList.take ((q + 1) * 1))[p]? = some (vals.getD p undef) := by
                    rw [htk, List.getD_eq_getElem?_getD, List.getElem?_eq_getElem (by rw [Hvl.out]; omega)]
                    rfl
                  rw [List.getElem?_take_of_lt (by omega)] at h6
                  simpa using h6)
              go_wp2_with fail
              go_ret
              exact ⟨_, rfl, HB.out, HRV.out⟩
end Go.Proofs.YtjkfbeillmeomaaGreatDoor
namespace Go.Proofs.YtjkfbeillmeomaaGreatDoor
set_option maxRecDepth 100000
open Go.ChangeShapes Go.WideShapes Go.ChangeAt Go.RowKit
theorem sib_lt {n leaf k : Nat} (h : leaf < 2 ^ n) (hk : k < n) : sibN leaf k < 2 ^ (n - k) := by
  have h1 : leaf / 2 ^ k < 2 ^ (n - k) := Nat.div_lt_of_lt_mul (by rw [← Nat.pow_add, show k + (n - k) = n by omega]; exact h)
  have h2 : 2 ^ (n - k) = 2 * 2 ^ (n - (k + 1)) := by rw [show n - k = (n - (k + 1)) + 1 by omega, Nat.pow_succ]; omega
  unfold sibN
  rw [h2] at h1 ⊢
  generalize leaf / 2 ^ k = q at *
  generalize 2 ^ (n - (k + 1)) = m at *
  split <;> omega
theorem leaf_lt {n leaf : Nat} (h : rightZ n leaf = true) : leaf < 2 ^ n := by
  simp only [rightZ, decide_eq_true_eq] at h
  rcases (show n = 1 ∨ n = 2 ∨ n = 3 ∨ n = 4 by omega) with rfl | rfl | rfl | rfl <;> simp at h ⊢ <;> omega
theorem wayZ_succ (pub ad : List Int) (lf : Nat → List Int) (leaf k : Nat) : wayZ pub ad lf leaf (k + 1) = wayZ pub ad lf leaf k ++ [nodeZ pub ad lf k (sibN leaf k)] := by
  unfold wayZ
  rw [List.range_succ, List.map_append]
  rfl
theorem wayZ_length (pub ad : List Int) (lf : Nat → List Int) (leaf k : Nat) : (wayZ pub ad lf leaf k).length = k := by simp [wayZ]
theorem OwnD.but {w w' : World} {base b : Nat} {e : TypeId} {v : Value} {ds : List (List Int)} (h : OwnD w base e v ds) (hb : But b w w') (hl : b < base) : OwnD w' base e v ds := ⟨own_but h.row hb (fun e => by have := (h.lt _ e).1; omega), h.each⟩
set_option maxHeartbeats 4000000 in
theorem refway_any (pub ad : List Int) (lf : Nat → List Int) (n leaf g cap : Nat) (w : World) (hv : n + 1 ≤ cap ∧ g < w.heap.size ∧ ∀ j, j ≤ n → ∃ u, w.cell? ⟨g, j, none⟩ = some u ∧ RowV (2 ^ (n - j)) (rowN pub ad lf j (2 ^ (n - j))) u w) (hDg : ∀ k j, Dg (nodeZ pub ad lf k j)) (hr : rightZ n leaf = true) :
    Calls Tryz.prog 42 #[.slice (some ⟨g, 0, none⟩) (n + 1) cap, .int .i64 (leaf : Int)] w fun e w' => ∃ v, e = .returned v ∧ Below w.heap.size w w' ∧ OwnD w' w.heap.size 25 v (wayZ pub ad lf leaf n) := by
  obtain ⟨h41, h42, h43⟩ := hv
  have Hrows := hid h43
  have hlf := leaf_lt hr
  have hr2 := hr
  simp only [rightZ, decide_eq_true_eq] at hr2
  have hn4 : n ≤ 4 := by omega
  have hl16 : leaf < 16 := Nat.lt_of_lt_of_le hlf (Nat.le_trans (Nat.pow_le_pow_right (by omega) hn4) (by omega))
  have HD := hid hDg
  clear hr2 hr h43 hDg
  go_enter Tryz.func42, Tryz.ntmps42
  go_wp2_with fail
  have HO0 := hid (OwnD.nil w (w.heap.size) 25)
  go_loopw [1, 5, 6] (fun iv ov kv wr => ∃ k q : Nat, k ≤ n ∧ q = leaf / 2 ^ k ∧ iv = .int .i64 (q : Int) ∧ kv = .int .i64 k ∧ OwnD wr (w.heap.size) 25 ov (wayZ pub ad lf leaf k) ∧ Below w.heap.size w wr) (fun _ _ kv _ => n - (intOf kv).toNat)
  case atStart => exact ⟨0, leaf, Nat.zero_le _, by simp, rfl, rfl, HO0.out, Below.refl _ _⟩
  case round =>
    obtain ⟨k, q, hk, hq, rfl, rfl, ho, bel⟩ := hrel
    have HO := hid ho
    have HB := hid bel
    have hsw := bel.size
    have hq16 : q < 16 := by rw [hq]; exact Nat.lt_of_le_of_lt (Nat.div_le_self _ _) hl16
    have Hq := hid hq
    clear ho bel HO0 hq
    by_cases hlt : k < n
    · have hc0 : (k : Int) < n := by omega
      obtain ⟨i0, hi, hz0, hz1, hz2⟩ := info_parts info_dig
      obtain ⟨u, hu, ra, rc, rfl, hdg⟩ := Hrows.out k (by omega)
      have hcu : wr.cell? ⟨g, k, none⟩ = some (.slice ra (2 ^ (n - k)) rc) := (HB.out.cell h42).trans hu
      have hsl := sib_lt hlf hlt
      have hdw := hdg.below HB.out
      have hle := hdw.le
      have hmx := hdw.max
      obtain ⟨xs, xo, rfl, hxs, hcell⟩ := hdw.at_ (by omega)
      have HS := hid (wayZ_succ pub ad lf leaf k)
      have HX := hid (HD.out k (sibN leaf k))
      have HLl := hid (wayZ_length pub ad lf leaf k)
      generalize hm : 2 ^ (n - k) = m at *
      clear hdg hdw hu hm
      by_cases hodd : q % 2 = 1
      · skip
        have hq1 : (q : Int) % 2 = 1 := by omega
        have hsb : sibN leaf k = q - 1 := by
          unfold sibN
          rw [← Hq.out]
          rw [if_neg (by omega)]
        rw [hsb] at hsl HS HX
        have Hc := hid (hcell (q - 1) hsl)
        rw [rowN_get _ _ _ _ _ _ hsl] at Hc
        clear hcell hsb
        generalize nodeZ pub ad lf k (q - 1) = X at *
        have HOa := hid (HO.out.below ((Below.refl wr.heap.size wr).alloc (Nat.le_refl _) (.cells (X.map (Value.int .u8)).toArray 25 (0, 0))))
        have HKa := hid (Blk.new (w := wr) rfl (X.map (Value.int .u8)).toArray 25)
        have HBa := hid (HB.out.alloc HB.out.size (.cells (X.map (Value.int .u8)).toArray 25 (0, 0)))
        go_wp2_with (first
         | (refine wpList_index_digs rfl 61 _ _ rfl Tryz.underlying61 size_digest xs xo m rc rfl _ _ rfl (q - 1) (by omega) hsl ?_)
         | (refine wpList_load_mid rfl 25 _ rfl xs (xo + (q - 1) * 32) rfl _ _ Hc.out Tryz.underlying25 rfl (by rw [List.length_map, HX.out.len]; exact size_digest) ?_)
         | (refine wpList_build_one rfl _ rfl rfl HX.out ?_)
         | (
          at_builtin
          refine wpList_append_dig rfl _ _ rfl Tryz.underlying61 hi hz0 zD_cells32 hz1 hz2 rfl HOa.out rfl HKa.out HX.out (by rw [HLl.out]; omega) (by rw [World.size_alloc]; omega) ?_
          intro v5 w5 own5 hg5 b5
          have Ho5 := hid own5
          have HB5 := hid (HBa.out.trans (b5.mono (by omega)))
          clear own5 hg5 b5))
        exact ⟨⟨k + 1, q / 2, by omega, by rw [Hq.out, Nat.div_div_eq_div_mul, ← Nat.pow_succ], by go_num, by go_num, by rw [HS.out]; exact Ho5.out, HB5.out⟩, by simp [intOf]; omega⟩
      · skip
        have hq1 : ¬ ((q : Int) % 2 = 1) := by omega
        have hsb : sibN leaf k = q + 1 := by
          unfold sibN
          rw [← Hq.out]
          rw [if_pos (by omega)]
        rw [hsb] at hsl HS HX
        have Hc := hid (hcell (q + 1) hsl)
        rw [rowN_get _ _ _ _ _ _ hsl] at Hc
        clear hcell hsb
        generalize nodeZ pub ad lf k (q + 1) = X at *
        have HOa := hid (HO.out.below ((Below.refl wr.heap.size wr).alloc (Nat.le_refl _) (.cells (X.map (Value.int .u8)).toArray 25 (0, 0))))
        have HKa := hid (Blk.new (w := wr) rfl (X.map (Value.int .u8)).toArray 25)
        have HBa := hid (HB.out.alloc HB.out.size (.cells (X.map (Value.int .u8)).toArray 25 (0, 0)))
        go_wp2_with (first
         | (refine wpList_index_digs rfl 61 _ _ rfl Tryz.underlying61 size_digest xs xo m rc rfl _ _ rfl (q + 1) (by omega) hsl ?_)
         | (refine wpList_load_mid rfl 25 _ rfl xs (xo + (q + 1) * 32) rfl _ _ Hc.out Tryz.underlying25 rfl (by rw [List.length_map, HX.out.len]; exact size_digest) ?_)
         | (refine wpList_build_one rfl _ rfl rfl HX.out ?_)
         | (
          at_builtin
          refine wpList_append_dig rfl _ _ rfl Tryz.underlying61 hi hz0 zD_cells32 hz1 hz2 rfl HOa.out rfl HKa.out HX.out (by rw [HLl.out]; omega) (by rw [World.size_alloc]; omega) ?_
          intro v5 w5 own5 hg5 b5
          have Ho5 := hid own5
          have HB5 := hid (HBa.out.trans (b5.mono (by omega)))
          clear own5 hg5 b5))
        exact ⟨⟨k + 1, q / 2, by omega, by rw [Hq.out, Nat.div_div_eq_div_mul, ← Nat.pow_succ], by go_num, by go_num, by rw [HS.out]; exact Ho5.out, HB5.out⟩, by simp [intOf]; omega⟩
    · obtain rfl : k = n := by omega
      have hc0 : ¬ ((k : Int) < k) := by omega
      go_wp2_with fail
      go_ret
      exact ⟨_, rfl, HB.out, HO.out⟩
end Go.Proofs.YtjkfbeillmeomaaGreatDoor
namespace Go.Proofs.YtjkfbeillmeomaaGreatDoor
set_option maxRecDepth 100000
open Go.ChangeShapes Go.WideShapes Go.ChangeAt Go.RowKit
set_option maxHeartbeats 4000000 in
/-- A secret, as it comes in. -/
theorem open_secret {H : Type} {enc : TypeId × Value → H} {W : World} {base : Nat} {v : Value} {d : DataW H} {p : List MemPlace} (hv : Value.okWide Tryz.prog W .any base 29 v) (h : DataW.Trod enc Tryz.prog W 0 (fun _ => true) true 29 v d p) :
    ∃ seed prf pub : List Int, v = .agg ((secL seed prf pub).map (Value.int .u8)).toArray ∧ Dg seed ∧ Dg prf ∧ Dg pub := by
  obtain ⟨f0, f1, f2, hu, t0, t1, t2, o0, o1, o2⟩ : ∃ f0 f1 f2 : Field, Tryz.prog.underlying 29 = some (.struct #[f0, f1, f2]) ∧ f0.type = 25 ∧ f1.type = 25 ∧ f2.type = 25 ∧ f0.offset = 0 ∧ f1.offset = 32 ∧ f2.offset = 64 := ⟨_, _, _, Tryz.underlying29, rfl, rfl, rfl, rfl, rfl, rfl⟩
  have c32 : Tryz.prog.cellsOf 25 = 32 := by kernel_rfl
  have c96 : Tryz.prog.cellsOf 29 = 96 := by kernel_rfl
  have c1 : Tryz.prog.cellsOf 5 = 1 := by kernel_rfl
  unfold Value.okWide at hv
  rw [hu] at hv
  obtain ⟨cs, rfl, hsz, _⟩ := hv
  obtain ⟨fuel, hf⟩ := h
  have hf : DataW.trod enc Tryz.prog W 0 (fun _ => true) true fuel 29 cs.toList = some (d, p) := hf
  obtain ⟨y0, y1, y2, n, _, hl, q0, q1, q2⟩ := Go.Deep.trod_struct3 hu hf
  rw [t0, o0, c32] at q0
  rw [t1, o1, c32] at q1
  rw [t2, o2, c32] at q2
  obtain ⟨d0, k0, e0⟩ := digest_cells Tryz.underlying25 Tryz.underlying5 c32 c1 q0
  obtain ⟨d1, k1, e1⟩ := digest_cells Tryz.underlying25 Tryz.underlying5 c32 c1 q1
  obtain ⟨d2, k2, e2⟩ := digest_cells Tryz.underlying25 Tryz.underlying5 c32 c1 q2
  refine ⟨d0, d1, d2, ?_, k0, k1, k2⟩
  refine congrArg Value.agg ?_
  apply Array.ext'
  rw [c96] at hl
  unfold secL
  rw [List.map_append, List.map_append, ← e0, ← e1, ← e2]
  have h3 : cs.toList = cs.toList.take 32 ++ (cs.toList.drop 32).take 32 ++ (cs.toList.drop 64).take 32 := by
    rw [List.append_assoc, List.take_of_length_le (l := cs.toList.drop 64) (by rw [List.length_drop]; omega)]
    rw [show cs.toList.drop 64 = (cs.toList.drop 32).drop 32 by rw [List.drop_drop], List.take_append_drop, List.take_append_drop]
  simpa using h3
end Go.Proofs.YtjkfbeillmeomaaGreatDoor
