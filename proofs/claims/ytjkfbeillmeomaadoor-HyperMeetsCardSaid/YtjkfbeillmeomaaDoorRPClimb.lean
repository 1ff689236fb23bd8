/-
  NPair, Climb, ClimbP, ClimbR, ClimbK, ClimbLaws: one text.
-/
import Derived.Test.YtjkfbeillmeomaaDoorRNFlowB
import Derived.OrdersHeld
import Derived.Test.YtjkfbeillmeomaaDoorRPLt
import Derived.Test.YtjkfbeillmeomaaDoorRNLate
namespace Go.Proofs.YtjkfbeillmeomaaDoor
set_option maxRecDepth 100000
open Go.RowKit
section
variable {P : Program} {ops : Array Oper} {Q : Exit → Act → World → Prop}
theorem wpOp_val {i : Nat} {o : Oper} {K : Act → World → Prop} {a : Act} {w w' : World} {v : Value} (hi : ops[i]? = some o) (hg : o.guard = none) (hr : (execOp a.eval o).run P w = .ok (.value v) w') (h : K (a.put o.dst v) w') : wpOp P ops Q i K a w := by
  unfold wpOp
  simp only [hi]
  rw [if_pos (by unfold Region.wanted; rw [hg])]
  left
  unfold Oper.wp
  rw [hr, Oper.upon_value]
  exact h
theorem wpOp_skips {i : Nat} {o : Oper} {K : Act → World → Prop} {a : Act} {w w' : World} (hi : ops[i]? = some o) (hg : o.guard = none) (hd : o.dst = none) (hr : (execOp a.eval o).run P w = .ok .skip w') (h : K a w') : wpOp P ops Q i K a w := by
  unfold wpOp
  simp only [hi]
  rw [if_pos (by unfold Region.wanted; rw [hg])]
  left
  unfold Oper.wp
  rw [hr]
  show K (a.put o.dst undef) w'
  rw [hd]
  exact h
/-- What a load of a whole variable comes to. -/
theorem exec_load_blk {o : Oper} {A : Act} {w : World} (ty : TypeId) (x : Operand) (ho : o.op = .load ty x) (b : Nat) (hx : A.eval x = .pointer (some ⟨b, 0, none⟩)) (cs : Array Value) (T : TypeId) (hb : Blk w b cs T) (d : TypeDesc) (hu : P.underlying ty = some d) (hd : d.isRow = true) (n : Nat) (hi : (P.info? ty).map (·.size) = some n) (hs : cs.size = n) :
    (execOp A.eval o).run P w = .ok (.value (.agg cs)) w := by
  unfold execOp
  simp only [ho, hx, Instr.loadAt, Instr.sureAddr, Sem.run_bind, Sem.run_pure, Result.andThen_ok, run_loadVar_mid w b 0 ty cs.toList d hb.rangeAt hu hd (by rw [hi]; simp [hs])]
end
def pl (l : List Nat) : Array Bool := l.foldl (fun x i => x.setIfInBounds i true) (Array.replicate 6 false)
/-- Two loads, two variables, two stores; the second load may come up behind the first store. -/
def pairB (l : List Oper) : Bool :=
  Region.noSelect l.toArray && l.length == 6 && Region.free .any l.toArray (pl []) 0 && Region.free .any l.toArray (pl [0]) 1 &&
  (Region.ready .any l.toArray (pl [])).contains 0 && (Region.ready .any l.toArray (pl [0])).contains 1 && Region.ready .any l.toArray (pl [0, 1]) == [2, 3] &&
  Region.ready .any l.toArray (pl [0, 1, 2]) == [3] && Region.ready .any l.toArray (pl [0, 1, 3]) == [2] &&
  [[0, 1, 2, 3], [0, 1, 3, 2]].all fun m => Region.ready .any l.toArray (pl m) == [4] && Region.ready .any l.toArray (pl (m ++ [4])) == [5] && Region.ready .any l.toArray (pl (m ++ [4, 5])) == []
def pairF (a : Act) (o0 o1 o2 o3 : Oper) (X Y : Array Value) (b c : Nat) : Act :=
  (((a.put o0.dst (.agg X)).put o1.dst (.agg Y)).put o2.dst (.pointer (some ⟨b, 0, none⟩))).put o3.dst (.pointer (some ⟨c, 0, none⟩))
theorem wp_pair {P : Program} {id : Nat} {Q : Exit → Act → World → Prop} {a : Act} {w : World} {l : List Oper} (hm : P.follows .mixedOrders = true) (hB : pairB l = true) (hQ : ∀ c (a : Act) d v w, Q (.panic c) (a.put d v) w → Q (.panic c) a w)
    (o0 o1 o2 o3 o4 o5 : Oper) (h0 : l[0]? = some o0) (h1 : l[1]? = some o1) (h2 : l[2]? = some o2) (h3 : l[3]? = some o3) (h4 : l[4]? = some o4) (h5 : l[5]? = some o5) (ty : TypeId) (x y p4 q4 p5 q5 : Operand)
    (e0 : o0.op = .load ty x) (e1 : o1.op = .load ty y) (e4 : o4.op = .store ty p4 q4) (e5 : o5.op = .store ty p5 q5)
    (g0 : o0.guard = none) (g1 : o1.guard = none) (g2 : o2.guard = none) (g3 : o3.guard = none) (g4 : o4.guard = none) (g5 : o5.guard = none) (n4 : o4.dst = none) (n5 : o5.dst = none) (hne : ∀ d, o2.dst = some d → o3.dst ≠ some d)
    (bx bz : Nat) (X Y : Array Value) (hx : a.eval x = .pointer (some ⟨bx, 0, none⟩)) (hy : (a.put o0.dst (.agg X)).eval y = .pointer (some ⟨bz, 0, none⟩)) (T1 T2 : TypeId) (kx : Blk w bx X T1) (ky : Blk w bz Y T2)
    (d : TypeDesc) (hu : P.underlying ty = some d) (hd : d.isRow = true) (n : Nat) (hi : (P.info? ty).map (·.size) = some n) (sX : X.size = n) (sY : Y.size = n) (cX : X.all (·.oneCell') = true) (cY : Y.all (·.oneCell') = true)
    (Z : Array Value) (sZ : Z.size = n)
    (a2 : ∀ (A : Act) W, (execOp A.eval o2).run P W = .ok (.value (.pointer (some ⟨W.heap.size, 0, none⟩))) (W.alloc (.cells Z ty (0, 0))))
    (a3 : ∀ (A : Act) W, (execOp A.eval o3).run P W = .ok (.value (.pointer (some ⟨W.heap.size, 0, none⟩))) (W.alloc (.cells Z ty (0, 0))))
    (hev : ∀ b c, (pairF a o0 o1 o2 o3 X Y b c).eval p4 = .pointer (some ⟨b, 0, none⟩) ∧ (pairF a o0 o1 o2 o3 X Y b c).eval q4 = .agg X ∧ (pairF a o0 o1 o2 o3 X Y b c).eval p5 = .pointer (some ⟨c, 0, none⟩) ∧ (pairF a o0 o1 o2 o3 X Y b c).eval q5 = .agg Y)
    (hfin : ∀ b c w', Below w.heap.size w w' → w.heap.size ≤ b → w.heap.size ≤ c → b ≠ c → Blk w' b X ty → Blk w' c Y ty → wpList P l.toArray Q [] (pairF a o0 o1 o2 o3 X Y b c) w') : (Code.region id l.toArray true).wp P Q a w := by
  unfold pairB at hB
  simp only [Bool.and_eq_true, beq_iff_eq, List.all_cons, List.all_nil, Bool.and_true] at hB
  obtain ⟨⟨⟨⟨⟨⟨⟨⟨⟨hs, hl⟩, f0⟩, f1⟩, r0⟩, r1⟩, r01⟩, r012⟩, r013⟩, ⟨⟨rA, rA4⟩, rA5⟩, ⟨rB, rB4⟩, rB5⟩ := hB
  have size6 : l.toArray.size = 6 := by simpa using hl
  refine wp_region_held (S := fun W => Below w.heap.size w W) hm ?_
  rw [size6]
  have h0' : l.toArray[0]? = some o0 := by simpa using h0
  have h1' : l.toArray[1]? = some o1 := by simpa using h1
  have h2' : l.toArray[2]? = some o2 := by simpa using h2
  have h3' : l.toArray[3]? = some o3 := by simpa using h3
  have h4' : l.toArray[4]? = some o4 := by simpa using h4
  have h5' : l.toArray[5]? = some o5 := by simpa using h5
  have hw : ∀ (o : Oper) (A : Act), o.guard = none → Region.wanted o (yielded l.toArray A.tmps) = true := fun o A hg => by unfold Region.wanted; rw [hg]
  have tail : ∀ L b c W, Region.ready .any l.toArray L = [4] → Region.ready .any l.toArray (L.setIfInBounds 4 true) = [5] → Region.ready .any l.toArray ((L.setIfInBounds 4 true).setIfInBounds 5 true) = [] → Below w.heap.size w W → w.heap.size ≤ b → w.heap.size ≤ c → b ≠ c → Blk W b Z ty → Blk W c Z ty →
      wpAnyH P .any l.toArray Q (fun W => Below w.heap.size w W) 2 L (pairF a o0 o1 o2 o3 X Y b c) W := by
    intro L b c W q4' q5' q6' hW hb hc hbc kb kc
    obtain ⟨v1, v2, v3, v4⟩ := hev b c
    refine wpAnyH_all (rs := [4]) q4' (by simp) ?_
    intro i hi'
    obtain rfl : i = 4 := by simpa using hi'
    obtain ⟨w1, s1, s2, s3⟩ := FlowB.exec_store_blk ty p4 q4 e4 b X v1 v2 Z ty kb n hi sZ sX cX
    have hW1 := s2.below hW hW.size hb
    have kc1 := s2.blk kc (Ne.symm hbc)
    refine wpOp_skips h4' g4 n4 s1 ⟨hW1, ?_⟩
    refine wpAnyH_all (rs := [5]) q5' (by simp) ?_
    intro i hi'
    obtain rfl : i = 5 := by simpa using hi'
    obtain ⟨w2, s4, s5, s6⟩ := FlowB.exec_store_blk ty p5 q5 e5 c Y v3 v4 Z ty kc1 n hi sZ sY cY
    have hW2 := s5.below hW1 hW1.size hc
    refine wpOp_skips h5' g5 n5 s4 ⟨hW2, ?_⟩
    exact wpAnyH_done q6' (hfin b c w2 hW2 hb hc hbc (s5.blk s3 hbc) s6) _
  have hS0 : Below w.heap.size w w.drew := (Below.refl _ _).drew
  refine wpAnyH_take (i := 0) (oi := o0) (v := .agg X) h0' hs f0 r0 (fun c a w h => hQ c a _ _ w h) (.inl ⟨hw _ _ g0, fun W hW => exec_load_blk ty x e0 bx hx X T1 (kx.below hW) d hu hd n hi sX⟩) hS0 ?_
  refine wpAnyH_take (i := 1) (oi := o1) (v := .agg Y) h1' hs f1 r1 (fun c a w h => hQ c a _ _ w h) (.inl ⟨hw _ _ g1, fun W hW => exec_load_blk ty y e1 bz hy Y T2 (ky.below hW) d hu hd n hi sY⟩) hS0 ?_
  refine wpAnyH_all (rs := [2, 3]) r01 (by simp) ?_
  intro i hi'
  have hdr : w.drew.heap.size = w.heap.size := rfl
  have b1 : Below w.heap.size w (w.drew.alloc (.cells Z ty (0, 0))) := hS0.alloc hS0.size _
  have b2 : Below w.heap.size w ((w.drew.alloc (.cells Z ty (0, 0))).alloc (.cells Z ty (0, 0))) := b1.alloc b1.size _
  have k1 : Blk ((w.drew.alloc (.cells Z ty (0, 0))).alloc (.cells Z ty (0, 0))) w.heap.size Z ty := (Blk.new rfl Z ty).old _
  have k2 : Blk ((w.drew.alloc (.cells Z ty (0, 0))).alloc (.cells Z ty (0, 0))) (w.drew.alloc (.cells Z ty (0, 0))).heap.size Z ty := Blk.new rfl Z ty
  have hsz : (w.drew.alloc (.cells Z ty (0, 0))).heap.size = w.heap.size + 1 := by rw [World.size_alloc, hdr]
  have hi'' : i = 2 ∨ i = 3 := by simpa using hi'
  rcases hi'' with rfl | rfl
  · refine wpOp_val h2' g2 (a2 _ _) ⟨b1, ?_⟩
    refine wpAnyH_all (rs := [3]) r012 (by simp) ?_
    intro i hi'
    obtain rfl : i = 3 := by simpa using hi'
    refine wpOp_val h3' g3 (a3 _ _) ⟨b2, ?_⟩
    exact tail _ w.heap.size (w.drew.alloc (.cells Z ty (0, 0))).heap.size _ rA rA4 rA5 b2 (Nat.le_refl _) (by omega) (by omega) k1 k2
  · refine wpOp_val h3' g3 (a3 _ _) ⟨b1, ?_⟩
    refine wpAnyH_all (rs := [2]) r013 (by simp) ?_
    intro i hi'
    obtain rfl : i = 2 := by simpa using hi'
    refine wpOp_val h2' g2 (a2 _ _) ⟨b2, ?_⟩
    have := tail _ (w.drew.alloc (.cells Z ty (0, 0))).heap.size w.heap.size _ rB rB4 rB5 b2 (by omega) (Nat.le_refl _) (by omega) k2 k1
    unfold pairF at this
    rw [Act.put_comm _ _ _ hne] at this
    exact this
end Go.Proofs.YtjkfbeillmeomaaDoor
namespace Go.Proofs.YtjkfbeillmeomaaDoor
set_option maxRecDepth 100000
open Go.ChangeShapes Go.WideShapes Go.ChangeAt Go.RowKit
/-- May there be so many levels, and such a leaf? -/
def rightZ (n i : Int) : Bool := decide (1 ≤ n ∧ n ≤ 4 ∧ 0 ≤ i ∧ i < 2 ^ n.toNat)
set_option maxHeartbeats 4000000 in
theorem tright_any (n i : Int) (w : World) :
    Calls Tryd.prog 87 #[.int .i64 n, .int .i64 i] w fun e w' => e = .returned (.bool (rightZ n i)) ∧ w' = w := by
  by_cases h1 : 1 ≤ n
  · by_cases h2 : n ≤ 4
    · rcases (show n = 1 ∨ n = 2 ∨ n = 3 ∨ n = 4 by omega) with rfl | rfl | rfl | rfl
      · by_cases h3 : 0 ≤ i
        · by_cases h4 : i < 2
          · have h4b : ¬ 2 ≤ i := by omega
            go_enter Tryd.func87, Tryd.ntmps87
            go_wp2
            go_returns
            exact ⟨by simp [rightZ, *] <;> omega, rfl⟩
          · have h4b : 2 ≤ i := by omega
            go_enter Tryd.func87, Tryd.ntmps87
            go_wp2
            go_returns
            exact ⟨by simp [rightZ, *] <;> omega, rfl⟩
        · have h3b : i < 0 := by omega
          go_enter Tryd.func87, Tryd.ntmps87
          go_wp2
          go_returns
          exact ⟨by simp [rightZ, *] <;> omega, rfl⟩
      · by_cases h3 : 0 ≤ i
        · by_cases h4 : i < 4
          · have h4b : ¬ 4 ≤ i := by omega
            go_enter Tryd.func87, Tryd.ntmps87
            go_wp2
            go_returns
            exact ⟨by simp [rightZ, *] <;> omega, rfl⟩
          · have h4b : 4 ≤ i := by omega
            go_enter Tryd.func87, Tryd.ntmps87
            go_wp2
            go_returns
            exact ⟨by simp [rightZ, *] <;> omega, rfl⟩
        · have h3b : i < 0 := by omega
          go_enter Tryd.func87, Tryd.ntmps87
          go_wp2
          go_returns
          exact ⟨by simp [rightZ, *] <;> omega, rfl⟩
      · by_cases h3 : 0 ≤ i
        · by_cases h4 : i < 8
          · have h4b : ¬ 8 ≤ i := by omega
            go_enter Tryd.func87, Tryd.ntmps87
            go_wp2
            go_returns
            exact ⟨by simp [rightZ, *] <;> omega, rfl⟩
          · have h4b : 8 ≤ i := by omega
            go_enter Tryd.func87, Tryd.ntmps87
            go_wp2
            go_returns
            exact ⟨by simp [rightZ, *] <;> omega, rfl⟩
        · have h3b : i < 0 := by omega
          go_enter Tryd.func87, Tryd.ntmps87
          go_wp2
          go_returns
          exact ⟨by simp [rightZ, *] <;> omega, rfl⟩
      · by_cases h3 : 0 ≤ i
        · by_cases h4 : i < 16
          · have h4b : ¬ 16 ≤ i := by omega
            go_enter Tryd.func87, Tryd.ntmps87
            go_wp2
            go_returns
            exact ⟨by simp [rightZ, *] <;> omega, rfl⟩
          · have h4b : 16 ≤ i := by omega
            go_enter Tryd.func87, Tryd.ntmps87
            go_wp2
            go_returns
            exact ⟨by simp [rightZ, *] <;> omega, rfl⟩
        · have h3b : i < 0 := by omega
          go_enter Tryd.func87, Tryd.ntmps87
          go_wp2
          go_returns
          exact ⟨by simp [rightZ, *] <;> omega, rfl⟩
    · have h2b : 4 < n := by omega
      go_enter Tryd.func87, Tryd.ntmps87
      go_wp2
      go_returns
      exact ⟨by simp [rightZ, *] <;> omega, rfl⟩
  · have h1b : n < 1 := by omega
    go_enter Tryd.func87, Tryd.ntmps87
    go_wp2
    go_returns
    exact ⟨by simp [rightZ, *] <;> omega, rfl⟩
/-- A tree's address. -/
def treeZ (la tr : Int) : List Int := [la, tr / 4294967296, tr % 4294967296, 2, 0, 0, 0, 0]
theorem Aw.tree {la tr : Int} (hl : 0 ≤ la ∧ la < 4294967296) (ht : 0 ≤ tr ∧ tr < 18446744073709551616) : Aw (treeZ la tr) := ⟨rfl, fun x hx => by
  simp only [treeZ, List.mem_cons, List.not_mem_nil, or_false] at hx
  omega⟩
theorem tree_list (la tr : Int) (w : World) (h0 : 0 ≤ tr) (h1 : tr < 18446744073709551616) :
    Calls Tryd.prog 88 #[.int .u32 la, .int .u64 tr] w fun e w' => e = .returned (.agg ((treeZ la tr).map (Value.int .u32)).toArray) ∧ Below w.heap.size w w' := tree_any la tr w h0 h1
set_option maxHeartbeats 4000000 in
theorem tjoin_any (da db pub ad : List Int) (lev num : Int) (w : World) (hda : Dg da) (hdb : Dg db) (hpub : Dg pub) (had : Aw ad) (hl : 0 ≤ lev ∧ lev < 4294967296) (hn : 0 ≤ num ∧ num < 4294967296) (tab : ShaTab w) :
    Calls Tryd.prog 96 #[(.agg (da.map (Value.int .u8)).toArray), (.agg (db.map (Value.int .u8)).toArray), (.agg (pub.map (Value.int .u8)).toArray), (.agg (ad.map (Value.int .u32)).toArray), .int .i64 lev, .int .i64 num] w fun e w' => e = .returned (.agg ((joinZ da db pub (setAd ad lev num 0)).map (Value.int .u8)).toArray) ∧ Below w.heap.size w w' := by
  have HJ := hid (Dg.join da db pub (setAd ad lev num 0))
  have HA := hid (had.set (f := lev) (s := num) (p := 0) hl hn (by omega))
  have J1 := hid (fun (W : World) (t : ShaTab W) => ljoin_any da db pub (setAd ad lev num 0) W hda hdb hpub HA.out t)
  generalize (joinZ da db pub (setAd ad lev num 0)) = J at *
  have b1 := (Below.refl w.heap.size w).alloc (Nat.le_refl _) (.cells (da.map (Value.int .u8)).toArray 23 (0, 0))
  have b2 := b1.alloc b1.size (.cells (db.map (Value.int .u8)).toArray 23 (0, 0))
  have b3 := b2.alloc b2.size (.cells (pub.map (Value.int .u8)).toArray 23 (0, 0))
  have b4 := b3.alloc b3.size (.cells (ad.map (Value.int .u32)).toArray 26 (0, 0))
  have b5 := b4.alloc b4.size (.cells (byteCells 32 []) 23 (0, 0))
  have Ka := hid (((((Blk.new (w := w) (n := w.heap.size) rfl (da.map (Value.int .u8)).toArray 23).old (.cells (db.map (Value.int .u8)).toArray 23 (0, 0))).old (.cells (pub.map (Value.int .u8)).toArray 23 (0, 0))).old (.cells (ad.map (Value.int .u32)).toArray 26 (0, 0))).old (.cells (byteCells 32 []) 23 (0, 0)))
  have Kb := hid ((((Blk.new (w := (w.alloc (.cells (da.map (Value.int .u8)).toArray 23 (0, 0)))) (n := w.heap.size + 1) (by simp only [World.size_alloc]) (db.map (Value.int .u8)).toArray 23).old (.cells (pub.map (Value.int .u8)).toArray 23 (0, 0))).old (.cells (ad.map (Value.int .u32)).toArray 26 (0, 0))).old (.cells (byteCells 32 []) 23 (0, 0)))
  have Kp := hid (((Blk.new (w := ((w.alloc (.cells (da.map (Value.int .u8)).toArray 23 (0, 0))).alloc (.cells (db.map (Value.int .u8)).toArray 23 (0, 0)))) (n := w.heap.size + 1 + 1) (by simp only [World.size_alloc]) (pub.map (Value.int .u8)).toArray 23).old (.cells (ad.map (Value.int .u32)).toArray 26 (0, 0))).old (.cells (byteCells 32 []) 23 (0, 0)))
  have Kad := hid ((Blk.new (w := (((w.alloc (.cells (da.map (Value.int .u8)).toArray 23 (0, 0))).alloc (.cells (db.map (Value.int .u8)).toArray 23 (0, 0))).alloc (.cells (pub.map (Value.int .u8)).toArray 23 (0, 0)))) (n := w.heap.size + 1 + 1 + 1) (by simp only [World.size_alloc]) (ad.map (Value.int .u32)).toArray 26).old (.cells (byteCells 32 []) 23 (0, 0)))
  have Kr0 := hid (Blk.new (w := ((((w.alloc (.cells (da.map (Value.int .u8)).toArray 23 (0, 0))).alloc (.cells (db.map (Value.int .u8)).toArray 23 (0, 0))).alloc (.cells (pub.map (Value.int .u8)).toArray 23 (0, 0))).alloc (.cells (ad.map (Value.int .u32)).toArray 26 (0, 0)))) (n := w.heap.size + 1 + 1 + 1 + 1) (by simp only [World.size_alloc]) (byteCells 32 []) 23)
  have Hb := hid b5
  have HzA := hid zsize
  have hbz := b5.size
  have Hbs := hid (show w.heap.size + 1 + 1 + 1 + 1 + 1 = (((((w.alloc (.cells (da.map (Value.int .u8)).toArray 23 (0, 0))).alloc (.cells (db.map (Value.int .u8)).toArray 23 (0, 0))).alloc (.cells (pub.map (Value.int .u8)).toArray 23 (0, 0))).alloc (.cells (ad.map (Value.int .u32)).toArray 26 (0, 0))).alloc (.cells (byteCells 32 []) 23 (0, 0))).heap.size by simp only [World.size_alloc])
  have Htab := hid tab
  clear b1 b2 b3 b4 b5 tab
  go_enter Tryd.func96, Tryd.ntmps96
  go_wp2_with fail
  refine wp_region_flow 10 (List.range 10) [] [] (by kernel_rfl) (by kernel_rfl) ?_
  apply Exists.intro
  refine ⟨fun w0 hb0 hF0 => ?_, ?_⟩
  · skip
    have x0 : ∀ w', (∃ x : Ext w0, w' = x.at_) → ∃ T, Blk w' (w.heap.size) (da.map (Value.int .u8)).toArray T := fun w' ⟨x, hx⟩ => ⟨_, hx ▸ (Ka.out.below hb0).below x.same⟩
    have x1 : ∀ w', (∃ x : Ext w0, w' = x.at_) → ∃ T, Blk w' (w.heap.size + 1) (db.map (Value.int .u8)).toArray T := fun w' ⟨x, hx⟩ => ⟨_, hx ▸ (Kb.out.below hb0).below x.same⟩
    have x2 : ∀ w', (∃ x : Ext w0, w' = x.at_) → ∃ T, Blk w' (w.heap.size + 1 + 1) (pub.map (Value.int .u8)).toArray T := fun w' ⟨x, hx⟩ => ⟨_, hx ▸ (Kp.out.below hb0).below x.same⟩
    have x3 : ∀ w', (∃ x : Ext w0, w' = x.at_) → ∃ T, Blk w' (w.heap.size + 1 + 1 + 1) (ad.map (Value.int .u32)).toArray T := fun w' ⟨x, hx⟩ => ⟨_, hx ▸ (Kad.out.below hb0).below x.same⟩
    have c0 := fun e : Ext w0 => at_list ad lev num e.at_ had
    have c1 := fun e : Ext w0 => J1.out e.at_ ((Htab.out.below (Below.on Hb.out hb0)).below e.same)
    simp only [pick, List.range, List.range.loop, List.getElem?_toArray, List.getElem?_cons_succ, List.getElem?_cons_zero, Option.toList_some, List.cons_append, List.nil_append]
    repeat (first | (go_big_quiet_want; refine quiet_load_blk 23 _ rfl (w.heap.size) rfl _ x0 _ Tryd.underlying23 rfl 32 size_digest hda.size ?_; go_big_quiet_on; simp only [Act.put, List.setIfInBounds_toArray, List.set_cons_zero, List.set_cons_succ]) | (go_big_quiet_want; refine quiet_load_blk 23 _ rfl (w.heap.size + 1) rfl _ x1 _ Tryd.underlying23 rfl 32 size_digest hdb.size ?_; go_big_quiet_on; simp only [Act.put, List.setIfInBounds_toArray, List.set_cons_zero, List.set_cons_succ]) | (go_big_quiet_want; refine quiet_load_blk 23 _ rfl (w.heap.size + 1 + 1) rfl _ x2 _ Tryd.underlying23 rfl 32 size_digest hpub.size ?_; go_big_quiet_on; simp only [Act.put, List.setIfInBounds_toArray, List.set_cons_zero, List.set_cons_succ]) | (go_big_quiet_want; refine quiet_load_blk 26 _ rfl (w.heap.size + 1 + 1 + 1) rfl _ x3 _ Tryd.underlying26 rfl 8 sizeAdrs had.size ?_; go_big_quiet_on; simp only [Act.put, List.setIfInBounds_toArray, List.set_cons_zero, List.set_cons_succ]) | go_big_quiet_step (first | (go_at_call 32; with_reducible exact Calls.ext (c0 _)) | (go_at_call 29; with_reducible exact Calls.ext (c1 _))))
    exact wpQuiet_nil rfl
  refine AlChk.nil ?_
  refine Walk.fin fun w1 hw1 _ _ => ?_
  simp only [List.drop_succ_cons, List.drop_zero]
  have HBw1 := hid (Below.on Hb.out hw1)
  have hsw1 := HBw1.out.size
  have Kaw1 := hid (Ka.out.below hw1)
  have Kbw1 := hid (Kb.out.below hw1)
  have Kpw1 := hid (Kp.out.below hw1)
  have Kadw1 := hid (Kad.out.below hw1)
  have Kr0w1 := hid (Kr0.out.below hw1)
  clear hw1
  go_wp2_with (
      refine wpList_store_blk rfl 23 _ _ rfl (w.heap.size + 1 + 1 + 1 + 1) (J.map (Value.int .u8)).toArray rfl rfl _ 23 Kr0w1.out 32 size_digest HzA.out HJ.out.size (ints_one _ _) ?_
      intro w9 hb9 hk9
      have HB9 := hid (hb9.below HBw1.out HBw1.out.size (by omega))
      have HK9 := hid hk9
      clear hb9 hk9)
  exact bodyPost_ret (v := (.agg (J.map (Value.int .u8)).toArray)) (results_blk Tryd.results96 _ (w.heap.size + 1 + 1 + 1 + 1) rfl _ 23 HK9.out _ Tryd.underlying23 rfl 32 size_digest HJ.out.size) rfl ⟨rfl, HB9.out⟩
end Go.Proofs.YtjkfbeillmeomaaDoor
namespace Go.Proofs.YtjkfbeillmeomaaDoor
set_option maxRecDepth 100000
open Go.ChangeShapes Go.WideShapes Go.ChangeAt Go.RowKit
theorem tright_b (n i : Int) (b : Bool) (hb : rightZ n i = b) (w : World) : Calls Tryd.prog 87 #[.int .i64 n, .int .i64 i] w fun e w' => e = .returned (.bool b) ∧ Below w.heap.size w w' :=
  (tright_any n i w).mono fun e w' h => by
    obtain ⟨rfl, rfl⟩ := h
    exact ⟨by rw [hb], Below.refl _ _⟩
/-- One step up. -/
def climbS (pub ad : List Int) (i : Int) (lev : Nat) (x s : List Int) : List Int :=
  if i / 2 ^ lev % 2 = 1 then joinZ s x pub (setAd ad lev (i / 2 ^ lev / 2) 0) else joinZ x s pub (setAd ad lev (i / 2 ^ lev / 2) 0)
def climbZ (pub ad : List Int) (i : Int) (way : List (List Int)) (x : List Int) : Nat → List Int
  | 0 => x
  | k + 1 => climbS pub ad i k (climbZ pub ad i way x k) (way.getD k [])
theorem Dg.climb {pub ad : List Int} {i : Int} {way : List (List Int)} {x : List Int} (hx : Dg x) : ∀ k, Dg (climbZ pub ad i way x k)
  | 0 => hx
  | k + 1 => by
    unfold climbZ climbS
    split
    · exact Dg.join _ _ _ _
    · exact Dg.join _ _ _ _
set_option maxHeartbeats 4000000 in
theorem climb_good (dx pub : List Int) (na : Option Addr) (n nc : Nat) (way : List (List Int)) (i la tr : Int) (w : World) (hx : Dg dx) (hpub : Dg pub) (hN : DigsAt w na n nc way) (hla : 0 ≤ la ∧ la < 4294967296) (htr : 0 ≤ tr ∧ tr < 18446744073709551616) (hr : rightZ n i = true) (tab : ShaTab w) :
    Calls Tryd.prog 39 #[(.agg (dx.map (Value.int .u8)).toArray), .slice na n nc, .int .i64 i, (.agg (pub.map (Value.int .u8)).toArray), .int .u32 la, .int .u64 tr] w fun e w' => e = .returned (.tuple #[(.agg ((climbZ pub (treeZ la tr) i way dx n).map (Value.int .u8)).toArray), .int .i64 0]) ∧ Below w.heap.size w w' := by
  have HAd := hid (Aw.tree hla htr)
  have HN := hid hN
  have hle := hN.le
  have hmx := hN.max
  have hr2 := hr
  simp only [rightZ, decide_eq_true_eq] at hr2
  have b1 := (Below.refl w.heap.size w).alloc (Nat.le_refl _) (.cells (dx.map (Value.int .u8)).toArray 23 (0, 0))
  have b2 := b1.alloc b1.size (.cells (pub.map (Value.int .u8)).toArray 23 (0, 0))
  have b3 := b2.alloc b2.size (.cells (byteCells 32 []) 23 (0, 0))
  have Kx := hid (((Blk.new (w := w) (n := w.heap.size) rfl (dx.map (Value.int .u8)).toArray 23).old (.cells (pub.map (Value.int .u8)).toArray 23 (0, 0))).old (.cells (byteCells 32 []) 23 (0, 0)))
  have Kp := hid ((Blk.new (w := (w.alloc (.cells (dx.map (Value.int .u8)).toArray 23 (0, 0)))) (n := w.heap.size + 1) (by simp only [World.size_alloc]) (pub.map (Value.int .u8)).toArray 23).old (.cells (byteCells 32 []) 23 (0, 0)))
  have Kr0 := hid (Blk.new (w := ((w.alloc (.cells (dx.map (Value.int .u8)).toArray 23 (0, 0))).alloc (.cells (pub.map (Value.int .u8)).toArray 23 (0, 0)))) (n := w.heap.size + 1 + 1) (by simp only [World.size_alloc]) (byteCells 32 []) 23)
  have Hb := hid b3
  have HzA := hid zsize
  have hbz := b3.size
  have Hbs := hid (show w.heap.size + 1 + 1 + 1 = (((w.alloc (.cells (dx.map (Value.int .u8)).toArray 23 (0, 0))).alloc (.cells (pub.map (Value.int .u8)).toArray 23 (0, 0))).alloc (.cells (byteCells 32 []) 23 (0, 0))).heap.size by simp only [World.size_alloc])
  have Htab := hid tab
  clear b1 b2 b3 tab
  go_enter Tryd.func39, Tryd.ntmps39
  go_wp2_with fail
  refine (tright_b (n : Int) i true hr _).mono ?_
  rintro e w1 ⟨rfl, bw1⟩
  have HBw1 := hid (Below.on Hb.out bw1)
  have hsw1 := HBw1.out.size
  have Kxw1 := hid (Kx.out.below bw1)
  have Kpw1 := hid (Kp.out.below bw1)
  have Kr0w1 := hid (Kr0.out.below bw1)
  clear bw1
  go_wp2_with fail
  refine (tree_list la tr _ htr.1 htr.2).mono ?_
  rintro e w2 ⟨rfl, bw2⟩
  have HBw2 := hid (Below.on HBw1.out bw2)
  have hsw2 := HBw2.out.size
  have Kxw2 := hid (Kxw1.out.below bw2)
  have Kpw2 := hid (Kpw1.out.below bw2)
  have Kr0w2 := hid (Kr0w1.out.below bw2)
  clear bw2
  go_wp2_with (
      refine wpList_store_blk rfl 26 _ _ rfl (w2.heap.size) ((treeZ la tr).map (Value.int .u32)).toArray rfl rfl _ 26 (Blk.new rfl #[.int .u32 0, .int .u32 0, .int .u32 0, .int .u32 0, .int .u32 0, .int .u32 0, .int .u32 0, .int .u32 0] _) 8 sizeAdrs rfl HAd.out.size (ints_one _ _) ?_
      intro w3 hbw3 hkw3
      have HBw3 := hid (hbw3.below (HBw2.out.alloc HBw2.out.size _) (by simp only [World.size_alloc]; omega) (by have := HBw2.out.size; omega))
      have hsw3 := HBw3.out.size
      have Kadw3 := hid hkw3
      have Kxw3 := hid (hbw3.blk (Kxw2.out.old _) (by have := Kxw2.out.lt; omega))
      have Kpw3 := hid (hbw3.blk (Kpw2.out.old _) (by have := Kpw2.out.lt; omega))
      have Kr0w3 := hid (hbw3.blk (Kr0w2.out.old _) (by have := Kr0w2.out.lt; omega))
      clear hbw3 hkw3)
  have Hga := hid (show w.heap.size + 1 + 1 < w2.heap.size from Kr0w2.out.lt)
  have hga := Hga.out
  generalize w2.heap.size = ga at *
  go_loopw [31] (fun c wr => ∃ k : Nat, k ≤ n ∧ c = .int .i64 k ∧ Blk wr (w.heap.size) ((climbZ pub (treeZ la tr) i way dx k).map (Value.int .u8)).toArray 23 ∧ Blk wr (w.heap.size + 1) (pub.map (Value.int .u8)).toArray 23 ∧ Blk wr (w.heap.size + 1 + 1) (byteCells 32 []) 23 ∧ Blk wr ga ((treeZ la tr).map (Value.int .u32)).toArray 26 ∧ Below w.heap.size w wr) (fun c _ => n - (intOf c).toNat)
  case atStart => exact ⟨0, Nat.zero_le _, rfl, Kxw3.out, Kpw3.out, Kr0w3.out, Kadw3.out, HBw3.out⟩
  case round =>
    obtain ⟨k, hk, rfl, kx, kp, kr, ka, bel⟩ := hrel
    have Kxwr := hid kx
    have Kpwr := hid kp
    have Kr0wr := hid kr
    have Kadwr := hid ka
    have HBwr := hid bel
    have hswr := bel.size
    clear kx kp kr ka bel
    by_cases hlt : k < n
    · skip
      have HX := hid (Dg.climb (pub := pub) (ad := treeZ la tr) (i := i) (way := way) hx k)
      have HS := hid (HN.out.get hlt)
      have hc0 : (k : Int) < n := by omega
      have hk16 : (k : Int) ≤ 64 := by omega
      have HNr := HN.out.below HBwr.out
      obtain ⟨xs, xo, rfl, hxs, hcell⟩ := HNr.at_ (by omega)
      have Hc := hid (hcell k hlt)
      have Hst := hid (show (climbZ pub (treeZ la tr) i way dx (k + 1)) = climbS pub (treeZ la tr) i k (climbZ pub (treeZ la tr) i way dx k) (way.getD k []) from rfl)
      clear hcell HNr
      generalize way.getD k [] = s at *
      generalize hX2 : (climbZ pub (treeZ la tr) i way dx (k + 1)) = x2 at *
      generalize (climbZ pub (treeZ la tr) i way dx k) = x1 at *
      go_wp2_with (first
         | (refine wpList_index_digs rfl 28 _ _ rfl Tryd.underlying28 size_digest xs xo n nc rfl _ _ rfl k rfl hlt ?_)
         | (refine wpList_load_mid rfl 23 _ rfl xs (xo + k * 32) rfl _ _ Hc.out Tryd.underlying23 rfl (by rw [List.length_map, HS.out.len]; exact size_digest) ?_)
         | (
            refine wpList_store_blk rfl 23 _ _ rfl (wr.heap.size) (s.map (Value.int .u8)).toArray rfl rfl _ 23 (Blk.new rfl (byteCells 32 []) _) 32 size_digest HzA.out HS.out.size (ints_one _ _) ?_
            intro w21 hbw21 hkw21
            have HBw21 := hid (hbw21.below (HBwr.out.alloc HBwr.out.size _) (by simp only [World.size_alloc]; omega) (by have := HBwr.out.size; omega))
            have hsw21 := HBw21.out.size
            have Ksw21 := hid hkw21
            have Kxw21 := hid (hbw21.blk (Kxwr.out.old _) (by have := Kxwr.out.lt; omega))
            have Kpw21 := hid (hbw21.blk (Kpwr.out.old _) (by have := Kpwr.out.lt; omega))
            have Kr0w21 := hid (hbw21.blk (Kr0wr.out.old _) (by have := Kr0wr.out.lt; omega))
            have Kadw21 := hid (hbw21.blk (Kadwr.out.old _) (by have := Kadwr.out.lt; omega))
            clear hbw21 hkw21))
      have hlx := Kxw21.out.lt
      have hlp := Kpw21.out.lt
      have hlr0 := Kr0w21.out.lt
      have hlad := Kadw21.out.lt
      have hls := Ksw21.out.lt
      have hq16 : 0 ≤ i / 2 ^ k ∧ i / 2 ^ k < 16 := by
        have hp : (0 : Int) < 2 ^ k := Int.pow_pos (by omega)
        have h16 : i < 16 := by
          rcases (show n = 1 ∨ n = 2 ∨ n = 3 ∨ n = 4 by omega) with rfl | rfl | rfl | rfl <;> simp at hr2 <;> omega
        exact ⟨Int.ediv_nonneg (by omega) (by omega), Int.lt_of_le_of_lt (Int.ediv_le_self _ (by omega)) h16⟩
      generalize hq : i / 2 ^ k = q at *
      refine wp_pair (by kernel_rfl) (by kernel_rfl) (fun _ _ d _ _ h => by cases d <;> exact h) _ _ _ _ _ _ rfl rfl rfl rfl rfl rfl 23 _ _ _ _ _ _ rfl rfl rfl rfl rfl rfl rfl rfl rfl rfl rfl rfl (by simp) (w.heap.size) (wr.heap.size) (x1.map (Value.int .u8)).toArray (s.map (Value.int .u8)).toArray rfl rfl _ _ Kxw21.out Ksw21.out _ Tryd.underlying23 rfl 32 size_digest HX.out.size HS.out.size (ints_one _ _) (ints_one _ _) (byteCells 32 []) HzA.out (fun A W => by go_simp; rfl) (fun A W => by go_simp; rfl) (fun b c => ⟨rfl, rfl, rfl, rfl⟩) ?_
      intro gb gc w22 hb22 hgb hgc hbc kb kc
      simp only [pairF, Act.put, List.setIfInBounds_toArray, List.set_cons_zero, List.set_cons_succ]
      have HBw22 := hid (Below.on HBw21.out hb22)
      have hsw22 := HBw22.out.size
      have Kxw22 := hid (Kxw21.out.below hb22)
      have Kpw22 := hid (Kpw21.out.below hb22)
      have Kr0w22 := hid (Kr0w21.out.below hb22)
      have Kadw22 := hid (Kadw21.out.below hb22)
      have Ksw22 := hid (Ksw21.out.below hb22)
      have Klw22 := hid kb
      have Krw22 := hid kc
      clear hb22 kb kc
      by_cases hodd : q % 2 = 1
      · skip
        go_wp2_with fail
        refine FlowB.wp_region_butIn [gb, gc] (fun wz => Blk wz (gb) (x1.map (Value.int .u8)).toArray 23 ∧ Blk wz (gc) (s.map (Value.int .u8)).toArray 23) 4 [0, 1] [] [(.c 2, [], []), (.c 3, [], [])] (by kernel_rfl) (by kernel_rfl) ⟨Klw22.out, Krw22.out⟩ (fun _ _ h hb => ⟨h.1.below hb, h.2.below hb⟩) ?_
        apply Exists.intro
        refine ⟨fun w0 hb0 hF0 => ?_, ?_⟩
        · skip
          have x0 : ∀ w', (∃ x : Ext w0, w' = x.at_) → ∃ T, Blk w' (wr.heap.size) (s.map (Value.int .u8)).toArray T := fun w' ⟨x, hx⟩ => ⟨_, hx ▸ (hb0.blk Ksw22.out (by simp only [List.mem_cons, List.not_mem_nil, or_false]; omega)).below x.same⟩
          have x1 : ∀ w', (∃ x : Ext w0, w' = x.at_) → ∃ T, Blk w' (w.heap.size) (x1.map (Value.int .u8)).toArray T := fun w' ⟨x, hx⟩ => ⟨_, hx ▸ (hb0.blk Kxw22.out (by simp only [List.mem_cons, List.not_mem_nil, or_false]; omega)).below x.same⟩
          simp only [pick, List.getElem?_toArray, List.getElem?_cons_succ, List.getElem?_cons_zero, Option.toList_some, List.cons_append, List.nil_append]
          repeat (first | (go_big_quiet_want; refine quiet_load_blk 23 _ rfl (wr.heap.size) rfl _ x0 _ Tryd.underlying23 rfl 32 size_digest HS.out.size ?_; go_big_quiet_on; simp only [Act.put, List.setIfInBounds_toArray, List.set_cons_zero, List.set_cons_succ]) | (go_big_quiet_want; refine quiet_load_blk 23 _ rfl (w.heap.size) rfl _ x1 _ Tryd.underlying23 rfl 32 size_digest HX.out.size ?_; go_big_quiet_on; simp only [Act.put, List.setIfInBounds_toArray, List.set_cons_zero, List.set_cons_succ]) | go_big_quiet_step (fail))
          exact wpQuiet_nil rfl
        refine FlowB.AlChk.nil ?_
        refine FlowB.Walk.skips rfl (fun wz => Blk wz (gb) (s.map (Value.int .u8)).toArray 23 ∧ Blk wz (gc) (s.map (Value.int .u8)).toArray 23) (fun _ _ h hb => ⟨h.1.below hb, h.2.below hb⟩) rfl (fun w1 hb1 hF1 hG1 => ?_) ?_
        · exact FlowB.store_skips 23 _ _ rfl (gb) (s.map (Value.int .u8)).toArray rfl rfl _ 23 hG1.1 32 size_digest HX.out.size HS.out.size (ints_one _ _) (by simp) (fun w2 h2 h3 => ⟨h3, h2.blk hG1.2 (by omega)⟩)
        intro w1 hb1 hF1
        apply Exists.intro
        refine ⟨fun w2 hb2 hF2 => wpQuiet_nil rfl, ?_⟩
        refine FlowB.AlChk.nil ?_
        refine FlowB.Walk.skips rfl (fun wz => Blk wz (gb) (s.map (Value.int .u8)).toArray 23 ∧ Blk wz (gc) (x1.map (Value.int .u8)).toArray 23) (fun _ _ h hb => ⟨h.1.below hb, h.2.below hb⟩) rfl (fun w1 hb1 hF1 hG1 => ?_) ?_
        · exact FlowB.store_skips 23 _ _ rfl (gc) (x1.map (Value.int .u8)).toArray rfl rfl _ 23 hG1.2 32 size_digest HS.out.size HX.out.size (ints_one _ _) (by simp) (fun w2 h2 h3 => ⟨h2.blk hG1.1 (by omega), h3⟩)
        intro w1 hb1 hF1
        apply Exists.intro
        refine ⟨fun w2 hb2 hF2 => wpQuiet_nil rfl, ?_⟩
        refine FlowB.AlChk.nil ?_
        refine FlowB.Walk.fin fun w22 hw22 _ hGw22 => ?_
        simp only [List.drop_succ_cons, List.drop_zero]
        have HBw22 := hid (hw22.below HBw22.out HBw22.out.size (by simp only [List.mem_cons, List.not_mem_nil, or_false, forall_eq_or_imp, forall_eq]; omega))
        have HGw22 := hid hGw22
        have Kxw22 := hid (hw22.blk Kxw22.out (by simp only [List.mem_cons, List.not_mem_nil, or_false]; have := Kxw22.out.lt; omega))
        have Kpw22 := hid (hw22.blk Kpw22.out (by simp only [List.mem_cons, List.not_mem_nil, or_false]; have := Kpw22.out.lt; omega))
        have Kr0w22 := hid (hw22.blk Kr0w22.out (by simp only [List.mem_cons, List.not_mem_nil, or_false]; have := Kr0w22.out.lt; omega))
        have Kadw22 := hid (hw22.blk Kadw22.out (by simp only [List.mem_cons, List.not_mem_nil, or_false]; have := Kadw22.out.lt; omega))
        have Ksw22 := hid (hw22.blk Ksw22.out (by simp only [List.mem_cons, List.not_mem_nil, or_false]; have := Ksw22.out.lt; omega))
        have Klw22 := hid HGw22.out.1
        have Krw22 := hid HGw22.out.2
        clear hw22 hGw22
        simp only [Act.put]
        have hx2 : x2 = joinZ s x1 pub (setAd (treeZ la tr) k (q / 2) 0) := by
          rw [Hst.out]
          unfold climbS
          rw [hq, if_pos hodd]
        have HX2 := hid (show Dg x2 by rw [hx2]; exact Dg.join _ _ _ _)
        have C := hid (show ∀ W : World, ShaTab W → Calls Tryd.prog 96 #[(.agg (s.map (Value.int .u8)).toArray), (.agg (x1.map (Value.int .u8)).toArray), (.agg (pub.map (Value.int .u8)).toArray), (.agg ((treeZ la tr).map (Value.int .u32)).toArray), .int .i64 k, .int .i64 (q / 2)] W (fun e w' => e = .returned (.agg (x2.map (Value.int .u8)).toArray) ∧ Below W.heap.size W w') from fun W t => by
          rw [hx2]
          exact tjoin_any s x1 pub (treeZ la tr) k (q / 2) W HS.out HX.out hpub HAd.out (by omega) (by omega) t)
        clear hx2
        go_wp2_with (first
           | (refine wpList_load_blk rfl 23 _ rfl (gb) rfl _ 23 Klw22.out _ Tryd.underlying23 rfl 32 size_digest HS.out.size ?_)
           | (refine wpList_load_blk rfl 23 _ rfl (gc) rfl _ 23 Krw22.out _ Tryd.underlying23 rfl 32 size_digest HX.out.size ?_)
           | (refine wpList_load_blk rfl 23 _ rfl (w.heap.size + 1) rfl _ 23 Kpw22.out _ Tryd.underlying23 rfl 32 size_digest hpub.size ?_)
           | (refine wpList_load_blk rfl 26 _ rfl (ga) rfl _ 26 Kadw22.out _ Tryd.underlying26 rfl 8 sizeAdrs HAd.out.size ?_))
        refine (C.out _ (Htab.out.below HBw22.out)).mono ?_
        rintro e w23 ⟨rfl, bw23⟩
        have HBw23 := hid (Below.on HBw22.out bw23)
        have hsw23 := HBw23.out.size
        have Kxw23 := hid (Kxw22.out.below bw23)
        have Kpw23 := hid (Kpw22.out.below bw23)
        have Kr0w23 := hid (Kr0w22.out.below bw23)
        have Kadw23 := hid (Kadw22.out.below bw23)
        have Ksw23 := hid (Ksw22.out.below bw23)
        have Klw23 := hid (Klw22.out.below bw23)
        have Krw23 := hid (Krw22.out.below bw23)
        clear bw23
        go_wp2_with (
            refine wpList_store_blk rfl 23 _ _ rfl (w.heap.size) (x2.map (Value.int .u8)).toArray rfl rfl _ 23 Kxw23.out 32 size_digest HX.out.size HX2.out.size (ints_one _ _) ?_
            intro w30 hb30 hk30
            have HBw30 := hid (hb30.below HBw23.out HBw23.out.size (by omega))
            have Kxw30 := hid hk30
            have Kpw30 := hid (hb30.blk Kpw23.out (by omega))
            have Kr0w30 := hid (hb30.blk Kr0w23.out (by omega))
            have Kadw30 := hid (hb30.blk Kadw23.out (by omega))
            clear hb30 hk30)
        exact ⟨⟨k + 1, by omega, by first | rfl | simp, by rw [hX2]; exact Kxw30.out, Kpw30.out, Kr0w30.out, Kadw30.out, HBw30.out⟩, by simp [intOf]; omega⟩
      · skip
        have hx2 : x2 = joinZ x1 s pub (setAd (treeZ la tr) k (q / 2) 0) := by
          rw [Hst.out]
          unfold climbS
          rw [hq, if_neg hodd]
        have HX2 := hid (show Dg x2 by rw [hx2]; exact Dg.join _ _ _ _)
        have C := hid (show ∀ W : World, ShaTab W → Calls Tryd.prog 96 #[(.agg (x1.map (Value.int .u8)).toArray), (.agg (s.map (Value.int .u8)).toArray), (.agg (pub.map (Value.int .u8)).toArray), (.agg ((treeZ la tr).map (Value.int .u32)).toArray), .int .i64 k, .int .i64 (q / 2)] W (fun e w' => e = .returned (.agg (x2.map (Value.int .u8)).toArray) ∧ Below W.heap.size W w') from fun W t => by
          rw [hx2]
          exact tjoin_any x1 s pub (treeZ la tr) k (q / 2) W HX.out HS.out hpub HAd.out (by omega) (by omega) t)
        clear hx2
        go_wp2_with (first
           | (refine wpList_load_blk rfl 23 _ rfl (gb) rfl _ 23 Klw22.out _ Tryd.underlying23 rfl 32 size_digest HX.out.size ?_)
           | (refine wpList_load_blk rfl 23 _ rfl (gc) rfl _ 23 Krw22.out _ Tryd.underlying23 rfl 32 size_digest HS.out.size ?_)
           | (refine wpList_load_blk rfl 23 _ rfl (w.heap.size + 1) rfl _ 23 Kpw22.out _ Tryd.underlying23 rfl 32 size_digest hpub.size ?_)
           | (refine wpList_load_blk rfl 26 _ rfl (ga) rfl _ 26 Kadw22.out _ Tryd.underlying26 rfl 8 sizeAdrs HAd.out.size ?_))
        refine (C.out _ (Htab.out.below HBw22.out)).mono ?_
        rintro e w22 ⟨rfl, bw22⟩
        have HBw22 := hid (Below.on HBw22.out bw22)
        have hsw22 := HBw22.out.size
        have Kxw22 := hid (Kxw22.out.below bw22)
        have Kpw22 := hid (Kpw22.out.below bw22)
        have Kr0w22 := hid (Kr0w22.out.below bw22)
        have Kadw22 := hid (Kadw22.out.below bw22)
        have Ksw22 := hid (Ksw22.out.below bw22)
        have Klw22 := hid (Klw22.out.below bw22)
        have Krw22 := hid (Krw22.out.below bw22)
        clear bw22
        go_wp2_with (
            refine wpList_store_blk rfl 23 _ _ rfl (w.heap.size) (x2.map (Value.int .u8)).toArray rfl rfl _ 23 Kxw22.out 32 size_digest HX.out.size HX2.out.size (ints_one _ _) ?_
            intro w30 hb30 hk30
            have HBw30 := hid (hb30.below HBw22.out HBw22.out.size (by omega))
            have Kxw30 := hid hk30
            have Kpw30 := hid (hb30.blk Kpw22.out (by omega))
            have Kr0w30 := hid (hb30.blk Kr0w22.out (by omega))
            have Kadw30 := hid (hb30.blk Kadw22.out (by omega))
            clear hb30 hk30)
        exact ⟨⟨k + 1, by omega, by first | rfl | simp, by rw [hX2]; exact Kxw30.out, Kpw30.out, Kr0w30.out, Kadw30.out, HBw30.out⟩, by simp [intOf]; omega⟩
    · skip
      have hkn : k = n := by omega
      subst hkn
      have HX := hid (Dg.climb (pub := pub) (ad := treeZ la tr) (i := i) (way := way) hx k)
      generalize hX1 : (climbZ pub (treeZ la tr) i way dx k) = x1 at *
      go_wp2_with (first
         | (refine wpList_load_blk rfl 23 _ rfl (w.heap.size) rfl _ 23 Kxwr.out _ Tryd.underlying23 rfl 32 size_digest HX.out.size ?_)
         | (
          refine wpList_store_blk rfl 23 _ _ rfl (w.heap.size + 1 + 1) (x1.map (Value.int .u8)).toArray rfl rfl _ 23 Kr0wr.out 32 size_digest HzA.out HX.out.size (ints_one _ _) ?_
          intro w9 hb9 hk9
          have HB9 := hid (hb9.below HBwr.out HBwr.out.size (by omega))
          have HK9 := hid hk9
          clear hb9 hk9))
      exact bodyPost_ret (v := .tuple #[(.agg (x1.map (Value.int .u8)).toArray), .int .i64 0]) (results_blk_tmp Tryd.results39 _ (w.heap.size + 1 + 1) rfl _ rfl _ 23 HK9.out _ Tryd.underlying23 rfl 32 size_digest HX.out.size) rfl ⟨by rw [hX1], HB9.out⟩
end Go.Proofs.YtjkfbeillmeomaaDoor
namespace Go.Proofs.YtjkfbeillmeomaaDoor
set_option maxRecDepth 100000
open Go.ChangeShapes Go.WideShapes Go.ChangeAt Go.RowKit
end Go.Proofs.YtjkfbeillmeomaaDoor
namespace Go.Proofs.YtjkfbeillmeomaaDoor
set_option maxRecDepth 100000
open Go.ChangeShapes Go.WideShapes Go.ChangeAt Go.RowKit
section
variable {P : Program} {w : World}
theorem results_blk_tmp2 {fn : Func} {p u x : Tmp} {ty : TypeId} (h : fn.results = #[.cell p ty, .tmp u, .tmp x]) (tmps : Array Value) (b : Nat) (hp : tmps.getD p undef = .pointer (some ⟨b, 0, none⟩)) (v v2 : Value) (hv : tmps.getD u undef = v) (hv2 : tmps.getD x undef = v2) (cs : Array Value) (T : TypeId) (hk : Blk w b cs T)
    (d : TypeDesc) (hu : P.underlying ty = some d) (hd : d.isRow = true) (n : Nat) (hi : (P.info? ty).map (·.size) = some n) (hs : cs.size = n) : (results fn tmps).run P w = .ok (.tuple #[.agg cs, v, v2]) w := by
  have hp' : tmps[p]?.getD undef = .pointer (some ⟨b, 0, none⟩) := by simpa using hp
  have hv' : tmps[u]?.getD undef = v := by simpa using hv
  have hv2' : tmps[x]?.getD undef = v2 := by simpa using hv2
  have hl := run_loadVar_row (P := P) w b T ty cs (0, 0) d hk hu (by cases d <;> simp_all) (by rw [hi, hs])
  simp [results, h, hp', hv', hv2', asAddr, hl]
end
def d1 : List Int := 1 :: List.replicate 31 0
def d2 : List Int := 2 :: List.replicate 31 0
end Go.Proofs.YtjkfbeillmeomaaDoor
namespace Go.Proofs.YtjkfbeillmeomaaDoor
set_option maxRecDepth 100000
open Go.ChangeShapes Go.WideShapes Go.ChangeAt Go.RowKit
end Go.Proofs.YtjkfbeillmeomaaDoor
