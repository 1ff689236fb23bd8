/-
  Put together, as far as wanted: VPClimb VPWots VPWotsK VPStack VPBuild VHyper VHyper2 VHyper3 VHyper4 VSig VSigF VSigG VSigH.
-/
import Derived.Test.YtkakoiaahgchmaaGreatDoorVX3
namespace Go.Proofs.YtkakoiaahgchmaaGreatDoor
set_option maxRecDepth 100000
open Go.RowKit
section
variable {P : Program} {ops : Array Oper} {Q : Exit → Act → World → Prop}
theorem wpOp_val {i : Nat} {o : Oper} {K : Act → World → Prop} {a : Act} {w w' : World} {v : Value} (hi : ops[i]? = some o) (hg : o.guard = none) (hr : (execOp a.eval o).run P w = .ok (.value v) w') (h : K (a.put o.dst v) w') : wpOp P ops Q i K a w := by
  unfold wpOp
  simp only [hi]
  rw [if_pos (by unfold Region.wanted; rw [hg])]
  left
  unfold Oper.wp
  rw [hr, Oper.upon_value]
  exact h
theorem wpOp_skips {i : Nat} {o : Oper} {K : Act → World → Prop} {a : Act} {w w' : World} (hi : ops[i]? = some o) (hg : o.guard = none) (hd : o.dst = none) (hr : (execOp a.eval o).run P w = .ok .skip w') (h : K a w') : wpOp P ops Q i K a w := by
  unfold wpOp
  simp only [hi]
  rw [if_pos (by unfold Region.wanted; rw [hg])]
  left
  unfold Oper.wp
  rw [hr]
  show K (a.put o.dst undef) w'
  rw [hd]
  exact h
/-- What a load of a whole variable comes to. -/
theorem exec_load_blk {o : Oper} {A : Act} {w : World} (ty : TypeId) (x : Operand) (ho : o.op = .load ty x) (b : Nat) (hx : A.eval x = .pointer (some ⟨b, 0, none⟩)) (cs : Array Value) (T : TypeId) (hb : Blk w b cs T) (d : TypeDesc) (hu : P.underlying ty = some d) (hd : d.isRow = true) (n : Nat) (hi : (P.info? ty).map (·.size) = some n) (hs : cs.size = n) :
    (execOp A.eval o).run P w = .ok (.value (.agg cs)) w := by
  unfold execOp
  simp only [ho, hx, Instr.loadAt, Instr.sureAddr, Sem.run_bind, Sem.run_pure, Result.andThen_ok, run_loadVar_mid w b 0 ty cs.toList d hb.rangeAt hu hd (by rw [hi]; simp [hs])]
end
def pl (l : List Nat) : Array Bool := l.foldl (fun x i => x.setIfInBounds i true) (Array.replicate 6 false)
/-- Two loads, two variables, two stores; the second load may come up behind the first store. -/
def pairB (l : List Oper) : Bool :=
  Region.noSelect l.toArray && l.length == 6 && Region.free .any l.toArray (pl []) 0 && Region.free .any l.toArray (pl [0]) 1 &&
  (Region.ready .any l.toArray (pl [])).contains 0 && (Region.ready .any l.toArray (pl [0])).contains 1 && Region.ready .any l.toArray (pl [0, 1]) == [2, 3] &&
  Region.ready .any l.toArray (pl [0, 1, 2]) == [3] && Region.ready .any l.toArray (pl [0, 1, 3]) == [2] &&
  [[0, 1, 2, 3], [0, 1, 3, 2]].all fun m => Region.ready .any l.toArray (pl m) == [4] && Region.ready .any l.toArray (pl (m ++ [4])) == [5] && Region.ready .any l.toArray (pl (m ++ [4, 5])) == []
def pairF (a : Act) (o0 o1 o2 o3 : Oper) (X Y : Array Value) (b c : Nat) : Act :=
  (((a.put o0.dst (.agg X)).put o1.dst (.agg Y)).put o2.dst (.pointer (some ⟨b, 0, none⟩))).put o3.dst (.pointer (some ⟨c, 0, none⟩))
theorem wp_pair {P : Program} {id : Nat} {Q : Exit → Act → World → Prop} {a : Act} {w : World} {l : List Oper} (hm : P.follows .mixedOrders = true) (hB : pairB l = true) (hQ : ∀ c (a : Act) d v w, Q (.panic c) (a.put d v) w → Q (.panic c) a w)
    (o0 o1 o2 o3 o4 o5 : Oper) (h0 : l[0]? = some o0) (h1 : l[1]? = some o1) (h2 : l[2]? = some o2) (h3 : l[3]? = some o3) (h4 : l[4]? = some o4) (h5 : l[5]? = some o5) (ty : TypeId) (x y p4 q4 p5 q5 : Operand)
    (e0 : o0.op = .load ty x) (e1 : o1.op = .load ty y) (e4 : o4.op = .store ty p4 q4) (e5 : o5.op = .store ty p5 q5)
    (g0 : o0.guard = none) (g1 : o1.guard = none) (g2 : o2.guard = none) (g3 : o3.guard = none) (g4 : o4.guard = none) (g5 : o5.guard = none) (n4 : o4.dst = none) (n5 : o5.dst = none) (hne : ∀ d, o2.dst = some d → o3.dst ≠ some d)
    (bx bz : Nat) (X Y : Array Value) (hx : a.eval x = .pointer (some ⟨bx, 0, none⟩)) (hy : (a.put o0.dst (.agg X)).eval y = .pointer (some ⟨bz, 0, none⟩)) (T1 T2 : TypeId) (kx : Blk w bx X T1) (ky : Blk w bz Y T2)
    (d : TypeDesc) (hu : P.underlying ty = some d) (hd : d.isRow = true) (n : Nat) (hi : (P.info? ty).map (·.size) = some n) (sX : X.size = n) (sY : Y.size = n) (cX : X.all (·.oneCell') = true) (cY : Y.all (·.oneCell') = true)
    (Z : Array Value) (sZ : Z.size = n)
    (a2 : ∀ (A : Act) W, (execOp A.eval o2).run P W = .ok (.value (.pointer (some ⟨W.heap.size, 0, none⟩))) (W.alloc (.cells Z ty (0, 0))))
    (a3 : ∀ (A : Act) W, (execOp A.eval o3).run P W = .ok (.value (.pointer (some ⟨W.heap.size, 0, none⟩))) (W.alloc (.cells Z ty (0, 0))))
    (hev : ∀ b c, (pairF a o0 o1 o2 o3 X Y b c).eval p4 = .pointer (some ⟨b, 0, none⟩) ∧ (pairF a o0 o1 o2 o3 X Y b c).eval q4 = .agg X ∧ (pairF a o0 o1 o2 o3 X Y b c).eval p5 = .pointer (some ⟨c, 0, none⟩) ∧ (pairF a o0 o1 o2 o3 X Y b c).eval q5 = .agg Y)
    (hfin : ∀ b c w', Below w.heap.size w w' → w.heap.size ≤ b → w.heap.size ≤ c → b ≠ c → Blk w' b X ty → Blk w' c Y ty → wpList P l.toArray Q [] (pairF a o0 o1 o2 o3 X Y b c) w') : (Code.region id l.toArray true).wp P Q a w := by
  unfold pairB at hB
  simp only [Bool.and_eq_true, beq_iff_eq, List.all_cons, List.all_nil, Bool.and_true] at hB
  obtain ⟨⟨⟨⟨⟨⟨⟨⟨⟨hs, hl⟩, f0⟩, f1⟩, r0⟩, r1⟩, r01⟩, r012⟩, r013⟩, ⟨⟨rA, rA4⟩, rA5⟩, ⟨rB, rB4⟩, rB5⟩ := hB
  have size6 : l.toArray.size = 6 := by simpa using hl
  refine wp_region_held (S := fun W => Below w.heap.size w W) hm ?_
  rw [size6]
  have h0' : l.toArray[0]? = some o0 := by simpa using h0
  have h1' : l.toArray[1]? = some o1 := by simpa using h1
  have h2' : l.toArray[2]? = some o2 := by simpa using h2
  have h3' : l.toArray[3]? = some o3 := by simpa using h3
  have h4' : l.toArray[4]? = some o4 := by simpa using h4
  have h5' : l.toArray[5]? = some o5 := by simpa using h5
  have hw : ∀ (o : Oper) (A : Act), o.guard = none → Region.wanted o (yielded l.toArray A.tmps) = true := fun o A hg => by unfold Region.wanted; rw [hg]
  have tail : ∀ L b c W, Region.ready .any l.toArray L = [4] → Region.ready .any l.toArray (L.setIfInBounds 4 true) = [5] → Region.ready .any l.toArray ((L.setIfInBounds 4 true).setIfInBounds 5 true) = [] → Below w.heap.size w W → w.heap.size ≤ b → w.heap.size ≤ c → b ≠ c → Blk W b Z ty → Blk W c Z ty →
      wpAnyH P .any l.toArray Q (fun W => Below w.heap.size w W) 2 L (pairF a o0 o1 o2 o3 X Y b c) W := by
    intro L b c W q4' q5' q6' hW hb hc hbc kb kc
    obtain ⟨v1, v2, v3, v4⟩ := hev b c
    refine wpAnyH_all (rs := [4]) q4' (by simp) ?_
    intro i hi'
    obtain rfl : i = 4 := by simpa using hi'
    obtain ⟨w1, s1, s2, s3⟩ := FlowB.exec_store_blk ty p4 q4 e4 b X v1 v2 Z ty kb n hi sZ sX cX
    have hW1 := s2.below hW hW.size hb
    have kc1 := s2.blk kc (Ne.symm hbc)
    refine wpOp_skips h4' g4 n4 s1 ⟨hW1, ?_⟩
    refine wpAnyH_all (rs := [5]) q5' (by simp) ?_
    intro i hi'
    obtain rfl : i = 5 := by simpa using hi'
    obtain ⟨w2, s4, s5, s6⟩ := FlowB.exec_store_blk ty p5 q5 e5 c Y v3 v4 Z ty kc1 n hi sZ sY cY
    have hW2 := s5.below hW1 hW1.size hc
    refine wpOp_skips h5' g5 n5 s4 ⟨hW2, ?_⟩
    exact wpAnyH_done q6' (hfin b c w2 hW2 hb hc hbc (s5.blk s3 hbc) s6) _
  have hS0 : Below w.heap.size w w.drew := (Below.refl _ _).drew
  refine wpAnyH_take (i := 0) (oi := o0) (v := .agg X) h0' hs f0 r0 (fun c a w h => hQ c a _ _ w h) (.inl ⟨hw _ _ g0, fun W hW => exec_load_blk ty x e0 bx hx X T1 (kx.below hW) d hu hd n hi sX⟩) hS0 ?_
  refine wpAnyH_take (i := 1) (oi := o1) (v := .agg Y) h1' hs f1 r1 (fun c a w h => hQ c a _ _ w h) (.inl ⟨hw _ _ g1, fun W hW => exec_load_blk ty y e1 bz hy Y T2 (ky.below hW) d hu hd n hi sY⟩) hS0 ?_
  refine wpAnyH_all (rs := [2, 3]) r01 (by simp) ?_
  intro i hi'
  have hdr : w.drew.heap.size = w.heap.size := rfl
  have b1 : Below w.heap.size w (w.drew.alloc (.cells Z ty (0, 0))) := hS0.alloc hS0.size _
  have b2 : Below w.heap.size w ((w.drew.alloc (.cells Z ty (0, 0))).alloc (.cells Z ty (0, 0))) := b1.alloc b1.size _
  have k1 : Blk ((w.drew.alloc (.cells Z ty (0, 0))).alloc (.cells Z ty (0, 0))) w.heap.size Z ty := (Blk.new rfl Z ty).old _
  have k2 : Blk ((w.drew.alloc (.cells Z ty (0, 0))).alloc (.cells Z ty (0, 0))) (w.drew.alloc (.cells Z ty (0, 0))).heap.size Z ty := Blk.new rfl Z ty
  have hsz : (w.drew.alloc (.cells Z ty (0, 0))).heap.size = w.heap.size + 1 := by rw [World.size_alloc, hdr]
  have hi'' : i = 2 ∨ i = 3 := by simpa using hi'
  rcases hi'' with rfl | rfl
  · refine wpOp_val h2' g2 (a2 _ _) ⟨b1, ?_⟩
    refine wpAnyH_all (rs := [3]) r012 (by simp) ?_
    intro i hi'
    obtain rfl : i = 3 := by simpa using hi'
    refine wpOp_val h3' g3 (a3 _ _) ⟨b2, ?_⟩
    exact tail _ w.heap.size (w.drew.alloc (.cells Z ty (0, 0))).heap.size _ rA rA4 rA5 b2 (Nat.le_refl _) (by omega) (by omega) k1 k2
  · refine wpOp_val h3' g3 (a3 _ _) ⟨b1, ?_⟩
    refine wpAnyH_all (rs := [2]) r013 (by simp) ?_
    intro i hi'
    obtain rfl : i = 2 := by simpa using hi'
    refine wpOp_val h2' g2 (a2 _ _) ⟨b2, ?_⟩
    have := tail _ (w.drew.alloc (.cells Z ty (0, 0))).heap.size w.heap.size _ rB rB4 rB5 b2 (by omega) (Nat.le_refl _) (by omega) k2 k1
    unfold pairF at this
    rw [Act.put_comm _ _ _ hne] at this
    exact this
end Go.Proofs.YtkakoiaahgchmaaGreatDoor
namespace Go.Proofs.YtkakoiaahgchmaaGreatDoor
set_option maxRecDepth 100000
open Go.ChangeShapes Go.WideShapes Go.ChangeAt Go.RowKit
/-- May there be so many levels, and such a leaf? -/
def rightZ (n i : Int) : Bool := decide (1 ≤ n ∧ n ≤ 4 ∧ 0 ≤ i ∧ i < 2 ^ n.toNat)
set_option maxHeartbeats 4000000 in
theorem tright_any (n i : Int) (w : World) :
    Calls Tryz.prog 130 #[.int .i64 n, .int .i64 i] w fun e w' => e = .returned (.bool (rightZ n i)) ∧ w' = w := by
  by_cases h1 : 1 ≤ n
  · by_cases h2 : n ≤ 4
    · rcases (show n = 1 ∨ n = 2 ∨ n = 3 ∨ n = 4 by omega) with rfl | rfl | rfl | rfl
      · by_cases h3 : 0 ≤ i
        · by_cases h4 : i < 2
          · have h4b : ¬ 2 ≤ i := by omega
            go_enter Tryz.func130, Tryz.ntmps130
            go_wp2
            go_returns
            exact ⟨by simp [rightZ, *] <;> omega, rfl⟩
          · have h4b : 2 ≤ i := by omega
            go_enter Tryz.func130, Tryz.ntmps130
            go_wp2
            go_returns
            exact ⟨by simp [rightZ, *] <;> omega, rfl⟩
        · have h3b : i < 0 := by omega
          go_enter Tryz.func130, Tryz.ntmps130
          go_wp2
          go_returns
          exact ⟨by simp [rightZ, *] <;> omega, rfl⟩
      · by_cases h3 : 0 ≤ i
        · by_cases h4 : i < 4
          · have h4b : ¬ 4 ≤ i := by omega
            go_enter Tryz.func130, Tryz.ntmps130
            go_wp2
            go_returns
            exact ⟨by simp [rightZ, *] <;> omega, rfl⟩
          · have h4b : 4 ≤ i := by omega
            go_enter Tryz.func130, Tryz.ntmps130
            go_wp2
            go_returns
            exact ⟨by simp [rightZ, *] <;> omega, rfl⟩
        · have h3b : i < 0 := by omega
          go_enter Tryz.func130, Tryz.ntmps130
          go_wp2
          go_returns
          exact ⟨by simp [rightZ, *] <;> omega, rfl⟩
      · by_cases h3 : 0 ≤ i
        · by_cases h4 : i < 8
          · have h4b : ¬ 8 ≤ i := by omega
            go_enter Tryz.func130, Tryz.ntmps130
            go_wp2
            go_returns
            exact ⟨by simp [rightZ, *] <;> omega, rfl⟩
          · have h4b : 8 ≤ i := by omega
            go_enter Tryz.func130, Tryz.ntmps130
            go_wp2
            go_returns
            exact ⟨by simp [rightZ, *] <;> omega, rfl⟩
        · have h3b : i < 0 := by omega
          go_enter Tryz.func130, Tryz.ntmps130
          go_wp2
          go_returns
          exact ⟨by simp [rightZ, *] <;> omega, rfl⟩
      · by_cases h3 : 0 ≤ i
        · by_cases h4 : i < 16
          · have h4b : ¬ 16 ≤ i := by omega
            go_enter Tryz.func130, Tryz.ntmps130
            go_wp2
            go_returns
            exact ⟨by simp [rightZ, *] <;> omega, rfl⟩
          · have h4b : 16 ≤ i := by omega
            go_enter Tryz.func130, Tryz.ntmps130
            go_wp2
            go_returns
            exact ⟨by simp [rightZ, *] <;> omega, rfl⟩
        · have h3b : i < 0 := by omega
          go_enter Tryz.func130, Tryz.ntmps130
          go_wp2
          go_returns
          exact ⟨by simp [rightZ, *] <;> omega, rfl⟩
    · have h2b : 4 < n := by omega
      go_enter Tryz.func130, Tryz.ntmps130
      go_wp2
      go_returns
      exact ⟨by simp [rightZ, *] <;> omega, rfl⟩
  · have h1b : n < 1 := by omega
    go_enter Tryz.func130, Tryz.ntmps130
    go_wp2
    go_returns
    exact ⟨by simp [rightZ, *] <;> omega, rfl⟩
/-- A tree's address. -/
def treeZ (la tr : Int) : List Int := [la, tr / 4294967296, tr % 4294967296, 2, 0, 0, 0, 0]
theorem Aw.tree {la tr : Int} (hl : 0 ≤ la ∧ la < 4294967296) (ht : 0 ≤ tr ∧ tr < 18446744073709551616) : Aw (treeZ la tr) := ⟨rfl, fun x hx => by
  simp only [treeZ, List.mem_cons, List.not_mem_nil, or_false] at hx
  omega⟩
theorem tree_list (la tr : Int) (w : World) (h0 : 0 ≤ tr) (h1 : tr < 18446744073709551616) :
    Calls Tryz.prog 131 #[.int .u32 la, .int .u64 tr] w fun e w' => e = .returned (.agg ((treeZ la tr).map (Value.int .u32)).toArray) ∧ Below w.heap.size w w' := tree_any la tr w h0 h1
set_option maxHeartbeats 4000000 in
theorem tjoin_any (da db pub ad : List Int) (lev num : Int) (w : World) (hda : Dg da) (hdb : Dg db) (hpub : Dg pub) (had : Aw ad) (hl : 0 ≤ lev ∧ lev < 4294967296) (hn : 0 ≤ num ∧ num < 4294967296) (tab : ShaTab w) :
    Calls Tryz.prog 132 #[(.agg (da.map (Value.int .u8)).toArray), (.agg (db.map (Value.int .u8)).toArray), (.agg (pub.map (Value.int .u8)).toArray), (.agg (ad.map (Value.int .u32)).toArray), .int .i64 lev, .int .i64 num] w fun e w' => e = .returned (.agg ((joinZ da db pub (setAd ad lev num 0)).map (Value.int .u8)).toArray) ∧ Below w.heap.size w w' := by
  have HJ := hid (Dg.join da db pub (setAd ad lev num 0))
  have HA := hid (had.set (f := lev) (s := num) (p := 0) hl hn (by omega))
  have J1 := hid (fun (W : World) (t : ShaTab W) => ljoin_any da db pub (setAd ad lev num 0) W hda hdb hpub HA.out t)
  generalize (joinZ da db pub (setAd ad lev num 0)) = J at *
  have b1 := (Below.refl w.heap.size w).alloc (Nat.le_refl _) (.cells (da.map (Value.int .u8)).toArray 25 (0, 0))
  have b2 := b1.alloc b1.size (.cells (db.map (Value.int .u8)).toArray 25 (0, 0))
  have b3 := b2.alloc b2.size (.cells (pub.map (Value.int .u8)).toArray 25 (0, 0))
  have b4 := b3.alloc b3.size (.cells (ad.map (Value.int .u32)).toArray 66 (0, 0))
  have b5 := b4.alloc b4.size (.cells (byteCells 32 []) 25 (0, 0))
  have Ka := hid (((((Blk.new (w := w) (n := w.heap.size) rfl (da.map (Value.int .u8)).toArray 25).old (.cells (db.map (Value.int .u8)).toArray 25 (0, 0))).old (.cells (pub.map (Value.int .u8)).toArray 25 (0, 0))).old (.cells (ad.map (Value.int .u32)).toArray 66 (0, 0))).old (.cells (byteCells 32 []) 25 (0, 0)))
  have Kb := hid ((((Blk.new (w := (w.alloc (.cells (da.map (Value.int .u8)).toArray 25 (0, 0)))) (n := w.heap.size + 1) (by simp only [World.size_alloc]) (db.map (Value.int .u8)).toArray 25).old (.cells (pub.map (Value.int .u8)).toArray 25 (0, 0))).old (.cells (ad.map (Value.int .u32)).toArray 66 (0, 0))).old (.cells (byteCells 32 []) 25 (0, 0)))
  have Kp := hid (((Blk.new (w := ((w.alloc (.cells (da.map (Value.int .u8)).toArray 25 (0, 0))).alloc (.cells (db.map (Value.int .u8)).toArray 25 (0, 0)))) (n := w.heap.size + 1 + 1) (by simp only [World.size_alloc]) (pub.map (Value.int .u8)).toArray 25).old (.cells (ad.map (Value.int .u32)).toArray 66 (0, 0))).old (.cells (byteCells 32 []) 25 (0, 0)))
  have Kad := hid ((Blk.new (w := (((w.alloc (.cells (da.map (Value.int .u8)).toArray 25 (0, 0))).alloc (.cells (db.map (Value.int .u8)).toArray 25 (0, 0))).alloc (.cells (pub.map (Value.int .u8)).toArray 25 (0, 0)))) (n := w.heap.size + 1 + 1 + 1) (by simp only [World.size_alloc]) (ad.map (Value.int .u32)).toArray 66).old (.cells (byteCells 32 []) 25 (0, 0)))
  have Kr0 := hid (Blk.new (w := ((((w.alloc (.cells (da.map (Value.int .u8)).toArray 25 (0, 0))).alloc (.cells (db.map (Value.int .u8)).toArray 25 (0, 0))).alloc (.cells (pub.map (Value.int .u8)).toArray 25 (0, 0))).alloc (.cells (ad.map (Value.int .u32)).toArray 66 (0, 0)))) (n := w.heap.size + 1 + 1 + 1 + 1) (by simp only [World.size_alloc]) (byteCells 32 []) 25)
  have Hb := hid b5
  have HzA := hid zsize
  have hbz := b5.size
  have Hbs := hid (show w.heap.size + 1 + 1 + 1 + 1 + 1 = (((((w.alloc (.cells (da.map (Value.int .u8)).toArray 25 (0, 0))).alloc (.cells (db.map (Value.int .u8)).toArray 25 (0, 0))).alloc (.cells (pub.map (Value.int .u8)).toArray 25 (0, 0))).alloc (.cells (ad.map (Value.int .u32)).toArray 66 (0, 0))).alloc (.cells (byteCells 32 []) 25 (0, 0))).heap.size by simp only [World.size_alloc])
  have Htab := hid tab
  clear b1 b2 b3 b4 b5 tab
  go_enter Tryz.func132, Tryz.ntmps132
  go_wp2_with fail
  refine wp_region_flow 10 (List.range 10) [] [] (by kernel_rfl) (by kernel_rfl) ?_
  apply Exists.intro
  refine ⟨fun w0 hb0 hF0 => ?_, ?_⟩
  · skip
    have x0 : ∀ w', (∃ x : Ext w0, w' = x.at_) → ∃ T, Blk w' (w.heap.size) (da.map (Value.int .u8)).toArray T := fun w' ⟨x, hx⟩ => ⟨_, hx ▸ (Ka.out.below hb0).below x.same⟩
    have x1 : ∀ w', (∃ x : Ext w0, w' = x.at_) → ∃ T, Blk w' (w.heap.size + 1) (db.map (Value.int .u8)).toArray T := fun w' ⟨x, hx⟩ => ⟨_, hx ▸ (Kb.out.below hb0).below x.same⟩
    have x2 : ∀ w', (∃ x : Ext w0, w' = x.at_) → ∃ T, Blk w' (w.heap.size + 1 + 1) (pub.map (Value.int .u8)).toArray T := fun w' ⟨x, hx⟩ => ⟨_, hx ▸ (Kp.out.below hb0).below x.same⟩
    have x3 : ∀ w', (∃ x : Ext w0, w' = x.at_) → ∃ T, Blk w' (w.heap.size + 1 + 1 + 1) (ad.map (Value.int .u32)).toArray T := fun w' ⟨x, hx⟩ => ⟨_, hx ▸ (Kad.out.below hb0).below x.same⟩
    have c0 := fun e : Ext w0 => at_list ad lev num e.at_ had
    have c1 := fun e : Ext w0 => J1.out e.at_ ((Htab.out.below (Below.on Hb.out hb0)).below e.same)
    simp only [pick, List.range, List.range.loop, List.getElem?_toArray, List.getElem?_cons_succ, List.getElem?_cons_zero, Option.toList_some, List.cons_append, List.nil_append]
    repeat (first | (go_big_quiet_want; refine quiet_load_blk 25 _ rfl (w.heap.size) rfl _ x0 _ Tryz.underlying25 rfl 32 size_digest hda.size ?_; go_big_quiet_on; simp only [Act.put, List.setIfInBounds_toArray, List.set_cons_zero, List.set_cons_succ]) | (go_big_quiet_want; refine quiet_load_blk 25 _ rfl (w.heap.size + 1) rfl _ x1 _ Tryz.underlying25 rfl 32 size_digest hdb.size ?_; go_big_quiet_on; simp only [Act.put, List.setIfInBounds_toArray, List.set_cons_zero, List.set_cons_succ]) | (go_big_quiet_want; refine quiet_load_blk 25 _ rfl (w.heap.size + 1 + 1) rfl _ x2 _ Tryz.underlying25 rfl 32 size_digest hpub.size ?_; go_big_quiet_on; simp only [Act.put, List.setIfInBounds_toArray, List.set_cons_zero, List.set_cons_succ]) | (go_big_quiet_want; refine quiet_load_blk 66 _ rfl (w.heap.size + 1 + 1 + 1) rfl _ x3 _ Tryz.underlying66 rfl 8 sizeAdrs had.size ?_; go_big_quiet_on; simp only [Act.put, List.setIfInBounds_toArray, List.set_cons_zero, List.set_cons_succ]) | go_big_quiet_step (first | (go_at_call 141; with_reducible exact Calls.ext (c0 _)) | (go_at_call 143; with_reducible exact Calls.ext (c1 _))))
    exact wpQuiet_nil rfl
  refine AlChk.nil ?_
  refine Walk.fin fun w1 hw1 _ _ => ?_
  simp only [List.drop_succ_cons, List.drop_zero]
  have HBw1 := hid (Below.on Hb.out hw1)
  have hsw1 := HBw1.out.size
  have Kaw1 := hid (Ka.out.below hw1)
  have Kbw1 := hid (Kb.out.below hw1)
  have Kpw1 := hid (Kp.out.below hw1)
  have Kadw1 := hid (Kad.out.below hw1)
  have Kr0w1 := hid (Kr0.out.below hw1)
  clear hw1
  go_wp2_with (
      refine wpList_store_blk rfl 25 _ _ rfl (w.heap.size + 1 + 1 + 1 + 1) (J.map (Value.int .u8)).toArray rfl rfl _ 25 Kr0w1.out 32 size_digest HzA.out HJ.out.size (ints_one _ _) ?_
      intro w9 hb9 hk9
      have HB9 := hid (hb9.below HBw1.out HBw1.out.size (by omega))
      have HK9 := hid hk9
      clear hb9 hk9)
  exact bodyPost_ret (v := (.agg (J.map (Value.int .u8)).toArray)) (results_blk Tryz.results132 _ (w.heap.size + 1 + 1 + 1 + 1) rfl _ 25 HK9.out _ Tryz.underlying25 rfl 32 size_digest HJ.out.size) rfl ⟨rfl, HB9.out⟩
end Go.Proofs.YtkakoiaahgchmaaGreatDoor
namespace Go.Proofs.YtkakoiaahgchmaaGreatDoor
set_option maxRecDepth 100000
open Go.ChangeShapes Go.WideShapes Go.ChangeAt Go.RowKit
theorem tright_b (n i : Int) (b : Bool) (hb : rightZ n i = b) (w : World) : Calls Tryz.prog 130 #[.int .i64 n, .int .i64 i] w fun e w' => e = .returned (.bool b) ∧ Below w.heap.size w w' :=
  (tright_any n i w).mono fun e w' h => by
    obtain ⟨rfl, rfl⟩ := h
    exact ⟨by rw [hb], Below.refl _ _⟩
/-- One step up. -/
def climbS (pub ad : List Int) (i : Int) (lev : Nat) (x s : List Int) : List Int :=
  if i / 2 ^ lev % 2 = 1 then joinZ s x pub (setAd ad lev (i / 2 ^ lev / 2) 0) else joinZ x s pub (setAd ad lev (i / 2 ^ lev / 2) 0)
def climbZ (pub ad : List Int) (i : Int) (way : List (List Int)) (x : List Int) : Nat → List Int
  | 0 => x
  | k + 1 => climbS pub ad i k (climbZ pub ad i way x k) (way.getD k [])
theorem Dg.climb {pub ad : List Int} {i : Int} {way : List (List Int)} {x : List Int} (hx : Dg x) : ∀ k, Dg (climbZ pub ad i way x k)
  | 0 => hx
  | k + 1 => by
    unfold climbZ climbS
    split
    · exact Dg.join _ _ _ _
    · exact Dg.join _ _ _ _
set_option maxHeartbeats 4000000 in
theorem climb_good (dx pub : List Int) (na : Option Addr) (n nc : Nat) (way : List (List Int)) (i la tr : Int) (w : World) (hx : Dg dx) (hpub : Dg pub) (hN : DigsAt w na n nc way) (hla : 0 ≤ la ∧ la < 4294967296) (htr : 0 ≤ tr ∧ tr < 18446744073709551616) (hr : rightZ n i = true) (tab : ShaTab w) :
    Calls Tryz.prog 104 #[(.agg (dx.map (Value.int .u8)).toArray), .slice na n nc, .int .i64 i, (.agg (pub.map (Value.int .u8)).toArray), .int .u32 la, .int .u64 tr] w fun e w' => e = .returned (.tuple #[(.agg ((climbZ pub (treeZ la tr) i way dx n).map (Value.int .u8)).toArray), .int .i64 0]) ∧ Below w.heap.size w w' := by
  have HAd := hid (Aw.tree hla htr)
  have HN := hid hN
  have hle := hN.le
  have hmx := hN.max
  have hr2 := hr
  simp only [rightZ, decide_eq_true_eq] at hr2
  have b1 := (Below.refl w.heap.size w).alloc (Nat.le_refl _) (.cells (dx.map (Value.int .u8)).toArray 25 (0, 0))
  have b2 := b1.alloc b1.size (.cells (pub.map (Value.int .u8)).toArray 25 (0, 0))
  have b3 := b2.alloc b2.size (.cells (byteCells 32 []) 25 (0, 0))
  have Kx := hid (((Blk.new (w := w) (n := w.heap.size) rfl (dx.map (Value.int .u8)).toArray 25).old (.cells (pub.map (Value.int .u8)).toArray 25 (0, 0))).old (.cells (byteCells 32 []) 25 (0, 0)))
  have Kp := hid ((Blk.new (w := (w.alloc (.cells (dx.map (Value.int .u8)).toArray 25 (0, 0)))) (n := w.heap.size + 1) (by simp only [World.size_alloc]) (pub.map (Value.int .u8)).toArray 25).old (.cells (byteCells 32 []) 25 (0, 0)))
  have Kr0 := hid (Blk.new (w := ((w.alloc (.cells (dx.map (Value.int .u8)).toArray 25 (0, 0))).alloc (.cells (pub.map (Value.int .u8)).toArray 25 (0, 0)))) (n := w.heap.size + 1 + 1) (by simp only [World.size_alloc]) (byteCells 32 []) 25)
  have Hb := hid b3
  have HzA := hid zsize
  have hbz := b3.size
  have Hbs := hid (show w.heap.size + 1 + 1 + 1 = (((w.alloc (.cells (dx.map (Value.int .u8)).toArray 25 (0, 0))).alloc (.cells (pub.map (Value.int .u8)).toArray 25 (0, 0))).alloc (.cells (byteCells 32 []) 25 (0, 0))).heap.size by simp only [World.size_alloc])
  have Htab := hid tab
  clear b1 b2 b3 tab
  go_enter Tryz.func104, Tryz.ntmps104
  go_wp2_with fail
  refine (tright_b (n : Int) i true hr _).mono ?_
  rintro e w1 ⟨rfl, bw1⟩
  have HBw1 := hid (Below.on Hb.out bw1)
  have hsw1 := HBw1.out.size
  have Kxw1 := hid (Kx.out.below bw1)
  have Kpw1 := hid (Kp.out.below bw1)
  have Kr0w1 := hid (Kr0.out.below bw1)
  clear bw1
  go_wp2_with fail
  refine (tree_list la tr _ htr.1 htr.2).mono ?_
  rintro e w2 ⟨rfl, bw2⟩
  have HBw2 := hid (Below.on HBw1.out bw2)
  have hsw2 := HBw2.out.size
  have Kxw2 := hid (Kxw1.out.below bw2)
  have Kpw2 := hid (Kpw1.out.below bw2)
  have Kr0w2 := hid (Kr0w1.out.below bw2)
  clear bw2
  go_wp2_with (
      refine wpList_store_blk rfl 66 _ _ rfl (w2.heap.size) ((treeZ la tr).map (Value.int .u32)).toArray rfl rfl _ 66 (Blk.new rfl #[.int .u32 0, .int .u32 0, .int .u32 0, .int .u32 0, .int .u32 0, .int .u32 0, .int .u32 0, .int .u32 0] _) 8 sizeAdrs rfl HAd.out.size (ints_one _ _) ?_
      intro w3 hbw3 hkw3
      have HBw3 := hid (hbw3.below (HBw2.out.alloc HBw2.out.size _) (by simp only [World.size_alloc]; omega) (by have := HBw2.out.size; omega))
      have hsw3 := HBw3.out.size
      have Kadw3 := hid hkw3
      have Kxw3 := hid (hbw3.blk (Kxw2.out.old _) (by have := Kxw2.out.lt; omega))
      have Kpw3 := hid (hbw3.blk (Kpw2.out.old _) (by have := Kpw2.out.lt; omega))
      have Kr0w3 := hid (hbw3.blk (Kr0w2.out.old _) (by have := Kr0w2.out.lt; omega))
      clear hbw3 hkw3)
  have Hga := hid (show w.heap.size + 1 + 1 < w2.heap.size from Kr0w2.out.lt)
  have hga := Hga.out
  generalize w2.heap.size = ga at *
  go_loopw [31] (fun c wr => ∃ k : Nat, k ≤ n ∧ c = .int .i64 k ∧ Blk wr (w.heap.size) ((climbZ pub (treeZ la tr) i way dx k).map (Value.int .u8)).toArray 25 ∧ Blk wr (w.heap.size + 1) (pub.map (Value.int .u8)).toArray 25 ∧ Blk wr (w.heap.size + 1 + 1) (byteCells 32 []) 25 ∧ Blk wr ga ((treeZ la tr).map (Value.int .u32)).toArray 66 ∧ Below w.heap.size w wr) (fun c _ => n - (intOf c).toNat)
  case atStart => exact ⟨0, Nat.zero_le _, rfl, Kxw3.out, Kpw3.out, Kr0w3.out, Kadw3.out, HBw3.out⟩
  case round =>
    obtain ⟨k, hk, rfl, kx, kp, kr, ka, bel⟩ := hrel
    have Kxwr := hid kx
    have Kpwr := hid kp
    have Kr0wr := hid kr
    have Kadwr := hid ka
    have HBwr := hid bel
    have hswr := bel.size
    clear kx kp kr ka bel
    by_cases hlt : k < n
    · skip
      have HX := hid (Dg.climb (pub := pub) (ad := treeZ la tr) (i := i) (way := way) hx k)
      have HS := hid (HN.out.get hlt)
      have hc0 : (k : Int) < n := by omega
      have hk16 : (k : Int) ≤ 64 := by omega
      have HNr := HN.out.below HBwr.out
      obtain ⟨xs, xo, rfl, hxs, hcell⟩ := HNr.at_ (by omega)
      have Hc := hid (hcell k hlt)
      have Hst := hid (show (climbZ pub (treeZ la tr) i way dx (k + 1)) = climbS pub (treeZ la tr) i k (climbZ pub (treeZ la tr) i way dx k) (way.getD k []) from rfl)
      clear hcell HNr
      generalize way.getD k [] = s at *
      generalize hX2 : (climbZ pub (treeZ la tr) i way dx (k + 1)) = x2 at *
      generalize (climbZ pub (treeZ la tr) i way dx k) = x1 at *
      go_wp2_with (first
         | (refine wpList_index_digs rfl 33 _ _ rfl Tryz.underlying33 size_digest xs xo n nc rfl _ _ rfl k rfl hlt ?_)
         | (refine wpList_load_mid rfl 25 _ rfl xs (xo + k * 32) rfl _ _ Hc.out Tryz.underlying25 rfl (by rw [List.length_map, HS.out.len]; exact size_digest) ?_)
         | (
            refine wpList_store_blk rfl 25 _ _ rfl (wr.heap.size) (s.map (Value.int .u8)).toArray rfl rfl _ 25 (Blk.new rfl (byteCells 32 []) _) 32 size_digest HzA.out HS.out.size (ints_one _ _) ?_
            intro w21 hbw21 hkw21
            have HBw21 := hid (hbw21.below (HBwr.out.alloc HBwr.out.size _) (by simp only [World.size_alloc]; omega) (by have := HBwr.out.size; omega))
            have hsw21 := HBw21.out.size
            have Ksw21 := hid hkw21
            have Kxw21 := hid (hbw21.blk (Kxwr.out.old _) (by have := Kxwr.out.lt; omega))
            have Kpw21 := hid (hbw21.blk (Kpwr.out.old _) (by have := Kpwr.out.lt; omega))
            have Kr0w21 := hid (hbw21.blk (Kr0wr.out.old _) (by have := Kr0wr.out.lt; omega))
            have Kadw21 := hid (hbw21.blk (Kadwr.out.old _) (by have := Kadwr.out.lt; omega))
            clear hbw21 hkw21))
      have hlx := Kxw21.out.lt
      have hlp := Kpw21.out.lt
      have hlr0 := Kr0w21.out.lt
      have hlad := Kadw21.out.lt
      have hls := Ksw21.out.lt
      have hq16 : 0 ≤ i / 2 ^ k ∧ i / 2 ^ k < 16 := by
        have hp : (0 : Int) < 2 ^ k := Int.pow_pos (by omega)
        have h16 : i < 16 := by
          rcases (show n = 1 ∨ n = 2 ∨ n = 3 ∨ n = 4 by omega) with rfl | rfl | rfl | rfl <;> simp at hr2 <;> omega
        exact ⟨Int.ediv_nonneg (by omega) (by omega), Int.lt_of_le_of_lt (Int.ediv_le_self _ (by omega)) h16⟩
      generalize hq : i / 2 ^ k = q at *
      refine wp_pair (by kernel_rfl) (by kernel_rfl) (fun _ _ d _ _ h => by cases d <;> exact h) _ _ _ _ _ _ rfl rfl rfl rfl rfl rfl 25 _ _ _ _ _ _ rfl rfl rfl rfl rfl rfl rfl rfl rfl rfl rfl rfl (by simp) (w.heap.size) (wr.heap.size) (x1.map (Value.int .u8)).toArray (s.map (Value.int .u8)).toArray rfl rfl _ _ Kxw21.out Ksw21.out _ Tryz.underlying25 rfl 32 size_digest HX.out.size HS.out.size (ints_one _ _) (ints_one _ _) (byteCells 32 []) HzA.out (fun A W => by go_simp; rfl) (fun A W => by go_simp; rfl) (fun b c => ⟨rfl, rfl, rfl, rfl⟩) ?_
      intro gb gc w22 hb22 hgb hgc hbc kb kc
      simp only [pairF, Act.put, List.setIfInBounds_toArray, List.set_cons_zero, List.set_cons_succ]
      have HBw22 := hid (Below.on HBw21.out hb22)
      have hsw22 := HBw22.out.size
      have Kxw22 := hid (Kxw21.out.below hb22)
      have Kpw22 := hid (Kpw21.out.below hb22)
      have Kr0w22 := hid (Kr0w21.out.below hb22)
      have Kadw22 := hid (Kadw21.out.below hb22)
      have Ksw22 := hid (Ksw21.out.below hb22)
      have Klw22 := hid kb
      have Krw22 := hid kc
      clear hb22 kb kc
      by_cases hodd : q % 2 = 1
      · skip
        go_wp2_with fail
        refine FlowB.wp_region_butIn [gb, gc] (fun wz => Blk wz (gb) (x1.map (Value.int .u8)).toArray 25 ∧ Blk wz (gc) (s.map (Value.int .u8)).toArray 25) 4 [0, 1] [] [(.c 2, [], []), (.c 3, [], [])] (by kernel_rfl) (by kernel_rfl) ⟨Klw22.out, Krw22.out⟩ (fun _ _ h hb => ⟨h.1.below hb, h.2.below hb⟩) ?_
        apply Exists.intro
        refine ⟨fun w0 hb0 hF0 => ?_, ?_⟩
        · skip
          have x0 : ∀ w', (∃ x : Ext w0, w' = x.at_) → ∃ T, Blk w' (wr.heap.size) (s.map (Value.int .u8)).toArray T := fun w' ⟨x, hx⟩ => ⟨_, hx ▸ (hb0.blk Ksw22.out (by simp only [List.mem_cons, List.not_mem_nil, or_false]; omega)).below x.same⟩
          have x1 : ∀ w', (∃ x : Ext w0, w' = x.at_) → ∃ T, Blk w' (w.heap.size) (x1.map (Value.int .u8)).toArray T := fun w' ⟨x, hx⟩ => ⟨_, hx ▸ (hb0.blk Kxw22.out (by simp only [List.mem_cons, List.not_mem_nil, or_false]; omega)).below x.same⟩
          simp only [pick, List.getElem?_toArray, List.getElem?_cons_succ, List.getElem?_cons_zero, Option.toList_some, List.cons_append, List.nil_append]
          repeat (first | (go_big_quiet_want; refine quiet_load_blk 25 _ rfl (wr.heap.size) rfl _ x0 _ Tryz.underlying25 rfl 32 size_digest HS.out.size ?_; go_big_quiet_on; simp only [Act.put, List.setIfInBounds_toArray, List.set_cons_zero, List.set_cons_succ]) | (go_big_quiet_want; refine quiet_load_blk 25 _ rfl (w.heap.size) rfl _ x1 _ Tryz.underlying25 rfl 32 size_digest HX.out.size ?_; go_big_quiet_on; simp only [Act.put, List.setIfInBounds_toArray, List.set_cons_zero, List.set_cons_succ]) | go_big_quiet_step (fail))
          exact wpQuiet_nil rfl
        refine FlowB.AlChk.nil ?_
        refine FlowB.Walk.skips rfl (fun wz => Blk wz (gb) (s.map (Value.int .u8)).toArray 25 ∧ Blk wz (gc) (s.map (Value.int .u8)).toArray 25) (fun _ _ h hb => ⟨h.1.below hb, h.2.below hb⟩) rfl (fun w1 hb1 hF1 hG1 => ?_) ?_
        · exact FlowB.store_skips 25 _ _ rfl (gb) (s.map (Value.int .u8)).toArray rfl rfl _ 25 hG1.1 32 size_digest HX.out.size HS.out.size (ints_one _ _) (by simp) (fun w2 h2 h3 => ⟨h3, h2.blk hG1.2 (by omega)⟩)
        intro w1 hb1 hF1
        apply Exists.intro
        refine ⟨fun w2 hb2 hF2 => wpQuiet_nil rfl, ?_⟩
        refine FlowB.AlChk.nil ?_
        refine FlowB.Walk.skips rfl (fun wz => Blk wz (gb) (s.map (Value.int .u8)).toArray 25 ∧ Blk wz (gc) (x1.map (Value.int .u8)).toArray 25) (fun _ _ h hb => ⟨h.1.below hb, h.2.below hb⟩) rfl (fun w1 hb1 hF1 hG1 => ?_) ?_
        · exact FlowB.store_skips 25 _ _ rfl (gc) (x1.map (Value.int .u8)).toArray rfl rfl _ 25 hG1.2 32 size_digest HS.out.size HX.out.size (ints_one _ _) (by simp) (fun w2 h2 h3 => ⟨h2.blk hG1.1 (by omega), h3⟩)
        intro w1 hb1 hF1
        apply Exists.intro
        refine ⟨fun w2 hb2 hF2 => wpQuiet_nil rfl, ?_⟩
        refine FlowB.AlChk.nil ?_
        refine FlowB.Walk.fin fun w22 hw22 _ hGw22 => ?_
        simp only [List.drop_succ_cons, List.drop_zero]
        have HBw22 := hid (hw22.below HBw22.out HBw22.out.size (by simp only [List.mem_cons, List.not_mem_nil, or_false, forall_eq_or_imp, forall_eq]; omega))
        have HGw22 := hid hGw22
        have Kxw22 := hid (hw22.blk Kxw22.out (by simp only [List.mem_cons, List.not_mem_nil, or_false]; have := Kxw22.out.lt; omega))
        have Kpw22 := hid (hw22.blk Kpw22.out (by simp only [List.mem_cons, List.not_mem_nil, or_false]; have := Kpw22.out.lt; omega))
        have Kr0w22 := hid (hw22.blk Kr0w22.out (by simp only [List.mem_cons, List.not_mem_nil, or_false]; have := Kr0w22.out.lt; omega))
        have Kadw22 := hid (hw22.blk Kadw22.out (by simp only [List.mem_cons, List.not_mem_nil, or_false]; have := Kadw22.out.lt; omega))
        have Ksw22 := hid (hw22.blk Ksw22.out (by simp only [List.mem_cons, List.not_mem_nil, or_false]; have := Ksw22.out.lt; omega))
        have Klw22 := hid HGw22.out.1
        have Krw22 := hid HGw22.out.2
        clear hw22 hGw22
        simp only [Act.put]
        have hx2 : x2 = joinZ s x1 pub (setAd (treeZ la tr) k (q / 2) 0) := by
          rw [Hst.out]
          unfold climbS
          rw [hq, if_pos hodd]
        have HX2 := hid (show Dg x2 by rw [hx2]; exact Dg.join _ _ _ _)
        have C := hid (show ∀ W : World, ShaTab W → Calls Tryz.prog 132 #[(.agg (s.map (Value.int .u8)).toArray), (.agg (x1.map (Value.int .u8)).toArray), (.agg (pub.map (Value.int .u8)).toArray), (.agg ((treeZ la tr).map (Value.int .u32)).toArray), .int .i64 k, .int .i64 (q / 2)] W (fun e w' => e = .returned (.agg (x2.map (Value.int .u8)).toArray) ∧ Below W.heap.size W w') from fun W t => by
          rw [hx2]
          exact tjoin_any s x1 pub (treeZ la tr) k (q / 2) W HS.out HX.out hpub HAd.out (by omega) (by omega) t)
        clear hx2
        go_wp2_with (first
           | (refine wpList_load_blk rfl 25 _ rfl (gb) rfl _ 25 Klw22.out _ Tryz.underlying25 rfl 32 size_digest HS.out.size ?_)
           | (refine wpList_load_blk rfl 25 _ rfl (gc) rfl _ 25 Krw22.out _ Tryz.underlying25 rfl 32 size_digest HX.out.size ?_)
           | (refine wpList_load_blk rfl 25 _ rfl (w.heap.size + 1) rfl _ 25 Kpw22.out _ Tryz.underlying25 rfl 32 size_digest hpub.size ?_)
           | (refine wpList_load_blk rfl 66 _ rfl (ga) rfl _ 66 Kadw22.out _ Tryz.underlying66 rfl 8 sizeAdrs HAd.out.size ?_))
        refine (C.out _ (Htab.out.below HBw22.out)).mono ?_
        rintro e w23 ⟨rfl, bw23⟩
        have HBw23 := hid (Below.on HBw22.out bw23)
        have hsw23 := HBw23.out.size
        have Kxw23 := hid (Kxw22.out.below bw23)
        have Kpw23 := hid (Kpw22.out.below bw23)
        have Kr0w23 := hid (Kr0w22.out.below bw23)
        have Kadw23 := hid (Kadw22.out.below bw23)
        have Ksw23 := hid (Ksw22.out.below bw23)
        have Klw23 := hid (Klw22.out.below bw23)
        have Krw23 := hid (Krw22.out.below bw23)
        clear bw23
        go_wp2_with (
            refine wpList_store_blk rfl 25 _ _ rfl (w.heap.size) (x2.map (Value.int .u8)).toArray rfl rfl _ 25 Kxw23.out 32 size_digest HX.out.size HX2.out.size (ints_one _ _) ?_
            intro w30 hb30 hk30
            have HBw30 := hid (hb30.below HBw23.out HBw23.out.size (by omega))
            have Kxw30 := hid hk30
            have Kpw30 := hid (hb30.blk Kpw23.out (by omega))
            have Kr0w30 := hid (hb30.blk Kr0w23.out (by omega))
            have Kadw30 := hid (hb30.blk Kadw23.out (by omega))
            clear hb30 hk30)
        exact ⟨⟨k + 1, by omega, by first | rfl | simp, by rw [hX2]; exact Kxw30.out, Kpw30.out, Kr0w30.out, Kadw30.out, HBw30.out⟩, by simp [intOf]; omega⟩
      · skip
        have hx2 : x2 = joinZ x1 s pub (setAd (treeZ la tr) k (q / 2) 0) := by
          rw [Hst.out]
          unfold climbS
          rw [hq, if_neg hodd]
        have HX2 := hid (show Dg x2 by rw [hx2]; exact Dg.join _ _ _ _)
        have C := hid (show ∀ W : World, ShaTab W → Calls Tryz.prog 132 #[(.agg (x1.map (Value.int .u8)).toArray), (.agg (s.map (Value.int .u8)).toArray), (.agg (pub.map (Value.int .u8)).toArray), (.agg ((treeZ la tr).map (Value.int .u32)).toArray), .int .i64 k, .int .i64 (q / 2)] W (fun e w' => e = .returned (.agg (x2.map (Value.int .u8)).toArray) ∧ Below W.heap.size W w') from fun W t => by
          rw [hx2]
          exact tjoin_any x1 s pub (treeZ la tr) k (q / 2) W HX.out HS.out hpub HAd.out (by omega) (by omega) t)
        clear hx2
        go_wp2_with (first
           | (refine wpList_load_blk rfl 25 _ rfl (gb) rfl _ 25 Klw22.out _ Tryz.underlying25 rfl 32 size_digest HX.out.size ?_)
           | (refine wpList_load_blk rfl 25 _ rfl (gc) rfl _ 25 Krw22.out _ Tryz.underlying25 rfl 32 size_digest HS.out.size ?_)
           | (refine wpList_load_blk rfl 25 _ rfl (w.heap.size + 1) rfl _ 25 Kpw22.out _ Tryz.underlying25 rfl 32 size_digest hpub.size ?_)
           | (refine wpList_load_blk rfl 66 _ rfl (ga) rfl _ 66 Kadw22.out _ Tryz.underlying66 rfl 8 sizeAdrs HAd.out.size ?_))
        refine (C.out _ (Htab.out.below HBw22.out)).mono ?_
        rintro e w22 ⟨rfl, bw22⟩
        have HBw22 := hid (Below.on HBw22.out bw22)
        have hsw22 := HBw22.out.size
        have Kxw22 := hid (Kxw22.out.below bw22)
        have Kpw22 := hid (Kpw22.out.below bw22)
        have Kr0w22 := hid (Kr0w22.out.below bw22)
        have Kadw22 := hid (Kadw22.out.below bw22)
        have Ksw22 := hid (Ksw22.out.below bw22)
        have Klw22 := hid (Klw22.out.below bw22)
        have Krw22 := hid (Krw22.out.below bw22)
        clear bw22
        go_wp2_with (
            refine wpList_store_blk rfl 25 _ _ rfl (w.heap.size) (x2.map (Value.int .u8)).toArray rfl rfl _ 25 Kxw22.out 32 size_digest HX.out.size HX2.out.size (ints_one _ _) ?_
            intro w30 hb30 hk30
            have HBw30 := hid (hb30.below HBw22.out HBw22.out.size (by omega))
            have Kxw30 := hid hk30
            have Kpw30 := hid (hb30.blk Kpw22.out (by omega))
            have Kr0w30 := hid (hb30.blk Kr0w22.out (by omega))
            have Kadw30 := hid (hb30.blk Kadw22.out (by omega))
            clear hb30 hk30)
        exact ⟨⟨k + 1, by omega, by first | rfl | simp, by rw [hX2]; exact Kxw30.out, Kpw30.out, Kr0w30.out, Kadw30.out, HBw30.out⟩, by simp [intOf]; omega⟩
    · skip
      have hkn : k = n := by omega
      subst hkn
      have HX := hid (Dg.climb (pub := pub) (ad := treeZ la tr) (i := i) (way := way) hx k)
      generalize hX1 : (climbZ pub (treeZ la tr) i way dx k) = x1 at *
      go_wp2_with (first
         | (refine wpList_load_blk rfl 25 _ rfl (w.heap.size) rfl _ 25 Kxwr.out _ Tryz.underlying25 rfl 32 size_digest HX.out.size ?_)
         | (
          refine wpList_store_blk rfl 25 _ _ rfl (w.heap.size + 1 + 1) (x1.map (Value.int .u8)).toArray rfl rfl _ 25 Kr0wr.out 32 size_digest HzA.out HX.out.size (ints_one _ _) ?_
          intro w9 hb9 hk9
          have HB9 := hid (hb9.below HBwr.out HBwr.out.size (by omega))
          have HK9 := hid hk9
          clear hb9 hk9))
      exact bodyPost_ret (v := .tuple #[(.agg (x1.map (Value.int .u8)).toArray), .int .i64 0]) (results_blk_tmp Tryz.results104 _ (w.heap.size + 1 + 1) rfl _ rfl _ 25 HK9.out _ Tryz.underlying25 rfl 32 size_digest HX.out.size) rfl ⟨by rw [hX1], HB9.out⟩
end Go.Proofs.YtkakoiaahgchmaaGreatDoor
namespace Go.Proofs.YtkakoiaahgchmaaGreatDoor
set_option maxRecDepth 100000
open Go.ChangeShapes Go.WideShapes Go.ChangeAt Go.RowKit
set_option maxHeartbeats 4000000 in
theorem refbase_tree (la tr : Int) (w : World) (h0 : 0 ≤ tr) (h1 : tr < 18446744073709551616) :
    Calls Tryz.prog 25 #[.int .u32 la, .int .u64 tr, .int .u32 2, .int .u32 0] w fun e w' => e = .returned (.agg ((treeZ la tr).map (Value.int .u32)).toArray) ∧ Below w.heap.size w w' := by
  go_enter Tryz.func25, Tryz.ntmps25
  go_wp2
  go_returns
  exact ⟨rfl, by go_grown⟩
set_option maxHeartbeats 4000000 in
theorem two_any (da db pub : List Int) (la tr lev num : Int) (w : World) (hda : Dg da) (hdb : Dg db) (hpub : Dg pub) (hla : 0 ≤ la ∧ la < 4294967296) (htr : 0 ≤ tr ∧ tr < 18446744073709551616) (hl : 0 ≤ lev ∧ lev < 4294967296) (hn : 0 ≤ num ∧ num < 4294967296) :
    Calls Tryz.prog 65 #[(.agg (da.map (Value.int .u8)).toArray), (.agg (db.map (Value.int .u8)).toArray), (.agg (pub.map (Value.int .u8)).toArray), .int .u32 la, .int .u64 tr, .int .i64 lev, .int .i64 num] w fun e w' => e = .returned (.agg ((joinZ da db pub (setAd (treeZ la tr) lev num 0)).map (Value.int .u8)).toArray) ∧ Below w.heap.size w w' := by
  have HJ := hid (Dg.join da db pub (setAd (treeZ la tr) lev num 0))
  have HAd := hid (Aw.tree hla htr)
  have HA := hid (HAd.out.set (f := lev) (s := num) (p := 0) hl hn (by omega))
  have J1 := hid (fun (W : World) => refjoin_any da db pub (setAd (treeZ la tr) lev num 0) W hda hdb hpub HA.out)
  generalize (joinZ da db pub (setAd (treeZ la tr) lev num 0)) = J at *
  have b1 := (Below.refl w.heap.size w).alloc (Nat.le_refl _) (.cells (da.map (Value.int .u8)).toArray 25 (0, 0))
  have b2 := b1.alloc b1.size (.cells (db.map (Value.int .u8)).toArray 25 (0, 0))
  have b3 := b2.alloc b2.size (.cells (pub.map (Value.int .u8)).toArray 25 (0, 0))
  have b4 := b3.alloc b3.size (.cells (byteCells 32 []) 25 (0, 0))
  have Ka := hid ((((Blk.new (w := w) (n := w.heap.size) rfl (da.map (Value.int .u8)).toArray 25).old (.cells (db.map (Value.int .u8)).toArray 25 (0, 0))).old (.cells (pub.map (Value.int .u8)).toArray 25 (0, 0))).old (.cells (byteCells 32 []) 25 (0, 0)))
  have Kb := hid (((Blk.new (w := (w.alloc (.cells (da.map (Value.int .u8)).toArray 25 (0, 0)))) (n := w.heap.size + 1) (by simp only [World.size_alloc]) (db.map (Value.int .u8)).toArray 25).old (.cells (pub.map (Value.int .u8)).toArray 25 (0, 0))).old (.cells (byteCells 32 []) 25 (0, 0)))
  have Kp := hid ((Blk.new (w := ((w.alloc (.cells (da.map (Value.int .u8)).toArray 25 (0, 0))).alloc (.cells (db.map (Value.int .u8)).toArray 25 (0, 0)))) (n := w.heap.size + 1 + 1) (by simp only [World.size_alloc]) (pub.map (Value.int .u8)).toArray 25).old (.cells (byteCells 32 []) 25 (0, 0)))
  have Kr0 := hid (Blk.new (w := (((w.alloc (.cells (da.map (Value.int .u8)).toArray 25 (0, 0))).alloc (.cells (db.map (Value.int .u8)).toArray 25 (0, 0))).alloc (.cells (pub.map (Value.int .u8)).toArray 25 (0, 0)))) (n := w.heap.size + 1 + 1 + 1) (by simp only [World.size_alloc]) (byteCells 32 []) 25)
  have Hb := hid b4
  have HzA := hid zsize
  have hbz := b4.size
  have Hbs := hid (show w.heap.size + 1 + 1 + 1 + 1 = ((((w.alloc (.cells (da.map (Value.int .u8)).toArray 25 (0, 0))).alloc (.cells (db.map (Value.int .u8)).toArray 25 (0, 0))).alloc (.cells (pub.map (Value.int .u8)).toArray 25 (0, 0))).alloc (.cells (byteCells 32 []) 25 (0, 0))).heap.size by simp only [World.size_alloc])
  clear b1 b2 b3 b4
  go_enter Tryz.func65, Tryz.ntmps65
  go_wp2_with fail
  refine wp_region_flow 12 (List.range 12) [] [] (by kernel_rfl) (by kernel_rfl) ?_
  apply Exists.intro
  refine ⟨fun w0 hb0 hF0 => ?_, ?_⟩
  · skip
    have x0 : ∀ w', (∃ x : Ext w0, w' = x.at_) → ∃ T, Blk w' (w.heap.size) (da.map (Value.int .u8)).toArray T := fun w' ⟨x, hx⟩ => ⟨_, hx ▸ (Ka.out.below hb0).below x.same⟩
    have x1 : ∀ w', (∃ x : Ext w0, w' = x.at_) → ∃ T, Blk w' (w.heap.size + 1) (db.map (Value.int .u8)).toArray T := fun w' ⟨x, hx⟩ => ⟨_, hx ▸ (Kb.out.below hb0).below x.same⟩
    have x2 : ∀ w', (∃ x : Ext w0, w' = x.at_) → ∃ T, Blk w' (w.heap.size + 1 + 1) (pub.map (Value.int .u8)).toArray T := fun w' ⟨x, hx⟩ => ⟨_, hx ▸ (Kp.out.below hb0).below x.same⟩
    have c0 := fun e : Ext w0 => refbase_tree la tr e.at_ htr.1 htr.2
    have c1 := fun e : Ext w0 => refat_list (treeZ la tr) lev num 0 e.at_ HAd.out
    have c2 := fun e : Ext w0 => J1.out e.at_
    simp only [pick, List.range, List.range.loop, List.getElem?_toArray, List.getElem?_cons_succ, List.getElem?_cons_zero, Option.toList_some, List.cons_append, List.nil_append]
    repeat (first | (go_big_quiet_want; refine quiet_load_blk 25 _ rfl (w.heap.size) rfl _ x0 _ Tryz.underlying25 rfl 32 size_digest hda.size ?_; go_big_quiet_on; simp only [Act.put, List.setIfInBounds_toArray, List.set_cons_zero, List.set_cons_succ]) | (go_big_quiet_want; refine quiet_load_blk 25 _ rfl (w.heap.size + 1) rfl _ x1 _ Tryz.underlying25 rfl 32 size_digest hdb.size ?_; go_big_quiet_on; simp only [Act.put, List.setIfInBounds_toArray, List.set_cons_zero, List.set_cons_succ]) | (go_big_quiet_want; refine quiet_load_blk 25 _ rfl (w.heap.size + 1 + 1) rfl _ x2 _ Tryz.underlying25 rfl 32 size_digest hpub.size ?_; go_big_quiet_on; simp only [Act.put, List.setIfInBounds_toArray, List.set_cons_zero, List.set_cons_succ]) | go_big_quiet_step (first | (go_at_call 25; with_reducible exact Calls.ext (c0 _)) | (go_at_call 94; with_reducible exact Calls.ext (c1 _)) | (go_at_call 95; with_reducible exact Calls.ext (c2 _))))
    exact wpQuiet_nil rfl
  refine AlChk.nil ?_
  refine Walk.fin fun w1 hw1 _ _ => ?_
  simp only [List.drop_succ_cons, List.drop_zero]
  have HBw1 := hid (Below.on Hb.out hw1)
  have hsw1 := HBw1.out.size
  have Kaw1 := hid (Ka.out.below hw1)
  have Kbw1 := hid (Kb.out.below hw1)
  have Kpw1 := hid (Kp.out.below hw1)
  have Kr0w1 := hid (Kr0.out.below hw1)
  clear hw1
  go_wp2_with (
      refine wpList_store_blk rfl 25 _ _ rfl (w.heap.size + 1 + 1 + 1) (J.map (Value.int .u8)).toArray rfl rfl _ 25 Kr0w1.out 32 size_digest HzA.out HJ.out.size (ints_one _ _) ?_
      intro w9 hb9 hk9
      have HB9 := hid (hb9.below HBw1.out HBw1.out.size (by omega))
      have HK9 := hid hk9
      clear hb9 hk9)
  exact bodyPost_ret (v := (.agg (J.map (Value.int .u8)).toArray)) (results_blk Tryz.results65 _ (w.heap.size + 1 + 1 + 1) rfl _ 25 HK9.out _ Tryz.underlying25 rfl 32 size_digest HJ.out.size) rfl ⟨rfl, HB9.out⟩
set_option maxHeartbeats 4000000 in
theorem refclimb_any (dx pub : List Int) (na : Option Addr) (n nc : Nat) (way : List (List Int)) (i la tr : Int) (w : World) (hx : Dg dx) (hpub : Dg pub) (hN : DigsAt w na n nc way) (hla : 0 ≤ la ∧ la < 4294967296) (htr : 0 ≤ tr ∧ tr < 18446744073709551616) (hr : rightZ n i = true) :
    Calls Tryz.prog 27 #[(.agg (dx.map (Value.int .u8)).toArray), .slice na n nc, .int .i64 i, (.agg (pub.map (Value.int .u8)).toArray), .int .u32 la, .int .u64 tr] w fun e w' => e = .returned (.agg ((climbZ pub (treeZ la tr) i way dx n).map (Value.int .u8)).toArray) ∧ Below w.heap.size w w' := by
  have HN := hid hN
  have hle := hN.le
  have hmx := hN.max
  have hr2 := hr
  simp only [rightZ, decide_eq_true_eq] at hr2
  have b1 := (Below.refl w.heap.size w).alloc (Nat.le_refl _) (.cells (dx.map (Value.int .u8)).toArray 25 (0, 0))
  have b2 := b1.alloc b1.size (.cells (pub.map (Value.int .u8)).toArray 25 (0, 0))
  have b3 := b2.alloc b2.size (.cells (byteCells 32 []) 25 (0, 0))
  have Kx := hid (((Blk.new (w := w) (n := w.heap.size) rfl (dx.map (Value.int .u8)).toArray 25).old (.cells (pub.map (Value.int .u8)).toArray 25 (0, 0))).old (.cells (byteCells 32 []) 25 (0, 0)))
  have Kp := hid ((Blk.new (w := (w.alloc (.cells (dx.map (Value.int .u8)).toArray 25 (0, 0)))) (n := w.heap.size + 1) (by simp only [World.size_alloc]) (pub.map (Value.int .u8)).toArray 25).old (.cells (byteCells 32 []) 25 (0, 0)))
  have Kr0 := hid (Blk.new (w := ((w.alloc (.cells (dx.map (Value.int .u8)).toArray 25 (0, 0))).alloc (.cells (pub.map (Value.int .u8)).toArray 25 (0, 0)))) (n := w.heap.size + 1 + 1) (by simp only [World.size_alloc]) (byteCells 32 []) 25)
  have Hb := hid b3
  have HzA := hid zsize
  have hbz := b3.size
  have Hbs := hid (show w.heap.size + 1 + 1 + 1 = (((w.alloc (.cells (dx.map (Value.int .u8)).toArray 25 (0, 0))).alloc (.cells (pub.map (Value.int .u8)).toArray 25 (0, 0))).alloc (.cells (byteCells 32 []) 25 (0, 0))).heap.size by simp only [World.size_alloc])
  clear b1 b2 b3
  go_enter Tryz.func27, Tryz.ntmps27
  go_wp2_with fail
  go_loopw [2, 13] (fun iv kv wr => ∃ k : Nat, k ≤ n ∧ iv = .int .i64 (i / 2 ^ k) ∧ kv = .int .i64 k ∧ Blk wr (w.heap.size) ((climbZ pub (treeZ la tr) i way dx k).map (Value.int .u8)).toArray 25 ∧ Blk wr (w.heap.size + 1) (pub.map (Value.int .u8)).toArray 25 ∧ Blk wr (w.heap.size + 1 + 1) (byteCells 32 []) 25 ∧ Below w.heap.size w wr) (fun _ kv _ => n - (intOf kv).toNat)
  case atStart => exact ⟨0, Nat.zero_le _, by simp, rfl, Kx.out, Kp.out, Kr0.out, Hb.out⟩
  case round =>
    obtain ⟨k, hk, rfl, rfl, kx, kp, kr, bel⟩ := hrel
    have Kxwr := hid kx
    have Kpwr := hid kp
    have Kr0wr := hid kr
    have HBwr := hid bel
    have hswr := bel.size
    clear kx kp kr bel
    by_cases hlt : k < n
    · skip
      have HX := hid (Dg.climb (pub := pub) (ad := treeZ la tr) (i := i) (way := way) hx k)
      have HS := hid (HN.out.get hlt)
      have hc0 : (k : Int) < n := by omega
      have HNr := HN.out.below HBwr.out
      obtain ⟨xs, xo, rfl, hxs, hcell⟩ := HNr.at_ (by omega)
      have hxw : xs < w.heap.size := by
        obtain ⟨x', o', he, hx', _⟩ := HN.out.at_ (by omega)
        injection he with he
        injection he with he
        rw [he]; exact hx'
      have Hc := hid (hcell k hlt)
      have Hst := hid (show (climbZ pub (treeZ la tr) i way dx (k + 1)) = climbS pub (treeZ la tr) i k (climbZ pub (treeZ la tr) i way dx k) (way.getD k []) from rfl)
      clear hcell HNr
      generalize way.getD k [] = s at *
      generalize hX2 : (climbZ pub (treeZ la tr) i way dx (k + 1)) = dl at *
      generalize (climbZ pub (treeZ la tr) i way dx k) = dk at *
      have hq16 : 0 ≤ i / 2 ^ k ∧ i / 2 ^ k < 16 := by
        have hp : (0 : Int) < 2 ^ k := Int.pow_pos (by omega)
        have h16 : i < 16 := by
          rcases (show n = 1 ∨ n = 2 ∨ n = 3 ∨ n = 4 by omega) with rfl | rfl | rfl | rfl <;> simp at hr2 <;> omega
        exact ⟨Int.ediv_nonneg (by omega) (by omega), Int.lt_of_le_of_lt (Int.ediv_le_self _ (by omega)) h16⟩
      have Hnext : Hid (i / 2 ^ k / 2 = i / 2 ^ (k + 1)) := hid (by
        rw [Int.ediv_ediv_of_nonneg (Int.le_of_lt (Int.pow_pos (by omega))), Int.pow_succ])
      generalize hq : i / 2 ^ k = q at *
      by_cases hodd : q % 2 = 1
      · skip
        have hq2 : ¬ q % 2 = 0 := by omega
        have hx2 : dl = joinZ s dk pub (setAd (treeZ la tr) k (q / 2) 0) := by
          rw [Hst.out]
          unfold climbS
          rw [hq, if_pos hodd]
        have HX2 := hid (show Dg dl by rw [hx2]; exact Dg.join _ _ _ _)
        have C := hid (show ∀ W : World, Calls Tryz.prog 65 #[(.agg (s.map (Value.int .u8)).toArray), (.agg (dk.map (Value.int .u8)).toArray), (.agg (pub.map (Value.int .u8)).toArray), .int .u32 la, .int .u64 tr, .int .i64 k, .int .i64 (q / 2)] W (fun e w' => e = .returned (.agg (dl.map (Value.int .u8)).toArray) ∧ Below W.heap.size W w') from fun W => by
          rw [hx2]
          exact two_any s dk pub la tr k (q / 2) W HS.out HX.out hpub hla htr (by omega) (by omega))
        clear hx2
        go_wp2_with fail
        refine wp_region_flow 12 (List.range 12) [] [] (by kernel_rfl) (by kernel_rfl) ?_
        apply Exists.intro
        refine ⟨fun w0 hb0 hF0 => ?_, ?_⟩
        · skip
          have x0 : ∀ w', (∃ x : Ext w0, w' = x.at_) → ∃ T, Blk w' (w.heap.size) (dk.map (Value.int .u8)).toArray T := fun w' ⟨x, hx⟩ => ⟨_, hx ▸ (Kxwr.out.below hb0).below x.same⟩
          have x1 : ∀ w', (∃ x : Ext w0, w' = x.at_) → ∃ T, Blk w' (w.heap.size + 1) (pub.map (Value.int .u8)).toArray T := fun w' ⟨x, hx⟩ => ⟨_, hx ▸ (Kpwr.out.below hb0).below x.same⟩
          have c0 := fun e : Ext w0 => C.out e.at_
          have y0 : ∀ w', (∃ x : Ext w0, w' = x.at_) → w'.rangeAt xs (xo + k * 32) (s.map (Value.int .u8)) := fun w' ⟨x, hx⟩ => hx ▸ rangeAt_below (rangeAt_below Hc.out hxs hb0) (Nat.lt_of_lt_of_le hxs hb0.size) x.same
          simp only [pick, List.range, List.range.loop, List.getElem?_toArray, List.getElem?_cons_succ, List.getElem?_cons_zero, Option.toList_some, List.cons_append, List.nil_append]
          repeat (first | (go_big_quiet_want; refine quiet_load_blk 25 _ rfl (w.heap.size) rfl _ x0 _ Tryz.underlying25 rfl 32 size_digest HX.out.size ?_; go_big_quiet_on; simp only [Act.put, List.setIfInBounds_toArray, List.set_cons_zero, List.set_cons_succ]) | (go_big_quiet_want; refine quiet_load_blk 25 _ rfl (w.heap.size + 1) rfl _ x1 _ Tryz.underlying25 rfl 32 size_digest hpub.size ?_; go_big_quiet_on; simp only [Act.put, List.setIfInBounds_toArray, List.set_cons_zero, List.set_cons_succ]) | (go_big_quiet_want; refine quiet_index_digs 33 _ _ rfl Tryz.underlying33 size_digest xs xo n nc rfl _ _ rfl k (by omega) (by omega) ?_; go_big_quiet_on; simp only [Act.put, List.setIfInBounds_toArray, List.set_cons_zero, List.set_cons_succ]) | (go_big_quiet_want; refine quiet_load_mid 25 _ rfl xs (xo + k * 32) rfl _ y0 _ Tryz.underlying25 rfl (by rw [List.length_map, HS.out.len]; exact size_digest) ?_; go_big_quiet_on; simp only [Act.put, List.setIfInBounds_toArray, List.set_cons_zero, List.set_cons_succ]) | go_big_quiet_step (first | (go_at_call 65; with_reducible exact Calls.ext (c0 _))))
          exact wpQuiet_nil rfl
        refine AlChk.nil ?_
        refine Walk.fin fun w21 hw21 _ _ => ?_
        simp only [List.drop_succ_cons, List.drop_zero]
        have HBw21 := hid (Below.on HBwr.out hw21)
        have hsw21 := HBw21.out.size
        have Kxw21 := hid (Kxwr.out.below hw21)
        have Kpw21 := hid (Kpwr.out.below hw21)
        have Kr0w21 := hid (Kr0wr.out.below hw21)
        clear hw21
        go_wp2_with (
            refine wpList_store_blk rfl 25 _ _ rfl (w.heap.size) (dl.map (Value.int .u8)).toArray rfl rfl _ 25 Kxw21.out 32 size_digest HX.out.size HX2.out.size (ints_one _ _) ?_
            intro w9 hb9 hk9
            have HB9 := hid (hb9.below HBw21.out HBw21.out.size (by omega))
            have HK9 := hid hk9
            have Kpw30 := hid (hb9.blk Kpw21.out (by omega))
            have Kr0w30 := hid (hb9.blk Kr0w21.out (by omega))
            clear hb9 hk9)
        exact ⟨⟨k + 1, by omega, by rw [← Hnext.out], by first | rfl | simp, by rw [hX2]; exact HK9.out, Kpw30.out, Kr0w30.out, HB9.out⟩, by simp [intOf]; omega⟩
      · skip
        have hq2 : q % 2 = 0 := by omega
        have hx2 : dl = joinZ dk s pub (setAd (treeZ la tr) k (q / 2) 0) := by
          rw [Hst.out]
          unfold climbS
          rw [hq, if_neg hodd]
        have HX2 := hid (show Dg dl by rw [hx2]; exact Dg.join _ _ _ _)
        have C := hid (show ∀ W : World, Calls Tryz.prog 65 #[(.agg (dk.map (Value.int .u8)).toArray), (.agg (s.map (Value.int .u8)).toArray), (.agg (pub.map (Value.int .u8)).toArray), .int .u32 la, .int .u64 tr, .int .i64 k, .int .i64 (q / 2)] W (fun e w' => e = .returned (.agg (dl.map (Value.int .u8)).toArray) ∧ Below W.heap.size W w') from fun W => by
          rw [hx2]
          exact two_any dk s pub la tr k (q / 2) W HX.out HS.out hpub hla htr (by omega) (by omega))
        clear hx2
        go_wp2_with fail
        refine wp_region_flow 12 (List.range 12) [] [] (by kernel_rfl) (by kernel_rfl) ?_
        apply Exists.intro
        refine ⟨fun w0 hb0 hF0 => ?_, ?_⟩
        · skip
          have x0 : ∀ w', (∃ x : Ext w0, w' = x.at_) → ∃ T, Blk w' (w.heap.size) (dk.map (Value.int .u8)).toArray T := fun w' ⟨x, hx⟩ => ⟨_, hx ▸ (Kxwr.out.below hb0).below x.same⟩
          have x1 : ∀ w', (∃ x : Ext w0, w' = x.at_) → ∃ T, Blk w' (w.heap.size + 1) (pub.map (Value.int .u8)).toArray T := fun w' ⟨x, hx⟩ => ⟨_, hx ▸ (Kpwr.out.below hb0).below x.same⟩
          have c0 := fun e : Ext w0 => C.out e.at_
          have y0 : ∀ w', (∃ x : Ext w0, w' = x.at_) → w'.rangeAt xs (xo + k * 32) (s.map (Value.int .u8)) := fun w' ⟨x, hx⟩ => hx ▸ rangeAt_below (rangeAt_below Hc.out hxs hb0) (Nat.lt_of_lt_of_le hxs hb0.size) x.same
          simp only [pick, List.range, List.range.loop, List.getElem?_toArray, List.getElem?_cons_succ, List.getElem?_cons_zero, Option.toList_some, List.cons_append, List.nil_append]
          repeat (first | (go_big_quiet_want; refine quiet_load_blk 25 _ rfl (w.heap.size) rfl _ x0 _ Tryz.underlying25 rfl 32 size_digest HX.out.size ?_; go_big_quiet_on; simp only [Act.put, List.setIfInBounds_toArray, List.set_cons_zero, List.set_cons_succ]) | (go_big_quiet_want; refine quiet_load_blk 25 _ rfl (w.heap.size + 1) rfl _ x1 _ Tryz.underlying25 rfl 32 size_digest hpub.size ?_; go_big_quiet_on; simp only [Act.put, List.setIfInBounds_toArray, List.set_cons_zero, List.set_cons_succ]) | (go_big_quiet_want; refine quiet_index_digs 33 _ _ rfl Tryz.underlying33 size_digest xs xo n nc rfl _ _ rfl k (by omega) (by omega) ?_; go_big_quiet_on; simp only [Act.put, List.setIfInBounds_toArray, List.set_cons_zero, List.set_cons_succ]) | (go_big_quiet_want; refine quiet_load_mid 25 _ rfl xs (xo + k * 32) rfl _ y0 _ Tryz.underlying25 rfl (by rw [List.length_map, HS.out.len]; exact size_digest) ?_; go_big_quiet_on; simp only [Act.put, List.setIfInBounds_toArray, List.set_cons_zero, List.set_cons_succ]) | go_big_quiet_step (first | (go_at_call 65; with_reducible exact Calls.ext (c0 _))))
          exact wpQuiet_nil rfl
        refine AlChk.nil ?_
        refine Walk.fin fun w21 hw21 _ _ => ?_
        simp only [List.drop_succ_cons, List.drop_zero]
        have HBw21 := hid (Below.on HBwr.out hw21)
        have hsw21 := HBw21.out.size
        have Kxw21 := hid (Kxwr.out.below hw21)
        have Kpw21 := hid (Kpwr.out.below hw21)
        have Kr0w21 := hid (Kr0wr.out.below hw21)
        clear hw21
        go_wp2_with (
            refine wpList_store_blk rfl 25 _ _ rfl (w.heap.size) (dl.map (Value.int .u8)).toArray rfl rfl _ 25 Kxw21.out 32 size_digest HX.out.size HX2.out.size (ints_one _ _) ?_
            intro w9 hb9 hk9
            have HB9 := hid (hb9.below HBw21.out HBw21.out.size (by omega))
            have HK9 := hid hk9
            have Kpw30 := hid (hb9.blk Kpw21.out (by omega))
            have Kr0w30 := hid (hb9.blk Kr0w21.out (by omega))
            clear hb9 hk9)
        exact ⟨⟨k + 1, by omega, by rw [← Hnext.out], by first | rfl | simp, by rw [hX2]; exact HK9.out, Kpw30.out, Kr0w30.out, HB9.out⟩, by simp [intOf]; omega⟩
    · skip
      have hkn : k = n := by omega
      subst hkn
      have HX := hid (Dg.climb (pub := pub) (ad := treeZ la tr) (i := i) (way := way) hx k)
      generalize hX1 : (climbZ pub (treeZ la tr) i way dx k) = dk at *
      go_wp2_with (first
         | (refine wpList_load_blk rfl 25 _ rfl (w.heap.size) rfl _ 25 Kxwr.out _ Tryz.underlying25 rfl 32 size_digest HX.out.size ?_)
         | (
          refine wpList_store_blk rfl 25 _ _ rfl (w.heap.size + 1 + 1) (dk.map (Value.int .u8)).toArray rfl rfl _ 25 Kr0wr.out 32 size_digest HzA.out HX.out.size (ints_one _ _) ?_
          intro w9 hb9 hk9
          have HB9 := hid (hb9.below HBwr.out HBwr.out.size (by omega))
          have HK9 := hid hk9
          clear hb9 hk9))
      exact bodyPost_ret (v := (.agg (dk.map (Value.int .u8)).toArray)) (results_blk Tryz.results27 _ (w.heap.size + 1 + 1) rfl _ 25 HK9.out _ Tryz.underlying25 rfl 32 size_digest HX.out.size) rfl ⟨by rw [hX1], HB9.out⟩
end Go.Proofs.YtkakoiaahgchmaaGreatDoor
namespace Go.Proofs.YtkakoiaahgchmaaGreatDoor
set_option maxRecDepth 100000
open Go.ChangeShapes Go.WideShapes Go.ChangeAt Go.RowKit
section
variable {P : Program} {w : World}
end
def d1 : List Int := 1 :: List.replicate 31 0
def d2 : List Int := 2 :: List.replicate 31 0
end Go.Proofs.YtkakoiaahgchmaaGreatDoor
namespace Go.Proofs.YtkakoiaahgchmaaGreatDoor
set_option maxRecDepth 100000
open Go.ChangeShapes Go.WideShapes Go.ChangeAt Go.RowKit
end Go.Proofs.YtkakoiaahgchmaaGreatDoor
namespace Go.Proofs.YtkakoiaahgchmaaGreatDoor
set_option maxRecDepth 100000
open Go.ChangeShapes Go.WideShapes Go.ChangeAt Go.RowKit
def rowW (P : Nat → List Int) : List (List Int) := (List.range 67).map P
def fillW (P : Nat → List Int) (k : Nat) : List (List Int) := (List.range k).map P ++ List.replicate (67 - k) zD
theorem fillW_length {P : Nat → List Int} {k : Nat} (h : k ≤ 67) : (fillW P k).length = 67 := by
  simp only [fillW, List.length_append, List.length_map, List.length_range, List.length_replicate]
  omega
theorem fillW_each {P : Nat → List Int} (h : ∀ i, Dg (P i)) (k : Nat) : ∀ d ∈ fillW P k, Dg d := fun d hd => by
  unfold fillW at hd
  rcases List.mem_append.1 hd with hd | hd
  · obtain ⟨i, _, rfl⟩ := List.mem_map.1 hd
    exact h i
  · exact zRow _ d hd
theorem fillW_set {P : Nat → List Int} {k : Nat} (h : k < 67) : (fillW P k).set k (P k) = fillW P (k + 1) := by
  unfold fillW
  rw [List.set_append_right _ _ (by simp), show 67 - k = (67 - (k + 1)) + 1 by omega, List.replicate_succ, List.range_succ, List.map_append]
  simp
theorem fillW_zero (P : Nat → List Int) : fillW P 0 = List.replicate 67 zD := by simp [fillW]
theorem fillW_done (P : Nat → List Int) : fillW P 67 = rowW P := by simp [fillW, rowW]
theorem rowW_length (P : Nat → List Int) : (rowW P).length = 67 := by simp [rowW]
theorem rowW_each {P : Nat → List Int} (h : ∀ i, Dg (P i)) : ∀ d ∈ rowW P, Dg d := fun d hd => by
  obtain ⟨i, _, rfl⟩ := List.mem_map.1 hd
  exact h i
theorem enter_run {P : Program} {f : FuncId} {fn : Func} {c : Code} (hf : P.funcs[f]? = some fn) (hname : (fn.name == "runtime.NumGoroutine") = false) (hb : fn.body = some c) (args : Array Value) (w : World) :
    (callFunc f args).run P w = .ok (.enter f args) w := by
  have h1 : fn.name ≠ "runtime.NumGoroutine" := by simpa using hname
  simp [callFunc, hf, h1, hb]
set_option maxHeartbeats 4000000 in
theorem each_any (ad : List Int) (f : FuncId) (cap : Array Value) (P : Nat → List Int) (w : World) (had : Aw ad) (hP : ∀ i, Dg (P i)) (hf : ∀ (args : Array Value) (W : World), (callFunc f args).run Tryz.prog W = .ok (.enter f args) W)
    (hp : ∀ i, i < 67 → ∀ W, Below w.heap.size w W → Calls Tryz.prog f (#[.int .i64 i, (.agg ((setAd ad i 0 0).map (Value.int .u32)).toArray)] ++ cap) W fun e w' => e = .returned (.agg ((P i).map (Value.int .u8)).toArray) ∧ Below W.heap.size W w') :
    Calls Tryz.prog 124 #[(.agg (ad.map (Value.int .u32)).toArray), .func (.func f) #[] cap] w fun e w' => ∃ g, w.heap.size ≤ g ∧ e = .returned (.slice (some ⟨g, 0, none⟩) 67 67) ∧ Below w.heap.size w w' ∧ Blk w' g (dcs (rowW P)) 25 := by
  have b1 := (Below.refl w.heap.size w).alloc (Nat.le_refl _) (.cells (ad.map (Value.int .u32)).toArray 66 (0, 0))
  have Kad := hid (Blk.new (w := w) (n := w.heap.size) rfl (ad.map (Value.int .u32)).toArray 66)
  have Hb := hid b1
  have HzA := hid zsize
  have hbz := b1.size
  have Hbs := hid (show w.heap.size + 1 = (w.alloc (.cells (ad.map (Value.int .u32)).toArray 66 (0, 0))).heap.size by simp only [World.size_alloc])
  clear b1
  have hb2 := Hb.out
  have b3 := hb2.alloc hb2.size (.cells (dcs (List.replicate 67 zD)) 25 (0, 0))
  have Kg3 := hid (Blk.new (w := (w.alloc (.cells (ad.map (Value.int .u32)).toArray 66 (0, 0)))) (n := (w.heap.size + 1)) (by simp only [World.size_alloc]) (dcs (List.replicate 67 zD)) 25)
  have Ka3 := hid (Kad.out.old (.cells (dcs (List.replicate 67 zD)) 25 (0, 0)))
  have Hb3 := hid b3
  clear b3 hb2
  have hmk := fun W : World => make_digs 67 67 rfl (by omega) W
  rw [← fillW_zero P] at Kg3
  go_enter Tryz.func124, Tryz.ntmps124
  go_wp2_with fail
  go_loopw [10] (fun v wr => ∃ k : Nat, k ≤ 67 ∧ v = .int .i64 k ∧ Blk wr (w.heap.size + 1) (dcs (fillW P k)) 25 ∧ Blk wr (w.heap.size) (ad.map (Value.int .u32)).toArray 66 ∧ Below w.heap.size w wr) (fun v _ => 67 - (intOf v).toNat)
  case atStart => exact ⟨0, Nat.zero_le _, rfl, Kg3.out, Ka3.out, Hb3.out⟩
  case round =>
    clear Kg3 Ka3 Hb3
    obtain ⟨k, hk, rfl, kg, ka, bel⟩ := hrel
    have Kgwr := hid kg
    have Kadwr := hid ka
    have HBwr := hid bel
    have hswr := bel.size
    clear kg ka bel
    by_cases hlt : k < 67
    · skip
      have hc0 : (k : Int) < 67 := by omega
      have HS := hid (fillW_set (P := P) hlt)
      have HC := hid (hp k hlt)
      have HP := hid (hP k)
      generalize hX : P k = X at *
      go_wp2_with (refine wpList_load_blk rfl 66 _ rfl (w.heap.size) rfl _ 66 Kadwr.out _ Tryz.underlying66 rfl 8 sizeAdrs had.size ?_)
      refine (at_list ad k 0 _ had).mono ?_
      rintro e w21 ⟨rfl, bw21⟩
      have HBw21 := hid (Below.on HBwr.out bw21)
      have hsw21 := HBw21.out.size
      have Kadw21 := hid (Kadwr.out.below bw21)
      have Kgw21 := hid (Kgwr.out.below bw21)
      clear bw21
      go_wp2_with fail
      refine (HC.out _ HBw21.out).mono ?_
      rintro e w22 ⟨rfl, bw22⟩
      have HBw22 := hid (Below.on HBw21.out bw22)
      have hsw22 := HBw22.out.size
      have Kadw22 := hid (Kadw21.out.below bw22)
      have Kgw22 := hid (Kgw21.out.below bw22)
      clear bw22
      go_wp2_with (first
         | (refine wpList_index_digs rfl 33 _ _ rfl Tryz.underlying33 size_digest (w.heap.size + 1) 0 67 67 rfl _ _ rfl k rfl hlt ?_)
         | (
            refine wpList_store_dig rfl _ _ _ rfl (w.heap.size + 1) k X rfl rfl _ 25 Kgw22.out (fillW_each hP k) HP.out (by rw [fillW_length hk]; exact hlt) size_digest ?_
            intro w6 hb6 hk6
            rw [HS.out] at hk6
            have H6 := hid (And.intro hk6 (And.intro (hb6.blk Kadw22.out (by omega)) (hb6.below HBw22.out HBw22.out.size (by omega))))
            clear hb6 hk6))
      exact ⟨⟨k + 1, by omega, by go_num, H6.out.1, H6.out.2.1, H6.out.2.2⟩, by simp [intOf]; omega⟩
    · skip
      have hk7 : k = 67 := by omega
      subst hk7
      have hc0 : ¬ ((67 : Int) < 67) := by omega
      rw [fillW_done] at Kgwr
      go_wp2_with fail
      go_ret
      exact ⟨(w.heap.size + 1), by omega, rfl, HBwr.out, Kgwr.out⟩
end Go.Proofs.YtkakoiaahgchmaaGreatDoor
namespace Go.Proofs.YtkakoiaahgchmaaGreatDoor
set_option maxRecDepth 100000
open Go.ChangeShapes Go.WideShapes Go.ChangeAt Go.RowKit
section
variable {P : Program} {ops : Array Oper} {rest : List Oper} {op : Oper} {a : Act} {w : World} {Q : Exit → Act → World → Prop}
theorem run_load_one {ty : TypeId} {ad : Addr} {v : Value} (w' : World) (hk : w'.cell? ad = some v) (d : TypeDesc) (hu : P.underlying ty = some d) (hd : d.isRow = false) : (loadVar ty ad).run P w' = .ok v w' := by
  have hagg : (isAgg ty).run P w' = .ok false w' := by
    unfold isAgg
    rw [Sem.run_bind, run_underlying hu w']
    cases d <;> simp_all
  simp [loadVar, Sem.run_bind, hagg, hk]
theorem quiet_load_one {C : World → Prop} {K : Act → Prop} (ty : TypeId) (x : Operand) (ho : op.op = .load ty x) (ad : Addr) (hx : a.eval x = .pointer (some ad)) (v : Value)
    (hk : ∀ w', C w' → w'.cell? ad = some v) (d : TypeDesc) (hu : P.underlying ty = some d) (hd : d.isRow = false)
    (h : K (a.put op.dst v)) : op.quiet P a C K :=
  ⟨v, fun w' hw' => by
    unfold Oper.quietAt execOp
    simp only [ho, hx, Instr.loadAt, Instr.sureAddr, Sem.run_bind, Sem.run_pure, Result.andThen_ok, run_load_one w' (hk w' hw') d hu hd]
    simp [Oper.quietUpon], h⟩
end
theorem digits_small {m : List Int} (h : Dg m) : ∀ x ∈ digits m, 0 ≤ x ∧ x ≤ 15 := fun x hx => by
  have hs := short_bounds (dig m) (dig_small m h.small)
  unfold digits at hx
  rcases List.mem_append.1 hx with hx | hx
  · exact dig_small m h.small x hx
  · simp only [List.mem_cons, List.not_mem_nil, or_false] at hx
    omega
/-- The digit at a place. -/
def dgN (m : List Int) (i : Nat) : Nat := ((digits m).getD i 0).toNat
theorem dgN_le {m : List Int} (h : Dg m) (i : Nat) : dgN m i ≤ 15 := by
  unfold dgN
  by_cases hi : i < (digits m).length
  · rw [List.getD_eq_getElem?_getD, List.getElem?_eq_getElem hi, Option.getD_some]
    have := digits_small h _ (List.getElem_mem hi)
    omega
  · rw [List.getD_eq_getElem?_getD, List.getElem?_eq_none (by omega), Option.getD_none]
    omega
theorem dgN_eq {m : List Int} (h : Dg m) {i : Nat} (hi : i < 67) : (digits m).getD i 0 = (dgN m i : Int) := by
  unfold dgN
  have hl := digits_length m h.len
  rw [List.getD_eq_getElem?_getD, List.getElem?_eq_getElem (by omega), Option.getD_some]
  have := digits_small h _ (List.getElem_mem (show i < (digits m).length by omega))
  omega
def partZ (seed ad : List Int) (i : Nat) : List Int := atZ seed (setAd ad i 0 0)
def pubP (seed pub ad : List Int) (i : Nat) : List Int := runZ pub (setAd ad i 0 0) (partZ seed ad i) 0 15
def sigP (m seed pub ad : List Int) (i : Nat) : List Int := runZ pub (setAd ad i 0 0) (partZ seed ad i) 0 (dgN m i)
def fromP (l : List (List Int)) (m pub ad : List Int) (i : Nat) : List Int := runZ pub (setAd ad i 0 0) (l.getD i zD) (dgN m i) (15 - dgN m i)
theorem Dg.getZ {l : List (List Int)} (h : ∀ d ∈ l, Dg d) (i : Nat) : Dg (l.getD i zD) := by
  by_cases hi : i < l.length
  · rw [List.getD_eq_getElem?_getD, List.getElem?_eq_getElem hi, Option.getD_some]
    exact h _ (List.getElem_mem hi)
  · rw [List.getD_eq_getElem?_getD, List.getElem?_eq_none (by omega), Option.getD_none]
    exact Dg.zero
theorem Dg.fromP {l : List (List Int)} (h : ∀ d ∈ l, Dg d) (m pub ad : List Int) (i : Nat) : Dg (fromP l m pub ad i) := Dg.run (Dg.getZ h i) _ _
theorem getZ {l : List (List Int)} {i : Nat} (h : i < l.length) : l.getD i zD = l.getD i [] := by
  simp [h]
set_option maxHeartbeats 4000000 in
theorem wrun_any (x pub ad : List Int) (from_ steps : Nat) (w : World) (hx : Dg x) (hpub : Dg pub) (had : Aw ad) (hf : from_ + steps ≤ 15) (tab : ShaTab w) :
    Calls Tryz.prog 126 #[(.agg (x.map (Value.int .u8)).toArray), .int .i64 from_, .int .i64 steps, (.agg (pub.map (Value.int .u8)).toArray), (.agg (ad.map (Value.int .u32)).toArray)] w fun e w' => e = .returned (.agg ((runZ pub ad x from_ steps).map (Value.int .u8)).toArray) ∧ Below w.heap.size w w' := by
  have HR := hid (Dg.run (pub := pub) (ad := ad) hx from_ steps)
  have C1 := hid (fun (W : World) (t : ShaTab W) => run_good x pub ad from_ steps W hx hpub had hf t)
  generalize runZ pub ad x from_ steps = R at *
  have b1 := (Below.refl w.heap.size w).alloc (Nat.le_refl _) (.cells (x.map (Value.int .u8)).toArray 25 (0, 0))
  have b2 := b1.alloc b1.size (.cells (pub.map (Value.int .u8)).toArray 25 (0, 0))
  have b3 := b2.alloc b2.size (.cells (ad.map (Value.int .u32)).toArray 66 (0, 0))
  have b4 := b3.alloc b3.size (.cells (byteCells 32 []) 25 (0, 0))
  have Kx := hid ((((Blk.new (w := w) (n := w.heap.size) rfl (x.map (Value.int .u8)).toArray 25).old (.cells (pub.map (Value.int .u8)).toArray 25 (0, 0))).old (.cells (ad.map (Value.int .u32)).toArray 66 (0, 0))).old (.cells (byteCells 32 []) 25 (0, 0)))
  have Kp := hid (((Blk.new (w := (w.alloc (.cells (x.map (Value.int .u8)).toArray 25 (0, 0)))) (n := w.heap.size + 1) (by simp only [World.size_alloc]) (pub.map (Value.int .u8)).toArray 25).old (.cells (ad.map (Value.int .u32)).toArray 66 (0, 0))).old (.cells (byteCells 32 []) 25 (0, 0)))
  have Kad := hid ((Blk.new (w := ((w.alloc (.cells (x.map (Value.int .u8)).toArray 25 (0, 0))).alloc (.cells (pub.map (Value.int .u8)).toArray 25 (0, 0)))) (n := w.heap.size + 1 + 1) (by simp only [World.size_alloc]) (ad.map (Value.int .u32)).toArray 66).old (.cells (byteCells 32 []) 25 (0, 0)))
  have Kr0 := hid (Blk.new (w := (((w.alloc (.cells (x.map (Value.int .u8)).toArray 25 (0, 0))).alloc (.cells (pub.map (Value.int .u8)).toArray 25 (0, 0))).alloc (.cells (ad.map (Value.int .u32)).toArray 66 (0, 0)))) (n := w.heap.size + 1 + 1 + 1) (by simp only [World.size_alloc]) (byteCells 32 []) 25)
  have Hb := hid b4
  have HzA := hid zsize
  have hbz := b4.size
  have Hbs := hid (show w.heap.size + 1 + 1 + 1 + 1 = ((((w.alloc (.cells (x.map (Value.int .u8)).toArray 25 (0, 0))).alloc (.cells (pub.map (Value.int .u8)).toArray 25 (0, 0))).alloc (.cells (ad.map (Value.int .u32)).toArray 66 (0, 0))).alloc (.cells (byteCells 32 []) 25 (0, 0))).heap.size by simp only [World.size_alloc])
  have Htab := hid tab
  clear b1 b2 b3 b4 tab
  go_enter Tryz.func126, Tryz.ntmps126
  go_wp2_with (first
     | (refine wpList_load_blk rfl 25 _ rfl (w.heap.size) rfl _ 25 Kx.out _ Tryz.underlying25 rfl 32 size_digest hx.size ?_)
     | (refine wpList_load_blk rfl 25 _ rfl (w.heap.size + 1) rfl _ 25 Kp.out _ Tryz.underlying25 rfl 32 size_digest hpub.size ?_)
     | (refine wpList_load_blk rfl 66 _ rfl (w.heap.size + 1 + 1) rfl _ 66 Kad.out _ Tryz.underlying66 rfl 8 sizeAdrs had.size ?_))
  refine (C1.out _ (Htab.out.below Hb.out)).mono ?_
  rintro e w1 ⟨rfl, bw1⟩
  have HBw1 := hid (Below.on Hb.out bw1)
  have hsw1 := HBw1.out.size
  have Kxw1 := hid (Kx.out.below bw1)
  have Kpw1 := hid (Kp.out.below bw1)
  have Kadw1 := hid (Kad.out.below bw1)
  have Kr0w1 := hid (Kr0.out.below bw1)
  clear bw1
  go_wp2_with (first
     | (
        refine wpList_store_blk rfl 25 _ _ rfl (w1.heap.size) (R.map (Value.int .u8)).toArray rfl rfl _ 25 (Blk.new rfl (byteCells 32 []) _) 32 size_digest HzA.out HR.out.size (ints_one _ _) ?_
        intro w2 hbw2 hkw2
        have HBw2 := hid (hbw2.below (HBw1.out.alloc HBw1.out.size _) (by simp only [World.size_alloc]; omega) (by have := HBw1.out.size; omega))
        have hsw2 := HBw2.out.size
        have Kyw2 := hid hkw2
        have Kxw2 := hid (hbw2.blk (Kxw1.out.old _) (by have := Kxw1.out.lt; omega))
        have Kpw2 := hid (hbw2.blk (Kpw1.out.old _) (by have := Kpw1.out.lt; omega))
        have Kadw2 := hid (hbw2.blk (Kadw1.out.old _) (by have := Kadw1.out.lt; omega))
        have Kr0w2 := hid (hbw2.blk (Kr0w1.out.old _) (by have := Kr0w1.out.lt; omega))
        clear hbw2 hkw2)
     | (refine wpList_load_blk rfl 25 _ rfl (w1.heap.size) rfl _ 25 Kyw2.out _ Tryz.underlying25 rfl 32 size_digest HR.out.size ?_)
     | (
      refine wpList_store_blk rfl 25 _ _ rfl (w.heap.size + 1 + 1 + 1) (R.map (Value.int .u8)).toArray rfl rfl _ 25 Kr0w2.out 32 size_digest HzA.out HR.out.size (ints_one _ _) ?_
      intro w9 hb9 hk9
      have HB9 := hid (hb9.below HBw2.out HBw2.out.size (by omega))
      have HK9 := hid hk9
      clear hb9 hk9))
  exact bodyPost_ret (v := (.agg (R.map (Value.int .u8)).toArray)) (results_blk Tryz.results126 _ (w.heap.size + 1 + 1 + 1) rfl _ 25 HK9.out _ Tryz.underlying25 rfl 32 size_digest HR.out.size) rfl ⟨rfl, HB9.out⟩
set_option maxHeartbeats 4000000 in
theorem from1_any (ls : List (List Int)) (na : Option Addr) (nc : Nat) (pub ad st : List Int) (i n bl bt bp : Nat) (w : World) (hN : DigsAt w na 67 nc ls) (hpub : Dg pub) (had : Aw ad) (hi : i < 67) (hn : n ≤ 15) (hst : (st.map (Value.int .i64)).toArray[i]? = some (.int .i64 (n : Int)))
    (kl : Blk w bl #[.slice na 67 nc] 33) (kt : Blk w bt (st.map (Value.int .i64)).toArray 159) (kp : Blk w bp (pub.map (Value.int .u8)).toArray 25) (tab : ShaTab w) :
    Calls Tryz.prog 125 #[.int .i64 i, (.agg (ad.map (Value.int .u32)).toArray), .pointer (some ⟨bl, 0, none⟩), .pointer (some ⟨bt, 0, none⟩), .pointer (some ⟨bp, 0, none⟩)] w fun e w' => e = .returned (.agg ((runZ pub ad (ls.getD i []) n (15 - n)).map (Value.int .u8)).toArray) ∧ Below w.heap.size w w' := by
  have HX := hid (hN.get (j := i) hi)
  have HD := hid hst
  have hi67 : (i : Int) < 67 := by omega
  have hmx := hN.max
  have hle := hN.le
  clear hst
  have HR := hid (Dg.run (pub := pub) (ad := ad) HX.out n (15 - n))
  have C2 := hid (show ∀ (W : World) (t : ShaTab W), Calls Tryz.prog 126 #[(.agg ((ls.getD i []).map (Value.int .u8)).toArray), .int .i64 n, .int .i64 (15 - (n : Int)), (.agg (pub.map (Value.int .u8)).toArray), (.agg (ad.map (Value.int .u32)).toArray)] W (fun e w' => e = .returned (.agg ((runZ pub ad (ls.getD i []) n (15 - n)).map (Value.int .u8)).toArray) ∧ Below W.heap.size W w') from fun W t => by
    have := wrun_any (ls.getD i []) pub ad n (15 - n) W HX.out hpub had (by omega) t
    rw [show ((15 - n : Nat) : Int) = 15 - (n : Int) by omega] at this
    exact this)
  have b1 := (Below.refl w.heap.size w).alloc (Nat.le_refl _) (.cells (ad.map (Value.int .u32)).toArray 66 (0, 0))
  have b2 := b1.alloc b1.size (.cells (byteCells 32 []) 25 (0, 0))
  have Ka := hid ((Blk.new (w := w) (n := w.heap.size) rfl (ad.map (Value.int .u32)).toArray 66).old (.cells (byteCells 32 []) 25 (0, 0)))
  have Kr0 := hid (Blk.new (w := (w.alloc (.cells (ad.map (Value.int .u32)).toArray 66 (0, 0)))) (n := w.heap.size + 1) (by simp only [World.size_alloc]) (byteCells 32 []) 25)
  have Hb := hid b2
  have HzA := hid zsize
  have hbz := b2.size
  have Hbs := hid (show w.heap.size + 1 + 1 = ((w.alloc (.cells (ad.map (Value.int .u32)).toArray 66 (0, 0))).alloc (.cells (byteCells 32 []) 25 (0, 0))).heap.size by simp only [World.size_alloc])
  have Kl := hid (kl.below b2)
  have Kt := hid (kt.below b2)
  have Kp := hid (kp.below b2)
  have Htab := hid tab
  clear b1 b2 tab
  obtain ⟨xs, xo, rfl, hxs, hcell⟩ := (hN.below Hb.out).at_ (by omega)
  have Hc := hid (hcell i hi)
  have Hxs := hid hxs
  clear hcell hxs hN
  generalize ls.getD i [] = X at *
  generalize runZ pub ad X n (15 - n) = R at *
  go_enter Tryz.func125, Tryz.ntmps125
  go_wp2_with fail
  refine wp_region_flow 14 (List.range 14) [] [] (by kernel_rfl) (by kernel_rfl) ?_
  apply Exists.intro
  refine ⟨fun w0 hb0 hF0 => ?_, ?_⟩
  · skip
    have x0 : ∀ w', (∃ x : Ext w0, w' = x.at_) → ∃ T, Blk w' (bp) (pub.map (Value.int .u8)).toArray T := fun w' ⟨x, hx⟩ => ⟨_, hx ▸ (Kp.out.below hb0).below x.same⟩
    have x1 : ∀ w', (∃ x : Ext w0, w' = x.at_) → ∃ T, Blk w' (w.heap.size) (ad.map (Value.int .u32)).toArray T := fun w' ⟨x, hx⟩ => ⟨_, hx ▸ (Ka.out.below hb0).below x.same⟩
    have c0 := fun e : Ext w0 => C2.out e.at_ ((Htab.out.below (Below.on Hb.out hb0)).below e.same)
    have y0 : ∀ w', (∃ x : Ext w0, w' = x.at_) → w'.cell? ⟨bt, i, none⟩ = some (.int .i64 (n : Int)) := fun w' ⟨x, hx⟩ => by rw [hx, (((Kt.out).below hb0).below x.same).cell, HD.out]
    have y1 : ∀ w', (∃ x : Ext w0, w' = x.at_) → w'.cell? ⟨bl, 0, none⟩ = some (.slice (some ⟨xs, xo, none⟩) 67 nc) := fun w' ⟨x, hx⟩ => by rw [hx, (((Kl.out).below hb0).below x.same).cell]; rfl
    have y2 : ∀ w', (∃ x : Ext w0, w' = x.at_) → w'.rangeAt xs (xo + i * 32) (X.map (Value.int .u8)) := fun w' ⟨x, hx⟩ => hx ▸ rangeAt_below (rangeAt_below Hc.out Hxs.out hb0) (Nat.lt_of_lt_of_le Hxs.out hb0.size) x.same
    simp only [pick, List.range, List.range.loop, List.getElem?_toArray, List.getElem?_cons_succ, List.getElem?_cons_zero, Option.toList_some, List.cons_append, List.nil_append]
    repeat (first | (go_big_quiet_want; refine quiet_load_blk 25 _ rfl (bp) rfl _ x0 _ Tryz.underlying25 rfl 32 size_digest hpub.size ?_; go_big_quiet_on; simp only [Act.put, List.setIfInBounds_toArray, List.set_cons_zero, List.set_cons_succ]) | (go_big_quiet_want; refine quiet_load_blk 66 _ rfl (w.heap.size) rfl _ x1 _ Tryz.underlying66 rfl 8 sizeAdrs had.size ?_; go_big_quiet_on; simp only [Act.put, List.setIfInBounds_toArray, List.set_cons_zero, List.set_cons_succ]) | (go_big_quiet_want; refine quiet_load_one 3 _ rfl ⟨bt, i, none⟩ rfl _ y0 _ Tryz.underlying3 rfl ?_; go_big_quiet_on; simp only [Act.put, List.setIfInBounds_toArray, List.set_cons_zero, List.set_cons_succ]) | (go_big_quiet_want; refine quiet_load_one 33 _ rfl ⟨bl, 0, none⟩ rfl _ y1 _ Tryz.underlying33 rfl ?_; go_big_quiet_on; simp only [Act.put, List.setIfInBounds_toArray, List.set_cons_zero, List.set_cons_succ]) | (go_big_quiet_want; refine quiet_index_digs 33 _ _ rfl Tryz.underlying33 size_digest xs xo 67 nc rfl _ _ rfl i (by omega) (by omega) ?_; go_big_quiet_on; simp only [Act.put, List.setIfInBounds_toArray, List.set_cons_zero, List.set_cons_succ]) | (go_big_quiet_want; refine quiet_load_mid 25 _ rfl xs (xo + i * 32) rfl _ y2 _ Tryz.underlying25 rfl (by rw [List.length_map, HX.out.len]; exact size_digest) ?_; go_big_quiet_on; simp only [Act.put, List.setIfInBounds_toArray, List.set_cons_zero, List.set_cons_succ]) | go_big_quiet_step (first | (go_at_call 126; with_reducible exact Calls.ext (c0 _))))
    exact wpQuiet_nil rfl
  refine AlChk.nil ?_
  refine Walk.fin fun w1 hw1 _ _ => ?_
  simp only [List.drop_succ_cons, List.drop_zero]
  have HBw1 := hid (Below.on Hb.out hw1)
  have hsw1 := HBw1.out.size
  have Kaw1 := hid (Ka.out.below hw1)
  have Kr0w1 := hid (Kr0.out.below hw1)
  have Klw1 := hid (Kl.out.below hw1)
  have Ktw1 := hid (Kt.out.below hw1)
  have Kpw1 := hid (Kp.out.below hw1)
  clear hw1
  go_wp2_with (
      refine wpList_store_blk rfl 25 _ _ rfl (w.heap.size + 1) (R.map (Value.int .u8)).toArray rfl rfl _ 25 Kr0w1.out 32 size_digest HzA.out HR.out.size (ints_one _ _) ?_
      intro w9 hb9 hk9
      have HB9 := hid (hb9.below HBw1.out HBw1.out.size (by omega))
      have HK9 := hid hk9
      clear hb9 hk9)
  exact bodyPost_ret (v := (.agg (R.map (Value.int .u8)).toArray)) (results_blk Tryz.results125 _ (w.heap.size + 1) rfl _ 25 HK9.out _ Tryz.underlying25 rfl 32 size_digest HR.out.size) rfl ⟨rfl, HB9.out⟩
end Go.Proofs.YtkakoiaahgchmaaGreatDoor
namespace Go.Proofs.YtkakoiaahgchmaaGreatDoor
set_option maxRecDepth 100000
open Go.ChangeShapes Go.WideShapes Go.ChangeAt Go.RowKit
theorem makeFunc_run (fn : Fn) (first cap : Array Value) (w : World) : (Instr.makeFunc fn first cap).run Tryz.prog w = .ok (.func fn first cap) w := rfl
section
variable {P : Program} {ops : Array Oper} {rest : List Oper} {op : Oper} {a : Act} {w : World} {Q : Exit → Act → World → Prop}
theorem wpList_load_slice_blk (hgd : op.guard = none) (ty : TypeId) (x : Operand) (ho : op.op = .load ty x) (b : Nat) (hx : a.eval x = .pointer (some ⟨b, 0, none⟩)) (sa : Option Addr) (n c : Nat) (T : TypeId) (hk : Blk w b #[.slice sa n c] T)
    {e : TypeId} (hu : P.underlying ty = some (.slice e)) (h : wpList P ops Q rest (a.put op.dst (.slice sa n c)) w) : wpList P ops Q (op :: rest) a w :=
  wpList_plain hgd fun K hK => by
    have hc : w.cell? ⟨b, 0, none⟩ = some (.slice sa n c) := by rw [hk.cell]; rfl
    unfold Oper.wp execOp
    simp only [ho, hx, Instr.loadAt, Instr.sureAddr, Sem.run_bind, Sem.run_pure, Result.andThen_ok, run_load_one w hc _ hu rfl, Oper.upon_value]
    exact hK _ _ h
end
set_option maxHeartbeats 4000000 in
theorem from_good (ls : List (List Int)) (na : Option Addr) (nc : Nat) (m pub ad : List Int) (w : World) (hN : DigsAt w na 67 nc ls) (hm : Dg m) (hpub : Dg pub) (had : Aw ad) (tab : ShaTab w) :
    Calls Tryz.prog 100 #[.slice na 67 nc, (.agg (m.map (Value.int .u8)).toArray), (.agg (pub.map (Value.int .u8)).toArray), (.agg (ad.map (Value.int .u32)).toArray)] w fun e w' => ∃ g, w.heap.size ≤ g ∧ e = .returned (.tuple #[.slice (some ⟨g, 0, none⟩) 67 67, .int .i64 0]) ∧ Below w.heap.size w w' ∧ Blk w' g (dcs (rowW (fromP ls m pub ad))) 25 := by
  have HN := hid hN
  have HE := hid hN.each
  have Hnl := hid hN.length
  clear hN
  have Hdl := hid (show ((digits m).map (Value.int .i64)).toArray.size = 67 by simp [digits_length m hm.len])
  have Hz67 := hid zero67
  have hmf := makeFunc_run
  have b1 := (Below.refl w.heap.size w).alloc (Nat.le_refl _) (.cells #[.slice na 67 nc] 33 (0, 0))
  have b2 := b1.alloc b1.size (.cells (m.map (Value.int .u8)).toArray 25 (0, 0))
  have b3 := b2.alloc b2.size (.cells (pub.map (Value.int .u8)).toArray 25 (0, 0))
  have b4 := b3.alloc b3.size (.cells (ad.map (Value.int .u32)).toArray 66 (0, 0))
  have Kl := hid ((((Blk.new (w := w) (n := w.heap.size) rfl #[.slice na 67 nc] 33).old (.cells (m.map (Value.int .u8)).toArray 25 (0, 0))).old (.cells (pub.map (Value.int .u8)).toArray 25 (0, 0))).old (.cells (ad.map (Value.int .u32)).toArray 66 (0, 0)))
  have Km := hid (((Blk.new (w := w.alloc (.cells #[.slice na 67 nc] 33 (0, 0))) (n := w.heap.size + 1) (by simp only [World.size_alloc]) (m.map (Value.int .u8)).toArray 25).old (.cells (pub.map (Value.int .u8)).toArray 25 (0, 0))).old (.cells (ad.map (Value.int .u32)).toArray 66 (0, 0)))
  have Kp := hid ((Blk.new (w := (w.alloc (.cells #[.slice na 67 nc] 33 (0, 0))).alloc (.cells (m.map (Value.int .u8)).toArray 25 (0, 0))) (n := w.heap.size + 1 + 1) (by simp only [World.size_alloc]) (pub.map (Value.int .u8)).toArray 25).old (.cells (ad.map (Value.int .u32)).toArray 66 (0, 0)))
  have Kad := hid (Blk.new (w := ((w.alloc (.cells #[.slice na 67 nc] 33 (0, 0))).alloc (.cells (m.map (Value.int .u8)).toArray 25 (0, 0))).alloc (.cells (pub.map (Value.int .u8)).toArray 25 (0, 0))) (n := w.heap.size + 1 + 1 + 1) (by simp only [World.size_alloc]) (ad.map (Value.int .u32)).toArray 66)
  have Hb := hid b4
  have Htab := hid tab
  clear b1 b2 b3 b4 tab
  go_enter Tryz.func100, Tryz.ntmps100
  go_wp2_with (first
     | (refine wpList_load_slice_blk rfl 33 _ rfl (w.heap.size) rfl _ _ _ 33 Kl.out Tryz.underlying33 ?_)
     | (refine wpList_load_blk rfl 25 _ rfl (w.heap.size + 1) rfl _ 25 Km.out _ Tryz.underlying25 rfl 32 size_digest hm.size ?_))
  refine (digits_any m hm.len hm.small _).mono ?_
  rintro e w1 ⟨rfl, bw1⟩
  have HBw1 := hid (Below.on Hb.out bw1)
  have hsw1 := HBw1.out.size
  have Klw1 := hid (Kl.out.below bw1)
  have Kmw1 := hid (Km.out.below bw1)
  have Kpw1 := hid (Kp.out.below bw1)
  have Kadw1 := hid (Kad.out.below bw1)
  clear bw1
  go_wp2_with (first
     | (
        refine wpList_store_blk rfl 159 _ _ rfl (w1.heap.size) ((digits m).map (Value.int .i64)).toArray rfl rfl _ 159 (Blk.new rfl (zeros .i64 67) _) 67 size67 (by simp [zeros]) Hdl.out (ints_one _ _) ?_
        intro w2 hbw2 hkw2
        have HBw2 := hid (hbw2.below (HBw1.out.alloc HBw1.out.size _) (by simp only [World.size_alloc]; omega) (by have := HBw1.out.size; omega))
        have hsw2 := HBw2.out.size
        have Ktw2 := hid hkw2
        have Klw2 := hid (hbw2.blk (Klw1.out.old _) (by have := Klw1.out.lt; omega))
        have Kmw2 := hid (hbw2.blk (Kmw1.out.old _) (by have := Kmw1.out.lt; omega))
        have Kpw2 := hid (hbw2.blk (Kpw1.out.old _) (by have := Kpw1.out.lt; omega))
        have Kadw2 := hid (hbw2.blk (Kadw1.out.old _) (by have := Kadw1.out.lt; omega))
        clear hbw2 hkw2)
     | (refine wpList_load_blk rfl 66 _ rfl (w.heap.size + 1 + 1 + 1) rfl _ 66 Kadw2.out _ Tryz.underlying66 rfl 8 sizeAdrs had.size ?_))
  refine (each_any ad 125 #[.pointer (some ⟨w.heap.size, 0, none⟩), .pointer (some ⟨w1.heap.size, 0, none⟩), .pointer (some ⟨w.heap.size + 1 + 1, 0, none⟩)] (fromP ls m pub ad) _ had (Dg.fromP HE.out m pub ad) (enter_run Tryz.func125 rfl rfl) (fun i hi W hb => ?_)).mono ?_
  · simp only [List.append_toArray, List.cons_append, List.nil_append]
    exact by
      have := from1_any ls na nc pub (setAd ad i 0 0) (digits m) i (dgN m i) (w.heap.size) (w1.heap.size) (w.heap.size + 1 + 1) W (HN.out.below (Below.on HBw2.out hb)) hpub (had.set (by omega) (by omega) (by omega)) hi (dgN_le hm i) (by simp only [List.getElem?_toArray, List.getElem?_map]; have := dgN_eq hm hi; rw [List.getD_eq_getElem?_getD] at this; rw [List.getElem?_eq_getElem (by rw [digits_length m hm.len]; exact hi)] at this ⊢; simpa using this) (Klw2.out.below hb) (Ktw2.out.below hb) (Kpw2.out.below hb) ((Htab.out.below HBw2.out).below hb)
      rw [← getZ (l := ls) (i := i) (by rw [Hnl.out]; exact hi)] at this
      exact this
  rintro e w9 ⟨g, hg, rfl, b9, kg⟩
  have hgw : w.heap.size ≤ g := Nat.le_trans HBw2.out.size hg
  have HB9 := hid (Below.on HBw2.out b9)
  have HG := hid kg
  clear b9 kg hg
  go_wp2_with fail
  go_ret2
  exact ⟨g, hgw, rfl, HB9.out, HG.out⟩
end Go.Proofs.YtkakoiaahgchmaaGreatDoor
namespace Go.Proofs.YtkakoiaahgchmaaGreatDoor
set_option maxRecDepth 100000
open Go.ChangeShapes Go.WideShapes Go.ChangeAt Go.RowKit
def preW (P : Nat → List Int) (k : Nat) : List (List Int) := (List.range k).map P
theorem preW_succ (P : Nat → List Int) (k : Nat) : preW P (k + 1) = preW P k ++ [P k] := by
  unfold preW
  rw [List.range_succ, List.map_append]
  rfl
theorem preW_length (P : Nat → List Int) (k : Nat) : (preW P k).length = k := by simp [preW]
theorem preW_full (P : Nat → List Int) : preW P 67 = rowW P := rfl
/-- A row of digests, wherever it lies. -/
def RowV (n : Nat) (ds : List (List Int)) (v : Value) (w : World) : Prop := ∃ a cap, v = .slice a n cap ∧ DigsAt w a n cap ds
theorem RowV.below {n : Nat} {ds : List (List Int)} {v : Value} {w w' : World} (h : RowV n ds v w) (hb : Below w.heap.size w w') : RowV n ds v w' := by
  obtain ⟨a, c, h1, h2⟩ := h
  exact ⟨a, c, h1, h2.below hb⟩
theorem RowV.of_own {w : World} {base n : Nat} {e : TypeId} {v : Value} {ds : List (List Int)} (h : OwnD w base e v ds) (hn : ds.length = n) : RowV n ds v w := by
  subst hn
  obtain ⟨a, c, h1, h2, _⟩ := h.digs
  exact ⟨a, c, h1, h2⟩
theorem RowV.digs {w : World} {a : Option Addr} {n c m : Nat} {ds : List (List Int)} (h : RowV m ds (.slice a n c) w) : n = m ∧ DigsAt w a n c ds := by
  obtain ⟨a', c', h1, h2⟩ := h
  injection h1 with h3 h4 h5
  subst h3 h4 h5
  exact ⟨rfl, h2⟩
/-- 67 numbers, wherever they lie. -/
def IntV (F : Nat → Nat) (v : Value) (w : World) : Prop := ∃ g cap, v = .slice (some ⟨g, 0, none⟩) 67 cap ∧ g < w.heap.size ∧ ∀ i, i < 67 → w.cell? ⟨g, i, none⟩ = some (.int .i64 (F i : Int))
theorem IntV.below {F : Nat → Nat} {v : Value} {w w' : World} (h : IntV F v w) (hb : Below w.heap.size w w') : IntV F v w' := by
  obtain ⟨g, c, h1, h2, h3⟩ := h
  exact ⟨g, c, h1, Nat.lt_of_lt_of_le h2 hb.size, fun i hi => (hb.cell h2).trans (h3 i hi)⟩
theorem IntV.ints {F : Nat → Nat} {g cap : Nat} {w : World} (h : IntV F (.slice (some ⟨g, 0, none⟩) 67 cap) w) : g < w.heap.size ∧ ∀ i, i < 67 → w.cell? ⟨g, i, none⟩ = some (.int .i64 (F i : Int)) := by
  obtain ⟨g', c', h1, h2, h3⟩ := h
  injection h1 with h4
  injection h4 with h4
  injection h4 with h4
  subst h4
  exact ⟨h2, h3⟩
theorem IntV.of_own {F : Nat → Nat} {w : World} {base g cap : Nat} {e : TypeId} {l : List Value} (h : w.ownsRow base e 1 (.slice (some ⟨g, 0, none⟩) 67 cap) 67 l) (hl : ∀ i, i < 67 → l[i]? = some (.int .i64 (F i : Int))) : IntV F (.slice (some ⟨g, 0, none⟩) 67 cap) w := by
  obtain ⟨_, ⟨h1, h2⟩ | ⟨g', cap', cur, h1, _, hh, _, _, _, htk⟩⟩ := h
  · omega
  · injection h1 with h4
    injection h4 with h4
    injection h4 with h4
    subst h4
    refine ⟨g, cap, rfl, (Array.getElem?_eq_some_iff.1 hh).1, fun i hi => ?_⟩
    have hb : Blk w g cur e := hh
    have h5 := hl i hi
    rw [hb.cell, ← h5, ← htk, List.getElem?_take_of_lt (by omega)]
    simp
theorem FlowB.ButIn.cell {S : List Nat} {w w' : World} {g i : Nat} {v : Value} (h : FlowB.ButIn S w w') (hx : g < w.heap.size) (hb : g ∉ S) (k : w.cell? ⟨g, i, none⟩ = some v) : w'.cell? ⟨g, i, none⟩ = some v := by
  rw [← k]
  unfold World.cell?
  rw [h.block g hx hb]
set_option maxHeartbeats 4000000 in
theorem refruns_any (P : Nat → List Int) (F T : Nat → Nat) (ls : List (List Int)) (na : Option Addr) (nc ga ca gb cb : Nat) (pub ad : List Int) (w : World) (hP : ∀ i, Dg (P i)) (hN : DigsAt w na 67 nc ls) (hpub : Dg pub) (had : Aw ad)
    (hga : ga < w.heap.size) (hF : ∀ i, i < 67 → w.cell? ⟨ga, i, none⟩ = some (.int .i64 (F i : Int))) (hgb : gb < w.heap.size) (hT : ∀ i, i < 67 → w.cell? ⟨gb, i, none⟩ = some (.int .i64 (T i : Int))) (hFT : ∀ i, F i ≤ T i ∧ T i ≤ 15)
    (hr : ∀ i, i < 67 → ∀ W, Calls Tryz.prog 93 #[(.agg ((ls.getD i []).map (Value.int .u8)).toArray), .int .i64 (F i : Int), .int .i64 ((T i : Int) - (F i : Int)), (.agg (pub.map (Value.int .u8)).toArray), (.agg ((setAd ad i 0 0).map (Value.int .u32)).toArray)] W (fun e w' => e = .returned (.agg ((P i).map (Value.int .u8)).toArray) ∧ Below W.heap.size W w')) :
    Calls Tryz.prog 61 #[.slice na 67 nc, .slice (some ⟨ga, 0, none⟩) 67 ca, .slice (some ⟨gb, 0, none⟩) 67 cb, (.agg (pub.map (Value.int .u8)).toArray), (.agg (ad.map (Value.int .u32)).toArray)] w fun e w' => ∃ v, e = .returned v ∧ Below w.heap.size w w' ∧ OwnD w' w.heap.size 25 v (rowW P) := by
  have HN := hid hN
  have hle := hN.le
  have hmx := hN.max
  clear hN
  have b1 := (Below.refl w.heap.size w).alloc (Nat.le_refl _) (.cells (pub.map (Value.int .u8)).toArray 25 (0, 0))
  have b2 := b1.alloc b1.size (.cells (ad.map (Value.int .u32)).toArray 66 (0, 0))
  have Kp := hid ((Blk.new (w := w) (n := w.heap.size) rfl (pub.map (Value.int .u8)).toArray 25).old (.cells (ad.map (Value.int .u32)).toArray 66 (0, 0)))
  have Kad := hid (Blk.new (w := (w.alloc (.cells (pub.map (Value.int .u8)).toArray 25 (0, 0)))) (n := w.heap.size + 1) (by simp only [World.size_alloc]) (ad.map (Value.int .u32)).toArray 66)
  have Hb := hid b2
  have HzA := hid zsize
  have hbz := b2.size
  have Hbs := hid (show w.heap.size + 1 + 1 = ((w.alloc (.cells (pub.map (Value.int .u8)).toArray 25 (0, 0))).alloc (.cells (ad.map (Value.int .u32)).toArray 66 (0, 0))).heap.size by simp only [World.size_alloc])
  clear b1 b2
  have hs0 := Hb.out.size
  go_enter Tryz.func61, Tryz.ntmps61
  go_wp2_with fail
  have HO0 := hid (OwnD.nil ((w.alloc (.cells (pub.map (Value.int .u8)).toArray 25 (0, 0))).alloc (.cells (ad.map (Value.int .u32)).toArray 66 (0, 0))) (w.heap.size + 1 + 1) 25)
  go_loopw [11, 12] (fun v iv wr => ∃ k : Nat, k ≤ 67 ∧ iv = .int .i64 k ∧ OwnD wr (w.heap.size + 1 + 1) 25 v (preW P k) ∧ Blk wr (w.heap.size) (pub.map (Value.int .u8)).toArray 25 ∧ Blk wr (w.heap.size + 1) (ad.map (Value.int .u32)).toArray 66 ∧ Below w.heap.size w wr ∧ (w.heap.size + 1 + 1) ≤ wr.heap.size) (fun _ iv _ => 67 - (intOf iv).toNat)
  case atStart => exact ⟨0, Nat.zero_le _, rfl, HO0.out, Kp.out, Kad.out, Hb.out, by rw [Hbs.out]; exact Nat.le_refl _⟩
  case round =>
    clear HO0 Kp Kad Hb
    obtain ⟨k, hk, rfl, ho, kp, kad, bel, hsz⟩ := hrel
    have HO := hid ho
    have Kp := hid kp
    have Kad := hid kad
    have HB := hid bel
    clear ho kp kad bel
    by_cases hlt : k < 67
    · have hc0 : (k : Int) < 67 := by omega
      have HJ := hid (hP k)
      have HL := hid (preW_succ P k)
      have HLl := hid (preW_length P k)
      obtain ⟨i0, hi, hz0, hz1, hz2⟩ := info_parts info_dig
      have HX := hid (HN.out.get (j := k) (by omega))
      have HC := hid (hr k hlt)
      obtain ⟨xs, xo, rfl, hxs, hcell⟩ := HN.out.at_ (by omega)
      have Hc := hid (rangeAt_below (hcell k hlt) hxs HB.out)
      have hxs' := Nat.lt_of_lt_of_le hxs HB.out.size
      have Hga := hid ((HB.out.cell hga).trans (hF k hlt))
      have Hgb := hid ((HB.out.cell hgb).trans (hT k hlt))
      have hga' := Nat.lt_of_lt_of_le hga HB.out.size
      have hgb' := Nat.lt_of_lt_of_le hgb HB.out.size
      have hft := hFT k
      clear hcell
      generalize ls.getD k [] = X at *
      generalize F k = F1 at *
      generalize T k = T1 at *
      generalize hJ : P k = J at *
      generalize hL : preW P k = L at *
      go_wp2_with fail
      refine FlowB.wp_region_butIn (u11.ownBlock.toList) (fun wz => OwnD wz (w.heap.size + 1 + 1) 25 u11 L) 26 (List.range 24) [24] [(.b 24, [], []), (.c 25, [], [])] (by kernel_rfl) (by kernel_rfl) HO.out (fun _ _ h hb => h.below hb) ?_
      apply Exists.intro
      refine ⟨fun w0 hb0 hF0 => ?_, ?_⟩
      · skip
        have x0 : ∀ w', (∃ x : Ext w0, w' = x.at_) → ∃ T, Blk w' (w.heap.size) (pub.map (Value.int .u8)).toArray T := fun w' ⟨x, hx⟩ => ⟨_, hx ▸ (hb0.blk Kp.out (own_low HO.out (by omega))).below x.same⟩
        have x1 : ∀ w', (∃ x : Ext w0, w' = x.at_) → ∃ T, Blk w' (w.heap.size + 1) (ad.map (Value.int .u32)).toArray T := fun w' ⟨x, hx⟩ => ⟨_, hx ▸ (hb0.blk Kad.out (own_low HO.out (by omega))).below x.same⟩
        have x2 : ∀ w', (∃ x : Ext w0, w' = x.at_) → w'.rangeAt xs (xo + k * 32) (X.map (Value.int .u8)) := fun w' ⟨x, hx⟩ => hx ▸ rangeAt_below (hb0.range hxs' (own_low HO.out (by omega)) Hc.out) (Nat.lt_of_lt_of_le hxs' hb0.size) x.same
        have y0 : ∀ w', (∃ x : Ext w0, w' = x.at_) → w'.cell? ⟨ga, k, none⟩ = some (.int .i64 (F1 : Int)) := fun w' ⟨x, hx⟩ => by rw [hx]; exact (x.same.cell (Nat.lt_of_lt_of_le hga' hb0.size)).trans (hb0.cell hga' (own_low HO.out (by omega)) Hga.out)
        have y1 : ∀ w', (∃ x : Ext w0, w' = x.at_) → w'.cell? ⟨gb, k, none⟩ = some (.int .i64 (T1 : Int)) := fun w' ⟨x, hx⟩ => by rw [hx]; exact (x.same.cell (Nat.lt_of_lt_of_le hgb' hb0.size)).trans (hb0.cell hgb' (own_low HO.out (by omega)) Hgb.out)
        have c0 := fun e : Ext w0 => refat_list ad k 0 0 e.at_ had
        have c1 := fun e : Ext w0 => HC.out e.at_
        simp only [pick, List.range, List.range.loop, List.getElem?_toArray, List.getElem?_cons_succ, List.getElem?_cons_zero, Option.toList_some, List.cons_append, List.nil_append]
        repeat (first | (go_big_quiet_want; refine quiet_load_blk 25 _ rfl (w.heap.size) rfl _ x0 _ Tryz.underlying25 rfl 32 size_digest hpub.size ?_; go_big_quiet_on; simp only [Act.put, List.setIfInBounds_toArray, List.set_cons_zero, List.set_cons_succ]) | (go_big_quiet_want; refine quiet_load_blk 66 _ rfl (w.heap.size + 1) rfl _ x1 _ Tryz.underlying66 rfl 8 sizeAdrs had.size ?_; go_big_quiet_on; simp only [Act.put, List.setIfInBounds_toArray, List.set_cons_zero, List.set_cons_succ]) | (go_big_quiet_want; refine quiet_index_digs 33 _ _ rfl Tryz.underlying33 size_digest xs xo 67 nc rfl _ _ rfl k (by omega) (by omega) ?_; go_big_quiet_on; simp only [Act.put, List.setIfInBounds_toArray, List.set_cons_zero, List.set_cons_succ]) | (go_big_quiet_want; refine quiet_load_mid 25 _ rfl xs (xo + k * 32) rfl _ x2 _ Tryz.underlying25 rfl (by rw [List.length_map, HX.out.len]; exact size_digest) ?_; go_big_quiet_on; simp only [Act.put, List.setIfInBounds_toArray, List.set_cons_zero, List.set_cons_succ]) | (go_big_quiet_want; refine quiet_load_one 3 _ rfl ⟨ga, k, none⟩ rfl _ y0 _ Tryz.underlying3 rfl ?_; go_big_quiet_on; simp only [Act.put, List.setIfInBounds_toArray, List.set_cons_zero, List.set_cons_succ]) | (go_big_quiet_want; refine quiet_load_one 3 _ rfl ⟨gb, k, none⟩ rfl _ y1 _ Tryz.underlying3 rfl ?_; go_big_quiet_on; simp only [Act.put, List.setIfInBounds_toArray, List.set_cons_zero, List.set_cons_succ]) | go_big_quiet_step (first | (go_at_call 94; with_reducible exact Calls.ext (c0 _)) | (go_at_call 93; with_reducible exact Calls.ext (c1 _))))
        exact wpQuiet_nil rfl
      refine FlowB.AlChk.one rfl (fun b => .slice (some ⟨b, 0, none⟩) 1 1) (.cells (J.map (Value.int .u8)).toArray 25 (0, 0)) rfl (FlowB.st_butIn _ (own_size HO.out)) (fun w2 hb2 hF2 => exec_build_one rfl rfl HJ.out) ?_
      refine FlowB.AlChk.nil ?_
      refine FlowB.Walk.blk rfl (fun b => .slice (some ⟨b, 0, none⟩) 1 1) (.cells (J.map (Value.int .u8)).toArray 25 (0, 0)) (by simp) ?_
      intro b9 w2 hb2 hF2 hge9 _
      apply Exists.intro
      refine ⟨fun w2 hb2 hF2 => wpQuiet_nil rfl, ?_⟩
      refine FlowB.AlChk.nil ?_
      refine FlowB.Walk.does rfl (fun _ _ => True) (fun v w' => OwnD w' (w.heap.size + 1 + 1) 25 v (L ++ [J])) (fun v w' w'' _ h _ => h) (fun v w' w'' h k => h.below k) rfl (fun w2 hb2 hF2 hG2 => ?_) ?_
      · have k9 : Blk w2 b9 (J.map (Value.int .u8)).toArray 25 := hF2.2
        obtain ⟨v', w', hr, q2, q3, q4⟩ := run_append_dig (P := Tryz.prog) _ Tryz.underlying33 hi hz0 zD_cells32 hz1 hz2 hG2 k9 HJ.out (by rw [HLl.out]; omega) (Nat.le_trans hsz hb2.size)
        exact ⟨v', w', FlowB.exec_append rfl rfl rfl hr, FlowB.ButIn.of_grown q3, trivial, q2⟩
      rintro v3 w3 hb3 hF3 _
      apply Exists.intro
      refine ⟨fun w2 hb2 hF2 => wpQuiet_nil rfl, ?_⟩
      refine FlowB.AlChk.nil ?_
      refine FlowB.Walk.fin fun w4 h4 _ hG4 => ?_
      simp only [List.drop_succ_cons, List.drop_zero]
      have HG4 := hid hG4
      rw [← HL.out] at HG4
      have Kp4 := hid (h4.blk Kp.out (own_low HO.out (by omega)))
      have Kad4 := hid (h4.blk Kad.out (own_low HO.out (by omega)))
      have HB4 := hid (h4.below HB.out HB.out.size (fun b hb => by have := own_from HO.out b hb; omega))
      have hsz4 := Nat.le_trans hsz h4.size
      clear h4 hG4
      go_wp2_with fail
      exact ⟨⟨k + 1, by omega, by first | rfl | simp, HG4.out, Kp4.out, Kad4.out, HB4.out, hsz4⟩, by simp [intOf]; omega⟩
    · have hk7 : k = 67 := by omega
      subst hk7
      have hc0 : ¬ ((67 : Int) < 67) := by omega
      have HF := hid (HO.out.re (base' := w.heap.size) (by omega))
      rw [preW_full] at HF
      go_wp2_with fail
      go_ret
      exact ⟨_, rfl, HB.out, HF.out⟩
set_option maxHeartbeats 4000000 in
theorem refall_any (n : Int) (w : World) :
    Calls Tryz.prog 63 #[.int .i64 n] w fun e w' => ∃ g cap, e = .returned (.slice (some ⟨g, 0, none⟩) 67 cap) ∧ Below w.heap.size w w' ∧ w'.ownsRow w.heap.size 3 1 (.slice (some ⟨g, 0, none⟩) 67 cap) 67 (List.replicate 67 (Value.int .i64 n)) := by
  obtain ⟨i0, hi, hz0, hz1, hz2⟩ := info_parts infoInt
  go_enter Tryz.func63, Tryz.ntmps63
  go_wp2_with fail
  go_loopw [3, 4] (fun v i wr => ∃ k : Nat, k ≤ 67 ∧ i = .int .i64 k ∧ wr.ownsRow w.heap.size 3 1 v k (List.replicate k (Value.int .i64 n)) ∧ Below w.heap.size w wr) (fun _ i _ => 67 - (intOf i).toNat)
  case atStart => exact ⟨0, by omega, rfl, World.ownsRow_nil _ _ _ _, Below.refl _ _⟩
  case round =>
    obtain ⟨k, hk, rfl, hown, bel⟩ := hrel
    by_cases hlt : k < 67
    · have hc0 : (k : Int) < 67 := by omega
      have hbs := bel.size
      go_wp2_with (at_builtin; refine wpList_append_own _ rfl _ _ 73 rfl w.heap.size 3 i0 (.int .i64 0) 1 8 Tryz.underlying73 hi hz0 hz1 hz2 rfl (by decide) u3 k _ rfl (hown.alloc _) ⟨wr.heap.size, 0, none⟩ 1 1 [.int .i64 n] rfl rfl ?c1 ?c2 ?c3 ?c4 ?c5 ?_)
      case c1 => exact news_new wr [.int .i64 n] 3
      case c2 => simp [Value.oneCell']
      case c3 => unfold maxLen; omega
      case c4 => omega
      case c5 => simp; omega
      intro v' w1 hown' hgrow _
      have hlt1 := hown.lt
      have bel' := (bel.alloc hbs (Obj.cells #[.int .i64 n] 3)).grown hgrow (by simp; omega) (fun q hq => by have := hlt1 q hq; omega)
      clear hown bel hgrow hlt1
      go_wp2
      exact ⟨⟨k + 1, by omega, by go_num, by rw [List.replicate_succ']; exact hown', bel'⟩, by simp [intOf]; omega⟩
    · obtain rfl : k = 67 := by omega
      have hv : ∃ g cap, u3 = .slice (some ⟨g, 0, none⟩) 67 cap := by
        obtain ⟨_, h | ⟨g, cap, cur, h, _⟩⟩ := hown
        · omega
        · exact ⟨g, cap, h⟩
      obtain ⟨g, cap, rfl⟩ := hv
      go_wp2_with fail
      go_ret
      exact ⟨g, cap, rfl, bel, hown⟩
end Go.Proofs.YtkakoiaahgchmaaGreatDoor
namespace Go.Proofs.YtkakoiaahgchmaaGreatDoor
set_option maxRecDepth 100000
open Go.ChangeShapes Go.WideShapes Go.ChangeAt Go.RowKit
theorem refrun_at (pub ad x : List Int) (F T : Nat) (hpub : Dg pub) (had : Aw ad) (hx : Dg x) (hf : F ≤ T ∧ T ≤ 15) (w : World) :
    Calls Tryz.prog 93 #[.agg (x.map (Value.int .u8)).toArray, .int .i64 (F : Int), .int .i64 ((T : Int) - (F : Int)), .agg (pub.map (Value.int .u8)).toArray, .agg (ad.map (Value.int .u32)).toArray] w fun e w' => e = .returned (.agg ((runZ pub ad x F (T - F)).map (Value.int .u8)).toArray) ∧ Below w.heap.size w w' := by
  have := refrun_any pub ad F hpub had (T - F) x w hx (by omega)
  rw [show ((T - F : Nat) : Int) = (T : Int) - (F : Int) by omega] at this
  exact this
theorem refall_v (k : Nat) (w : World) : Calls Tryz.prog 63 #[.int .i64 (k : Int)] w fun e w' => ∃ v, e = .returned v ∧ Below w.heap.size w w' ∧ IntV (fun _ => k) v w' :=
  (refall_any (k : Int) w).mono fun _ _ ⟨g, c, h1, h2, h3⟩ => ⟨_, h1, h2, IntV.of_own h3 fun i hi => by rw [List.getElem?_replicate, if_pos hi]⟩
theorem refof_v (m : List Int) (hm : Dg m) (w : World) : Calls Tryz.prog 62 #[.agg (m.map (Value.int .u8)).toArray] w fun e w' => ∃ v, e = .returned v ∧ Below w.heap.size w w' ∧ IntV (dgN m) v w' :=
  (refdigits_any m hm.len hm.small w).mono fun _ _ ⟨g, c, h1, h2, h3⟩ => ⟨_, h1, h2, IntV.of_own h3 fun i hi => by
    have h4 := dgN_eq hm hi
    have hl := digits_length m hm.len
    rw [List.getD_eq_getElem?_getD, List.getElem?_eq_getElem (by omega), Option.getD_some] at h4
    rw [List.getElem?_map, List.getElem?_eq_getElem (by omega), Option.map_some, h4]⟩
set_option maxHeartbeats 4000000 in
theorem reffrom_any (ls : List (List Int)) (a1 : Option Addr) (c1 : Nat) (m pub ad : List Int) (w : World) (hN : DigsAt w a1 67 c1 ls) (hm : Dg m) (hpub : Dg pub) (had : Aw ad) :
    Calls Tryz.prog 24 #[.slice a1 67 c1, (.agg (m.map (Value.int .u8)).toArray), (.agg (pub.map (Value.int .u8)).toArray), (.agg (ad.map (Value.int .u32)).toArray)] w fun e w' => ∃ v, e = .returned v ∧ Below w.heap.size w w' ∧ RowV 67 (rowW (fromP ls m pub ad)) v w' := by
  have HN := hid hN
  have HE := hid hN.each
  have Hnl := hid hN.length
  clear hN
  have b1 := (Below.refl w.heap.size w).alloc (Nat.le_refl _) (.cells (m.map (Value.int .u8)).toArray 25 (0, 0))
  have b2 := b1.alloc b1.size (.cells (pub.map (Value.int .u8)).toArray 25 (0, 0))
  have b3 := b2.alloc b2.size (.cells (ad.map (Value.int .u32)).toArray 66 (0, 0))
  have Km := hid (((Blk.new (w := w) (n := w.heap.size) rfl (m.map (Value.int .u8)).toArray 25).old (.cells (pub.map (Value.int .u8)).toArray 25 (0, 0))).old (.cells (ad.map (Value.int .u32)).toArray 66 (0, 0)))
  have Kp := hid ((Blk.new (w := (w.alloc (.cells (m.map (Value.int .u8)).toArray 25 (0, 0)))) (n := w.heap.size + 1) (by simp only [World.size_alloc]) (pub.map (Value.int .u8)).toArray 25).old (.cells (ad.map (Value.int .u32)).toArray 66 (0, 0)))
  have Kad := hid (Blk.new (w := ((w.alloc (.cells (m.map (Value.int .u8)).toArray 25 (0, 0))).alloc (.cells (pub.map (Value.int .u8)).toArray 25 (0, 0)))) (n := w.heap.size + 1 + 1) (by simp only [World.size_alloc]) (ad.map (Value.int .u32)).toArray 66)
  have Hb := hid b3
  have HzA := hid zsize
  have hbz := b3.size
  have Hbs := hid (show w.heap.size + 1 + 1 + 1 = (((w.alloc (.cells (m.map (Value.int .u8)).toArray 25 (0, 0))).alloc (.cells (pub.map (Value.int .u8)).toArray 25 (0, 0))).alloc (.cells (ad.map (Value.int .u32)).toArray 66 (0, 0))).heap.size by simp only [World.size_alloc])
  clear b1 b2 b3
  go_enter Tryz.func24, Tryz.ntmps24
  go_wp2_with fail
  refine wp_region_flow 7 [0, 1, 4, 5] [] [(.c 2, [], []), (.c 3, [], []), (.c 6, [], [])] (by kernel_rfl) (by kernel_rfl) ?_
  apply Exists.intro
  refine ⟨fun w0 hb0 hF0 => ?_, ?_⟩
  · skip
    have x0 : ∀ w', (∃ x : Ext w0, w' = x.at_) → ∃ T, Blk w' (w.heap.size + 1) (pub.map (Value.int .u8)).toArray T := fun w' ⟨x, hx⟩ => ⟨_, hx ▸ (Kp.out.below hb0).below x.same⟩
    have x1 : ∀ w', (∃ x : Ext w0, w' = x.at_) → ∃ T, Blk w' (w.heap.size + 1 + 1) (ad.map (Value.int .u32)).toArray T := fun w' ⟨x, hx⟩ => ⟨_, hx ▸ (Kad.out.below hb0).below x.same⟩
    have x2 : ∀ w', (∃ x : Ext w0, w' = x.at_) → ∃ T, Blk w' (w.heap.size) (m.map (Value.int .u8)).toArray T := fun w' ⟨x, hx⟩ => ⟨_, hx ▸ (Km.out.below hb0).below x.same⟩
    simp only [pick, List.getElem?_toArray, List.getElem?_cons_succ, List.getElem?_cons_zero, Option.toList_some, List.cons_append, List.nil_append]
    repeat (first | (go_big_quiet_want; refine quiet_load_blk 25 _ rfl (w.heap.size + 1) rfl _ x0 _ Tryz.underlying25 rfl 32 size_digest hpub.size ?_; go_big_quiet_on; simp only [Act.put, List.setIfInBounds_toArray, List.set_cons_zero, List.set_cons_succ]) | (go_big_quiet_want; refine quiet_load_blk 66 _ rfl (w.heap.size + 1 + 1) rfl _ x1 _ Tryz.underlying66 rfl 8 sizeAdrs had.size ?_; go_big_quiet_on; simp only [Act.put, List.setIfInBounds_toArray, List.set_cons_zero, List.set_cons_succ]) | (go_big_quiet_want; refine quiet_load_blk 25 _ rfl (w.heap.size) rfl _ x2 _ Tryz.underlying25 rfl 32 size_digest hm.size ?_; go_big_quiet_on; simp only [Act.put, List.setIfInBounds_toArray, List.set_cons_zero, List.set_cons_succ]) | go_big_quiet_step (fail))
    exact wpQuiet_nil rfl
  refine AlChk.nil ?_
  refine Walk.call rfl 62 #[(.agg (m.map (Value.int .u8)).toArray)] (IntV (dgN m)) (fun v w' w'' h k => h.below k) rfl (fun w1 hb1 hF1 => ⟨by go_simp, ?_⟩) ?_
  · exact refof_v m hm w1
  rintro v w1 hb1 hF1 ⟨g2, c2, rfl, _⟩
  apply Exists.intro
  refine ⟨fun w2 hb2 hF2 => wpQuiet_nil rfl, ?_⟩
  refine AlChk.nil ?_
  refine Walk.call rfl 63 #[.int .i64 15] (IntV (fun _ => 15)) (fun v w' w'' h k => h.below k) rfl (fun w1 hb1 hF1 => ⟨by go_simp, ?_⟩) ?_
  · exact refall_v 15 w1
  rintro v w1 hb1 hF1 ⟨g3, c3, rfl, _⟩
  apply Exists.intro
  refine ⟨fun w2 hb2 hF2 => wpQuiet_nil rfl, ?_⟩
  refine AlChk.nil ?_
  refine Walk.call rfl 61 #[.slice a1 67 c1, .slice (some ⟨g2, 0, none⟩) 67 c2, .slice (some ⟨g3, 0, none⟩) 67 c3, (.agg (pub.map (Value.int .u8)).toArray), (.agg (ad.map (Value.int .u32)).toArray)] (RowV 67 (rowW (fromP ls m pub ad))) (fun v w' w'' h k => h.below k) rfl (fun w1 hb1 hF1 => ⟨by go_simp, ?_⟩) ?_
  · refine (refruns_any (fromP ls m pub ad) (dgN m) (fun _ => 15) ls a1 c1 g2 c2 g3 c3 pub ad w1 (fun i => Dg.fromP HE.out m pub ad i) (HN.out.below (Below.on Hb.out hb1)) hpub had hF1.1.2.ints.1 hF1.1.2.ints.2 hF1.2.ints.1 hF1.2.ints.2 (fun i => ⟨dgN_le hm i, by omega⟩) (fun i hi W => ?_)).mono ?_
    · have hg := getZ (l := ls) (i := i) (by rw [Hnl.out]; exact hi); rw [← hg]; exact refrun_at pub (setAd ad i 0 0) (ls.getD i zD) (dgN m i) 15 hpub (had.set (by omega) (by omega) (by omega)) (Dg.getZ HE.out i) ⟨dgN_le hm i, by omega⟩ W
    · rintro e w2 ⟨v, rfl, b2, o2⟩
      exact ⟨v, rfl, b2, RowV.of_own o2 (rowW_length _)⟩
  rintro v w1 hb1 hF1 _
  apply Exists.intro
  refine ⟨fun w2 hb2 hF2 => wpQuiet_nil rfl, ?_⟩
  refine AlChk.nil ?_
  refine Walk.fin fun w4 h4 hF4 _ => ?_
  simp only [List.drop_succ_cons, List.drop_zero]
  have HB4 := hid (Below.on Hb.out h4)
  have HF4 := hid hF4.2
  clear h4 hF4
  go_wp2_with fail
  go_ret
  exact ⟨_, rfl, HB4.out, HF4.out⟩
end Go.Proofs.YtkakoiaahgchmaaGreatDoor
namespace Go.Proofs.YtkakoiaahgchmaaGreatDoor
set_option maxRecDepth 100000
open Go.ChangeShapes Go.WideShapes Go.ChangeAt Go.RowKit
/-- A row, and that there is no error. -/
def TupV (n : Nat) (ds : List (List Int)) (v : Value) (w : World) : Prop := ∃ a cap, v = .tuple #[.slice a n cap, .int .i64 0] ∧ DigsAt w a n cap ds
theorem TupV.below {n : Nat} {ds : List (List Int)} {v : Value} {w w' : World} (h : TupV n ds v w) (hb : Below w.heap.size w w') : TupV n ds v w' := by
  obtain ⟨a, c, h1, h2⟩ := h
  exact ⟨a, c, h1, h2.below hb⟩
theorem TupV.digs {n c : Nat} {a : Option Addr} {ds : List (List Int)} {w : World} (h : TupV n ds (.tuple #[.slice a n c, .int .i64 0]) w) : DigsAt w a n c ds := by
  obtain ⟨a', c', h1, h2⟩ := h
  simp only [Value.tuple.injEq, Array.mk.injEq, List.cons.injEq, Value.slice.injEq] at h1
  obtain ⟨⟨rfl, _, rfl⟩, _⟩ := h1
  exact h2
theorem from_v (ls : List (List Int)) (na : Option Addr) (nc : Nat) (m pub ad : List Int) (W : World) (hN : DigsAt W na 67 nc ls) (hm : Dg m) (hpub : Dg pub) (had : Aw ad) (tab : ShaTab W) :
    Calls Tryz.prog 100 #[.slice na 67 nc, (.agg (m.map (Value.int .u8)).toArray), (.agg (pub.map (Value.int .u8)).toArray), (.agg (ad.map (Value.int .u32)).toArray)] W fun e w' => ∃ v, e = .returned v ∧ Below W.heap.size W w' ∧ TupV 67 (rowW (fromP ls m pub ad)) v w' :=
  (from_good ls na nc m pub ad W hN hm hpub had tab).mono fun _ _ ⟨_, _, h1, h2, h3⟩ => ⟨_, h1, h2, _, _, rfl, DigsAt.of_blk h3 (rowW_each (Dg.fromP hN.each m pub ad)) (rowW_length _) (Nat.le_refl _) (by omega)⟩
end Go.Proofs.YtkakoiaahgchmaaGreatDoor
namespace Go.Proofs.YtkakoiaahgchmaaGreatDoor
set_option maxRecDepth 100000
open Go.ChangeShapes Go.WideShapes Go.ChangeAt Go.RowKit
end Go.Proofs.YtkakoiaahgchmaaGreatDoor
namespace Go.Proofs.YtkakoiaahgchmaaGreatDoor
set_option maxRecDepth 100000
open Go.ChangeShapes Go.WideShapes Go.ChangeAt Go.RowKit
theorem fill_part (place : Nat → Option (Nat × Nat)) (cells : Array Value) (i off : Nat) (v : Value) (rest : List (Nat × Value)) (hp : place i = some (off, v.cells.size)) (hs : off + v.cells.size ≤ cells.size) :
    Instr.fill place cells ((i, v) :: rest) = Instr.fill place (splice cells.toList off v.cells.toList).toArray rest := by
  rw [Instr.fill]
  simp only [hp]
  rw [if_neg (by simp only [ne_eq, not_true_eq_false, decide_false, Bool.false_or, decide_eq_true_eq]; omega)]
  congr 1
  have hf := fold_set v.cells.toList 0 off cells (by simpa using hs)
  apply Array.ext'
  rw [Nat.add_zero] at hf
  rw [← hf]
  have : v.cells.zipIdx = ((v.cells.toList.zipIdx 0)).toArray := by
    apply Array.ext'
    simp
  rw [this, List.foldl_toArray']
  all_goals first | rfl | simp
section
variable {P : Program} {ops : Array Oper} {rest : List Oper} {op : Oper} {a : Act} {w : World} {Q : Exit → Act → World → Prop} {t e : TypeId}
/-- One cell is stored. -/
theorem run_store_one {ty : TypeId} {b o : Nat} {v : Value} {cs : Array Value} {T : TypeId} (w : World) (hk : Blk w b cs T) (ho : o < cs.size) (hi : (P.info? ty).map (·.size) = some 1) (h1 : v.oneCell' = true) (hc : v.cells = #[v]) :
    (storeVar ty ⟨b, o, none⟩ v).run P w = .ok () (w.setCells b o [v]) := by
  have h := run_storeVar_mid (P := P) w b o ty #[v] (fun j hj => ⟨by
    simp only [List.size_toArray, List.length_cons, List.length_nil] at hj
    rw [hk.cell, Array.getElem?_eq_getElem (by omega)]; rfl, hk.free _⟩) (by rw [hi]; rfl) (by simp [h1])
  unfold storeVar at *
  rw [hc]
  exact h
end
/-! Rows of structs. -/
end Go.Proofs.YtkakoiaahgchmaaGreatDoor
namespace Go.Proofs.YtkakoiaahgchmaaGreatDoor
set_option maxRecDepth 100000
open Go.ChangeShapes Go.WideShapes Go.ChangeAt Go.RowKit
/-- A secret's cells. -/
def secL (seed prf pub : List Int) : List Int := seed ++ (prf ++ pub)
def otsZ (la tr i : Int) : List Int := [la, tr / 4294967296, tr % 4294967296, 0, i, 0, 0, 0]
def ltrZ (la tr i : Int) : List Int := [la, tr / 4294967296, tr % 4294967296, 1, i, 0, 0, 0]
theorem Aw.ots {la tr i : Int} (hl : 0 ≤ la ∧ la < 4294967296) (ht : 0 ≤ tr ∧ tr < 18446744073709551616) (hi : 0 ≤ i ∧ i < 4294967296) : Aw (otsZ la tr i) := ⟨rfl, fun x hx => by
  simp only [otsZ, List.mem_cons, List.not_mem_nil, or_false] at hx
  omega⟩
theorem Aw.ltr {la tr i : Int} (hl : 0 ≤ la ∧ la < 4294967296) (ht : 0 ≤ tr ∧ tr < 18446744073709551616) (hi : 0 ≤ i ∧ i < 4294967296) : Aw (ltrZ la tr i) := ⟨rfl, fun x hx => by
  simp only [ltrZ, List.mem_cons, List.not_mem_nil, or_false] at hx
  omega⟩
@[irreducible] def leafZ (seed pub : List Int) (la tr i : Int) : List Int := compZ pub (ltrZ la tr i) 67 0 (rowW (pubP seed pub (otsZ la tr i)))
theorem ots_list (la tr i : Int) (w : World) (h0 : 0 ≤ tr) (h1 : tr < 18446744073709551616) :
    Calls Tryz.prog 127 #[.int .u32 la, .int .u64 tr, .int .u32 i] w fun e w' => e = .returned (.agg ((otsZ la tr i).map (Value.int .u32)).toArray) ∧ Below w.heap.size w w' := ots_any la tr i w h0 h1
theorem ltr_list (la tr i : Int) (w : World) (h0 : 0 ≤ tr) (h1 : tr < 18446744073709551616) :
    Calls Tryz.prog 103 #[.int .u32 la, .int .u64 tr, .int .u32 i] w fun e w' => e = .returned (.agg ((ltrZ la tr i).map (Value.int .u32)).toArray) ∧ Below w.heap.size w w' := ltree_any la tr i w h0 h1
set_option maxHeartbeats 4000000 in
theorem refbase_ots (la tr i : Int) (w : World) (h0 : 0 ≤ tr) (h1 : tr < 18446744073709551616) :
    Calls Tryz.prog 25 #[.int .u32 la, .int .u64 tr, .int .u32 0, .int .u32 i] w fun e w' => e = .returned (.agg ((otsZ la tr i).map (Value.int .u32)).toArray) ∧ Below w.heap.size w w' := by
  go_enter Tryz.func25, Tryz.ntmps25
  go_wp2
  go_returns
  exact ⟨rfl, by go_grown⟩
set_option maxHeartbeats 4000000 in
theorem refbase_ltr (la tr i : Int) (w : World) (h0 : 0 ≤ tr) (h1 : tr < 18446744073709551616) :
    Calls Tryz.prog 25 #[.int .u32 la, .int .u64 tr, .int .u32 1, .int .u32 i] w fun e w' => e = .returned (.agg ((ltrZ la tr i).map (Value.int .u32)).toArray) ∧ Below w.heap.size w w' := by
  go_enter Tryz.func25, Tryz.ntmps25
  go_wp2
  go_returns
  exact ⟨rfl, by go_grown⟩
end Go.Proofs.YtkakoiaahgchmaaGreatDoor
namespace Go.Proofs.YtkakoiaahgchmaaGreatDoor
set_option maxRecDepth 100000
open Go.ChangeShapes Go.WideShapes Go.ChangeAt Go.RowKit
structure Nod where
  d : List Int
  l : Nat
  q : Nat
def nodC (x : Nod) : List Value := x.d.map (Value.int .u8) ++ [.int .i64 x.l, .int .i64 x.q]
def nodZ : Array Value := (nodC ⟨zD, 0, 0⟩).toArray
def nodsC (l : List Nod) : List Value := (l.map nodC).flatten
end Go.Proofs.YtkakoiaahgchmaaGreatDoor
namespace Go.Proofs.YtkakoiaahgchmaaGreatDoor
set_option maxRecDepth 100000
open Go.ChangeShapes Go.WideShapes Go.ChangeAt Go.RowKit
end Go.Proofs.YtkakoiaahgchmaaGreatDoor
namespace Go.Proofs.YtkakoiaahgchmaaGreatDoor
set_option maxRecDepth 100000
open Go.ChangeShapes Go.WideShapes Go.ChangeAt Go.RowKit
/-- The number of the node beside a leaf's way, at a level. -/
def sibN (leaf l : Nat) : Nat := if leaf / 2 ^ l % 2 = 0 then leaf / 2 ^ l + 1 else leaf / 2 ^ l - 1
def pickM (leaf : Nat) (path : List (List Int)) (x : Nod) : List (List Int) := if x.l < path.length ∧ x.q = sibN leaf x.l then path.set x.l x.d else path
/-- A builder's cells. -/
def bldC (v : Value) (pub ad : List Int) (leaf : Nat) (pv : Value) : Array Value := (v :: (pub.map (Value.int .u8) ++ (ad.map (Value.int .u32) ++ [.int .i64 (leaf : Int), pv]))).toArray
end Go.Proofs.YtkakoiaahgchmaaGreatDoor
namespace Go.Proofs.YtkakoiaahgchmaaGreatDoor
set_option maxRecDepth 100000
open Go.ChangeShapes Go.WideShapes Go.ChangeAt Go.RowKit
def upN (pub ad : List Int) (t x : Nod) : Nod := ⟨joinZ t.d x.d pub (setAd ad x.l (t.q / 2 : Nat) 0), x.l + 1, t.q / 2⟩
/-- What adding a node that was looked at comes to: the stack, its last node first; the path. -/
def addR (pub ad : List Int) (leaf : Nat) : List Nod → List (List Int) → Nod → List Nod × List (List Int)
  | [], path, x => ([x], path)
  | t :: s, path, x => if t.l = x.l then addR pub ad leaf s (pickM leaf path (upN pub ad t x)) (upN pub ad t x) else (x :: t :: s, path)
section
variable {w w' : World} {base b pg n leaf : Nat} {pub ad : List Int} {v v' : Value} {stk s : List Nod} {path : List (List Int)} {x t : Nod}
end
end Go.Proofs.YtkakoiaahgchmaaGreatDoor
namespace Go.Proofs.YtkakoiaahgchmaaGreatDoor
set_option maxRecDepth 100000
open Go.ChangeShapes Go.WideShapes Go.ChangeAt Go.RowKit
/-- What the first leaves come to. -/
def addAll (pub ad : List Int) (leaf n : Nat) (lf : Nat → List Int) : Nat → List Nod × List (List Int)
  | 0 => ([], List.replicate n zD)
  | k + 1 => addR pub ad leaf (addAll pub ad leaf n lf k).1 (pickM leaf (addAll pub ad leaf n lf k).2 ⟨lf k, 0, k⟩) ⟨lf k, 0, k⟩
/-- The node of a level, at a number. -/
def nodeZ (pub ad : List Int) (lf : Nat → List Int) : Nat → Nat → List Int
  | 0, j => lf j
  | k + 1, j => joinZ (nodeZ pub ad lf k (2 * j)) (nodeZ pub ad lf k (2 * j + 1)) pub (setAd ad (k : Nat) (j : Nat) 0)
def wayZ (pub ad : List Int) (lf : Nat → List Int) (leaf n : Nat) : List (List Int) := (List.range n).map fun k => nodeZ pub ad lf k (sibN leaf k)
/-- A world in which a builder may have changed but for its path's slice. -/
structure ButBld (b r : Nat) (a c : World) : Prop where
  inn : FlowB.ButIn [b, r] a c
  cell : b < a.heap.size → c.cell? ⟨b, 42, none⟩ = a.cell? ⟨b, 42, none⟩
end Go.Proofs.YtkakoiaahgchmaaGreatDoor
namespace Go.Proofs.YtkakoiaahgchmaaGreatDoor
set_option maxRecDepth 100000
open Go.ChangeShapes Go.WideShapes Go.ChangeAt Go.RowKit
theorem wpList_buildv {P : Program} {ops : Array Oper} {rest : List Oper} {op : Oper} {a : Act} {w : World} {Q : Exit → Act → World → Prop} (hgd : op.guard = none) (t : TypeId) (parts : List (Nat × Operand)) (ho : op.op = .build t parts.toArray) (vs : List (Nat × Value)) (hv : (parts.map fun x => (x.1, a.eval x.2)) = vs) (v : Value) (h : ∀ w', (Instr.build t vs.toArray).run P w' = .ok v w') (hk : wpList P ops Q rest (a.put op.dst v) w) : wpList P ops Q (op :: rest) a w :=
  wpList_plain hgd fun K hK => by
    have hm : (parts.map fun (x : Nat × Operand) => match x with | (i, x) => (i, a.eval x)) = vs := hv
    unfold Oper.wp execOp
    simp only [ho, List.map_toArray, hm, Sem.run_bind, h, Result.andThen_ok, Sem.run_pure, Oper.upon_value]
    exact hK _ _ hk
end Go.Proofs.YtkakoiaahgchmaaGreatDoor
namespace Go.Proofs.YtkakoiaahgchmaaGreatDoor
set_option maxRecDepth 100000
open Go.ChangeShapes Go.WideShapes Go.ChangeAt Go.RowKit
def rowN (pub ad : List Int) (lf : Nat → List Int) (k m : Nat) : List (List Int) := (List.range m).map (nodeZ pub ad lf k)
/-- The rows, wherever they lie. -/
def RowsV (pub ad : List Int) (lf : Nat → List Int) (n : Nat) (v : Value) (w : World) : Prop := ∃ g cap, v = .slice (some ⟨g, 0, none⟩) (n + 1) cap ∧ n + 1 ≤ cap ∧ g < w.heap.size ∧ ∀ j, j ≤ n → ∃ u, w.cell? ⟨g, j, none⟩ = some u ∧ RowV (2 ^ (n - j)) (rowN pub ad lf j (2 ^ (n - j))) u w
end Go.Proofs.YtkakoiaahgchmaaGreatDoor
namespace Go.Proofs.YtkakoiaahgchmaaGreatDoor
set_option maxRecDepth 100000
open Go.ChangeShapes Go.WideShapes Go.ChangeAt Go.RowKit
end Go.Proofs.YtkakoiaahgchmaaGreatDoor
namespace Go.Proofs.YtkakoiaahgchmaaGreatDoor
set_option maxRecDepth 100000
open Go.ChangeShapes Go.WideShapes Go.ChangeAt Go.RowKit
end Go.Proofs.YtkakoiaahgchmaaGreatDoor
namespace Go.Proofs.YtkakoiaahgchmaaGreatDoor
set_option maxRecDepth 100000
open Go.ChangeShapes Go.WideShapes Go.ChangeAt Go.RowKit
/-- Is a shape right? -/
def rightS (L V : Int) : Bool := decide (1 ≤ L ∧ L ≤ 4 ∧ 1 ≤ V ∧ V ≤ 4)
def shC (L V : Int) : Array Value := #[.int .i64 L, .int .i64 V]
theorem size_shape : (Tryz.prog.info? 23).map (·.size) = some 2 := by kernel_rfl
set_option maxHeartbeats 4000000 in
theorem hright_any (L V : Int) (w : World) : Calls Tryz.prog 96 #[.agg (shC L V)] w fun e w' => e = .returned (.bool (rightS L V)) ∧ Below w.heap.size w w' := by
  unfold shC
  by_cases h1 : 1 ≤ L
  · by_cases h2 : L ≤ 4
    · by_cases h3 : 1 ≤ V
      · by_cases h4 : V ≤ 4
        · go_enter Tryz.func96, Tryz.ntmps96
          go_wp2
          go_returns
          exact ⟨by simp [rightS, *] <;> omega, by go_grown⟩
        · have h4b : 4 < V := by omega
          go_enter Tryz.func96, Tryz.ntmps96
          go_wp2
          go_returns
          exact ⟨by simp [rightS, *] <;> omega, by go_grown⟩
      · have h3b : V < 1 := by omega
        go_enter Tryz.func96, Tryz.ntmps96
        go_wp2
        go_returns
        exact ⟨by simp [rightS, *] <;> omega, by go_grown⟩
    · have h2b : 4 < L := by omega
      go_enter Tryz.func96, Tryz.ntmps96
      go_wp2
      go_returns
      exact ⟨by simp [rightS, *] <;> omega, by go_grown⟩
  · have h1b : L < 1 := by omega
    go_enter Tryz.func96, Tryz.ntmps96
    go_wp2
    go_returns
    exact ⟨by simp [rightS, *] <;> omega, by go_grown⟩
set_option maxHeartbeats 4000000 in
theorem refright_any (L V : Int) (w : World) : Calls Tryz.prog 20 #[.agg (shC L V)] w fun e w' => e = .returned (.bool (rightS L V)) ∧ Below w.heap.size w w' := by
  unfold shC
  by_cases h1 : 1 ≤ L
  · by_cases h2 : L ≤ 4
    · by_cases h3 : 1 ≤ V
      · by_cases h4 : V ≤ 4
        · go_enter Tryz.func20, Tryz.ntmps20
          go_wp2
          go_returns
          exact ⟨by simp [rightS, *] <;> omega, by go_grown⟩
        · have h4b : 4 < V := by omega
          go_enter Tryz.func20, Tryz.ntmps20
          go_wp2
          go_returns
          exact ⟨by simp [rightS, *] <;> omega, by go_grown⟩
      · have h3b : V < 1 := by omega
        go_enter Tryz.func20, Tryz.ntmps20
        go_wp2
        go_returns
        exact ⟨by simp [rightS, *] <;> omega, by go_grown⟩
    · have h2b : 4 < L := by omega
      go_enter Tryz.func20, Tryz.ntmps20
      go_wp2
      go_returns
      exact ⟨by simp [rightS, *] <;> omega, by go_grown⟩
  · have h1b : L < 1 := by omega
    go_enter Tryz.func20, Tryz.ntmps20
    go_wp2
    go_returns
    exact ⟨by simp [rightS, *] <;> omega, by go_grown⟩
set_option maxHeartbeats 4000000 in
theorem power_any (n : Nat) (hn : n ≤ 40) (w : World) : Calls Tryz.prog 23 #[.int .i64 (n : Int)] w fun e w' => e = .returned (.int .i64 ((2 ^ n : Nat) : Int)) ∧ Below w.heap.size w w' := by
  go_enter Tryz.func23, Tryz.ntmps23
  go_wp2_with fail
  go_loopw [3, 4] (fun mv iv wr => ∃ k p : Nat, k ≤ n ∧ p = 2 ^ k ∧ mv = .int .i64 (p : Int) ∧ iv = .int .i64 k ∧ Below w.heap.size w wr) (fun _ iv _ => n - (intOf iv).toNat)
  case atStart => exact ⟨0, 1, Nat.zero_le _, rfl, rfl, rfl, Below.refl _ _⟩
  case round =>
    obtain ⟨k, p, hk, hp, rfl, rfl, bel⟩ := hrel
    have hp40 : p ≤ 1099511627776 := by
      rw [hp]
      exact Nat.le_trans (Nat.pow_le_pow_right (by omega) (show k ≤ 40 by omega)) (by decide)
    have Hp := hid hp
    clear hp
    by_cases hlt : k < n
    · have hc0 : (k : Int) < n := by omega
      go_wp2_with fail
      exact ⟨⟨k + 1, p * 2, by omega, by rw [Hp.out, Nat.pow_succ], by go_num, by go_num, bel⟩, by simp [intOf]; omega⟩
    · obtain rfl : k = n := by omega
      have hc0 : ¬ ((k : Int) < k) := by omega
      go_wp2_with fail
      go_returns
      exact ⟨by simp [Hp.out], bel⟩
/-- How many indices a shape has. -/
def manyS (L V : Int) : Int := if rightS L V = true then ((2 ^ (L * V).toNat : Nat) : Int) else 0
theorem manyS_bad {L V : Int} (h : rightS L V = false) : manyS L V = 0 := by simp [manyS, h]
theorem hright_b (L V : Int) (b : Bool) (hb : rightS L V = b) (w : World) : Calls Tryz.prog 96 #[.agg (shC L V)] w fun e w' => e = .returned (.bool b) ∧ Below w.heap.size w w' := by
  rw [← hb]; exact hright_any L V w
theorem refright_b (L V : Int) (b : Bool) (hb : rightS L V = b) (w : World) : Calls Tryz.prog 20 #[.agg (shC L V)] w fun e w' => e = .returned (.bool b) ∧ Below w.heap.size w w' := by
  rw [← hb]; exact refright_any L V w
theorem wrap_pow16 {n : Nat} (h : n ≤ 16) : wrap64 ((2 : Int) ^ n) = ((2 ^ n : Nat) : Int) := (by decide +kernel : ∀ i : Fin 17, wrap64 ((2 : Int) ^ i.val) = ((2 ^ i.val : Nat) : Int)) ⟨n, by omega⟩
set_option maxHeartbeats 4000000 in
theorem many_bad (L V : Int) (w : World) (hr : rightS L V = false) : Calls Tryz.prog 97 #[.agg (shC L V)] w fun e w' => e = .returned (.int .i64 (manyS L V)) ∧ Below w.heap.size w w' := by
  have b1 := (Below.refl w.heap.size w).alloc (Nat.le_refl _) (.cells (shC L V) 23 (0, 0))
  have Ksh := hid (Blk.new (w := w) (n := w.heap.size) rfl (shC L V) 23)
  have Hb := hid b1
  have Hsz2 := hid (show (shC L V).size = 2 from rfl)
  have c0 : (w.alloc (.cells (shC L V) 23 (0, 0))).cell? ⟨w.heap.size, 0, none⟩ = some (.int .i64 L) := by rw [Ksh.out.cell]; rfl
  have c1 : (w.alloc (.cells (shC L V) 23 (0, 0))).cell? ⟨w.heap.size, 1, none⟩ = some (.int .i64 V) := by rw [Ksh.out.cell]; rfl
  clear b1
  go_enter Tryz.func97, Tryz.ntmps97
  go_wp2_with (refine wpList_load_blk rfl 23 _ rfl (w.heap.size) rfl _ 23 Ksh.out _ Tryz.underlying23 rfl 2 size_shape Hsz2.out ?_)
  refine (hright_b L V false hr _).mono ?_
  rintro e w1 ⟨rfl, bw1⟩
  have HBw1 := hid (Below.on Hb.out bw1)
  have hsw1 := HBw1.out.size
  have Kshw1 := hid (Ksh.out.below bw1)
  clear bw1
  go_wp2_with fail
  go_returns
  exact ⟨by rw [manyS_bad hr]; rfl, HBw1.out⟩
set_option maxHeartbeats 4000000 in
theorem many_good (L V : Int) (w : World) (hr : rightS L V = true) : Calls Tryz.prog 97 #[.agg (shC L V)] w fun e w' => e = .returned (.int .i64 (manyS L V)) ∧ Below w.heap.size w w' := by
  have hr2 := hr
  simp only [rightS, decide_eq_true_eq] at hr2
  obtain ⟨n, hn⟩ : ∃ n : Nat, L * V = (n : Int) := ⟨(L * V).toNat, by have := Int.mul_nonneg (show 0 ≤ L by omega) (show 0 ≤ V by omega); omega⟩
  have hm16 : n ≤ 16 := by
    have h1 : L * V ≤ 4 * 4 := Int.mul_le_mul (by omega) (by omega) (by omega) (by omega)
    omega
  have hmz : manyS L V = ((2 ^ n : Nat) : Int) := by rw [manyS, if_pos hr, hn]; rfl
  rw [hmz]
  have b1 := (Below.refl w.heap.size w).alloc (Nat.le_refl _) (.cells (shC L V) 23 (0, 0))
  have Ksh := hid (Blk.new (w := w) (n := w.heap.size) rfl (shC L V) 23)
  have Hb := hid b1
  have Hsz2 := hid (show (shC L V).size = 2 from rfl)
  have c0 : (w.alloc (.cells (shC L V) 23 (0, 0))).cell? ⟨w.heap.size, 0, none⟩ = some (.int .i64 L) := by rw [Ksh.out.cell]; rfl
  have c1 : (w.alloc (.cells (shC L V) 23 (0, 0))).cell? ⟨w.heap.size, 1, none⟩ = some (.int .i64 V) := by rw [Ksh.out.cell]; rfl
  clear b1
  go_enter Tryz.func97, Tryz.ntmps97
  go_wp2_with (refine wpList_load_blk rfl 23 _ rfl (w.heap.size) rfl _ 23 Ksh.out _ Tryz.underlying23 rfl 2 size_shape Hsz2.out ?_)
  refine (hright_b L V true hr _).mono ?_
  rintro e w1 ⟨rfl, bw1⟩
  have HBw1 := hid (Below.on Hb.out bw1)
  have hsw1 := HBw1.out.size
  have Kshw1 := hid (Ksh.out.below bw1)
  clear bw1
  have d0 : w1.cell? ⟨w.heap.size, 0, none⟩ = some (.int .i64 L) := by rw [Kshw1.out.cell]; rfl
  have d1 : w1.cell? ⟨w.heap.size, 1, none⟩ = some (.int .i64 V) := by rw [Kshw1.out.cell]; rfl
  have hw := wrap_pow16 hm16
  go_wp2_with fail
  go_returns
  exact ⟨by simp [hw], HBw1.out⟩
theorem many_any (L V : Int) (w : World) : Calls Tryz.prog 97 #[.agg (shC L V)] w fun e w' => e = .returned (.int .i64 (manyS L V)) ∧ Below w.heap.size w w' := by
  cases hr : rightS L V with
  | false => exact many_bad L V w hr
  | true => exact many_good L V w hr
set_option maxHeartbeats 4000000 in
theorem refmany_bad (L V : Int) (w : World) (hr : rightS L V = false) : Calls Tryz.prog 59 #[.agg (shC L V)] w fun e w' => e = .returned (.int .i64 (manyS L V)) ∧ Below w.heap.size w w' := by
  have b1 := (Below.refl w.heap.size w).alloc (Nat.le_refl _) (.cells (shC L V) 23 (0, 0))
  have Ksh := hid (Blk.new (w := w) (n := w.heap.size) rfl (shC L V) 23)
  have Hb := hid b1
  have Hsz2 := hid (show (shC L V).size = 2 from rfl)
  have c0 : (w.alloc (.cells (shC L V) 23 (0, 0))).cell? ⟨w.heap.size, 0, none⟩ = some (.int .i64 L) := by rw [Ksh.out.cell]; rfl
  have c1 : (w.alloc (.cells (shC L V) 23 (0, 0))).cell? ⟨w.heap.size, 1, none⟩ = some (.int .i64 V) := by rw [Ksh.out.cell]; rfl
  clear b1
  go_enter Tryz.func59, Tryz.ntmps59
  go_wp2_with (refine wpList_load_blk rfl 23 _ rfl (w.heap.size) rfl _ 23 Ksh.out _ Tryz.underlying23 rfl 2 size_shape Hsz2.out ?_)
  refine (refright_b L V false hr _).mono ?_
  rintro e w1 ⟨rfl, bw1⟩
  have HBw1 := hid (Below.on Hb.out bw1)
  have hsw1 := HBw1.out.size
  have Kshw1 := hid (Ksh.out.below bw1)
  clear bw1
  go_wp2_with fail
  go_returns
  exact ⟨by rw [manyS_bad hr]; rfl, HBw1.out⟩
set_option maxHeartbeats 4000000 in
theorem refmany_good (L V : Int) (w : World) (hr : rightS L V = true) : Calls Tryz.prog 59 #[.agg (shC L V)] w fun e w' => e = .returned (.int .i64 (manyS L V)) ∧ Below w.heap.size w w' := by
  have hr2 := hr
  simp only [rightS, decide_eq_true_eq] at hr2
  obtain ⟨n, hn⟩ : ∃ n : Nat, L * V = (n : Int) := ⟨(L * V).toNat, by have := Int.mul_nonneg (show 0 ≤ L by omega) (show 0 ≤ V by omega); omega⟩
  have hm16 : n ≤ 16 := by
    have h1 : L * V ≤ 4 * 4 := Int.mul_le_mul (by omega) (by omega) (by omega) (by omega)
    omega
  have hmz : manyS L V = ((2 ^ n : Nat) : Int) := by rw [manyS, if_pos hr, hn]; rfl
  rw [hmz]
  have b1 := (Below.refl w.heap.size w).alloc (Nat.le_refl _) (.cells (shC L V) 23 (0, 0))
  have Ksh := hid (Blk.new (w := w) (n := w.heap.size) rfl (shC L V) 23)
  have Hb := hid b1
  have Hsz2 := hid (show (shC L V).size = 2 from rfl)
  have c0 : (w.alloc (.cells (shC L V) 23 (0, 0))).cell? ⟨w.heap.size, 0, none⟩ = some (.int .i64 L) := by rw [Ksh.out.cell]; rfl
  have c1 : (w.alloc (.cells (shC L V) 23 (0, 0))).cell? ⟨w.heap.size, 1, none⟩ = some (.int .i64 V) := by rw [Ksh.out.cell]; rfl
  clear b1
  go_enter Tryz.func59, Tryz.ntmps59
  go_wp2_with (refine wpList_load_blk rfl 23 _ rfl (w.heap.size) rfl _ 23 Ksh.out _ Tryz.underlying23 rfl 2 size_shape Hsz2.out ?_)
  refine (refright_b L V true hr _).mono ?_
  rintro e w1 ⟨rfl, bw1⟩
  have HBw1 := hid (Below.on Hb.out bw1)
  have hsw1 := HBw1.out.size
  have Kshw1 := hid (Ksh.out.below bw1)
  clear bw1
  have d0 : w1.cell? ⟨w.heap.size, 0, none⟩ = some (.int .i64 L) := by rw [Kshw1.out.cell]; rfl
  have d1 : w1.cell? ⟨w.heap.size, 1, none⟩ = some (.int .i64 V) := by rw [Kshw1.out.cell]; rfl
  go_wp2_with fail
  refine (power_any n (by omega) _).mono ?_
  rintro e w2 ⟨rfl, bw2⟩
  have HBw2 := hid (Below.on HBw1.out bw2)
  have hsw2 := HBw2.out.size
  have Kshw2 := hid (Kshw1.out.below bw2)
  clear bw2
  go_wp2_with fail
  go_returns
  exact ⟨rfl, HBw2.out⟩
theorem refmany_any (L V : Int) (w : World) : Calls Tryz.prog 59 #[.agg (shC L V)] w fun e w' => e = .returned (.int .i64 (manyS L V)) ∧ Below w.heap.size w w' := by
  cases hr : rightS L V with
  | false => exact refmany_bad L V w hr
  | true => exact refmany_good L V w hr
end Go.Proofs.YtkakoiaahgchmaaGreatDoor
namespace Go.Proofs.YtkakoiaahgchmaaGreatDoor
set_option maxRecDepth 100000
open Go.ChangeShapes Go.WideShapes Go.ChangeAt Go.RowKit
/-- A key's cells. -/
def pubC (L V : Int) (root pub : List Int) : List Value := .int .i64 L :: .int .i64 V :: (root.map (Value.int .u8) ++ pub.map (Value.int .u8))
theorem pubC_length {L V : Int} {root pub : List Int} (h1 : Dg root) (h2 : Dg pub) : (pubC L V root pub).length = 66 := by simp [pubC, h1.len, h2.len]
theorem pubC_size {L V : Int} {root pub : List Int} (h1 : Dg root) (h2 : Dg pub) : (pubC L V root pub).toArray.size = 66 := by rw [List.size_toArray, pubC_length h1 h2]
theorem pubC_ones (L V : Int) (root pub : List Int) : (pubC L V root pub).toArray.all (·.oneCell') = true := all_oneCell_toArray fun u hu => by
  simp only [pubC, List.mem_cons, List.mem_append, List.mem_map] at hu
  rcases hu with rfl | rfl | ⟨_, _, rfl⟩ | ⟨_, _, rfl⟩ <;> rfl
theorem pubC_shape {L V : Int} {root pub : List Int} {w : World} {b : Nat} {T : TypeId} (k : Blk w b (pubC L V root pub).toArray T) : w.rangeAt b 0 (shC L V).toList := fun j v hv => by
  rw [Nat.zero_add, k.cell, List.getElem?_toArray, ← hv]
  match j, hv with
  | 0, _ => rfl
  | 1, _ => rfl
  | j + 2, h => simp [shC] at h
theorem pubC_root {L V : Int} {root pub : List Int} {w : World} {b : Nat} {T : TypeId} (k : Blk w b (pubC L V root pub).toArray T) : w.rangeAt b 2 (root.map (Value.int .u8)) := fun j v hv => by
  have hj : j < root.length := by have := (List.getElem?_eq_some_iff.1 hv).1; simpa using this
  rw [k.cell, List.getElem?_toArray, ← hv]
  unfold pubC
  rw [show 2 + j = j + 1 + 1 by omega, List.getElem?_cons_succ, List.getElem?_cons_succ, List.getElem?_append_left (by rw [List.length_map]; exact hj)]
theorem pubC_pub {L V : Int} {root pub : List Int} (h1 : Dg root) {w : World} {b : Nat} {T : TypeId} (k : Blk w b (pubC L V root pub).toArray T) : w.rangeAt b 34 (pub.map (Value.int .u8)) := fun j v hv => by
  rw [k.cell, List.getElem?_toArray, ← hv]
  unfold pubC
  rw [show 34 + j = (32 + j) + 1 + 1 by omega, List.getElem?_cons_succ, List.getElem?_cons_succ, List.getElem?_append_right (by rw [List.length_map, h1.len]; omega), List.length_map, h1.len, show 32 + j - 32 = j by omega]
/-- A signature's cells. -/
def sigC (i : Int) (r : List Int) (pv : Value) : List Value := .int .i64 i :: (r.map (Value.int .u8) ++ [pv])
theorem sigC_size {i : Int} {r : List Int} {pv : Value} (h : Dg r) : (sigC i r pv).toArray.size = 34 := by simp [sigC, h.len]
theorem size_public : (Tryz.prog.info? 27).map (·.size) = some 66 := by kernel_rfl
theorem size_sig : (Tryz.prog.info? 32).map (·.size) = some 34 := by kernel_rfl
def zPub : List Value := pubC 0 0 zD zD
def zSig : List Value := sigC 0 zD (.slice none 0 0)
theorem build_pub (L V : Int) (root pub : List Int) (h1 : Dg root) (h2 : Dg pub) (w : World) : (Instr.build 27 #[(0, .agg (shC L V)), (1, .agg (root.map (Value.int .u8)).toArray), (2, .agg (pub.map (Value.int .u8)).toArray)]).run Tryz.prog w = .ok (.agg (pubC L V root pub).toArray) w := by
  refine run_build w _ _ _ ?_
  obtain ⟨i0, hi, hz0⟩ := Option.map_eq_some_iff.1 (show (Tryz.prog.info? 27).map (·.zero) = some (some (.agg zPub.toArray)) by kernel_rfl)
  obtain ⟨fields, hu, hq⟩ : ∃ fields, Tryz.prog.underlying 27 = some (.struct fields) ∧ fields.toList.mapM (fun f => (Tryz.prog.info? f.type).map fun i => (f.offset, i.size)) = some [(0, 2), (2, 32), (34, 32)] := ⟨_, Tryz.underlying27, by kernel_rfl⟩
  have hz : (Value.agg zPub.toArray).cells = zPub.toArray := rfl
  unfold Program.built
  simp only [hi, hu, hz0, hq, hz]
  have hs0 : (Value.agg (shC L V)).cells.size = 2 := rfl
  have hs1 : (Value.agg (root.map (Value.int .u8)).toArray).cells.size = 32 := h1.size
  have hs2 : (Value.agg (pub.map (Value.int .u8)).toArray).cells.size = 32 := h2.size
  have t0 : splice zPub.toArray.toList 0 (Value.agg (shC L V)).cells.toList = pubC L V zD zD := rfl
  have t1 : splice (pubC L V zD zD) 2 (Value.agg (root.map (Value.int .u8)).toArray).cells.toList = pubC L V root zD := by
    show splice (pubC L V zD zD) 2 (root.map (Value.int .u8)) = _
    unfold splice
    rw [List.length_map, h1.len]
    rfl
  have t2 : splice (pubC L V root zD) 34 (Value.agg (pub.map (Value.int .u8)).toArray).cells.toList = pubC L V root pub := by
    show splice (Value.int .i64 L :: Value.int .i64 V :: (root.map (Value.int .u8) ++ zD.map (Value.int .u8))) 34 (pub.map (Value.int .u8)) = _
    unfold splice
    rw [List.take_succ_cons, List.take_succ_cons, List.take_append_of_le_length (by rw [List.length_map, h1.len]; omega), List.take_of_length_le (by rw [List.length_map, h1.len]; omega), List.length_map, h2.len, List.drop_eq_nil_of_le (by simp [h1.len, zD])]
    simp [pubC]
  rw [fill_part _ _ 0 0 _ _ (by rw [hs0]; rfl) (by rw [hs0]; decide), t0]
  rw [fill_part _ _ 1 2 _ _ (by rw [hs1]; rfl) (by rw [hs1, pubC_size Dg.zero Dg.zero]; omega), List.toList_toArray, t1]
  rw [fill_part _ _ 2 34 _ _ (by rw [hs2]; rfl) (by rw [hs2, pubC_size h1 Dg.zero]; omega), List.toList_toArray, t2, Instr.fill]
end Go.Proofs.YtkakoiaahgchmaaGreatDoor
namespace Go.Proofs.YtkakoiaahgchmaaGreatDoor
set_option maxRecDepth 100000
open Go.ChangeShapes Go.WideShapes Go.ChangeAt Go.RowKit
theorem zPub_size : zPub.toArray.size = 66 := by decide
end Go.Proofs.YtkakoiaahgchmaaGreatDoor
namespace Go.Proofs.YtkakoiaahgchmaaGreatDoor
set_option maxRecDepth 100000
open Go.ChangeShapes Go.WideShapes Go.ChangeAt Go.RowKit
set_option maxHeartbeats 4000000 in
theorem formed_bad (L V : Int) (gs : Array Value) (w : World) (hr : rightS L V = false) : Calls Tryz.prog 69 #[.agg (shC L V), .agg gs] w fun e w' => e = .returned (.bool false) ∧ Below w.heap.size w w' := by
  have b1 := (Below.refl w.heap.size w).alloc (Nat.le_refl _) (.cells (shC L V) 23 (0, 0))
  have b2 := b1.alloc b1.size (.cells gs 32 (0, 0))
  have Ksh := hid ((Blk.new (w := w) (n := w.heap.size) rfl (shC L V) 23).old (.cells gs 32 (0, 0)))
  have Hb := hid b2
  clear b1 b2
  go_enter Tryz.func69, Tryz.ntmps69
  go_wp2_with fail
  refine wp_region_flow 23 (List.range 23) [] [] (by kernel_rfl) (by kernel_rfl) ?_
  apply Exists.intro
  refine ⟨fun w0 hb0 hF0 => ?_, ?_⟩
  · skip
    have c0 := fun e : Ext w0 => hright_b L V false hr e.at_
    have xs : ∀ w', (∃ x : Ext w0, w' = x.at_) → ∃ T, Blk w' (w.heap.size) (shC L V) T := fun w' ⟨x, hx⟩ => ⟨_, hx ▸ (Ksh.out.below hb0).below x.same⟩
    simp only [pick, List.range, List.range.loop, List.getElem?_toArray, List.getElem?_cons_succ, List.getElem?_cons_zero, Option.toList_some, List.cons_append, List.nil_append]
    repeat (first | (go_big_quiet_want; refine quiet_load_blk 23 _ rfl (w.heap.size) rfl _ xs _ Tryz.underlying23 rfl 2 size_shape rfl ?_; go_big_quiet_on; simp only [Act.put, List.setIfInBounds_toArray, List.set_cons_zero, List.set_cons_succ]) | go_big_quiet_step (first | (go_at_call 96; with_reducible exact Calls.ext (c0 _))))
    exact wpQuiet_nil rfl
  refine AlChk.nil ?_
  refine Walk.fin fun w1 hw1 _ _ => ?_
  simp only [List.drop_succ_cons, List.drop_zero]
  have HBw1 := hid (Below.on Hb.out hw1)
  have hsw1 := HBw1.out.size
  have Kshw1 := hid (Ksh.out.below hw1)
  clear hw1
  go_wp2_with fail
  go_returns
  exact ⟨rfl, HBw1.out⟩
set_option maxHeartbeats 4000000 in
theorem verify_bad (L V : Int) (root pub : List Int) (gs : Array Value) (v : Value) (w : World) (hr : rightS L V = false) (hgs : gs.size = 34) : Calls Tryz.prog 31 #[.agg (pubC L V root pub).toArray, .agg gs, v] w fun e w' => e = .returned (.bool false) ∧ Below w.heap.size w w' := by
  have b1 := (Below.refl w.heap.size w).alloc (Nat.le_refl _) (.cells (pubC L V root pub).toArray 27 (0, 0))
  have b2 := b1.alloc b1.size (.cells gs 32 (0, 0))
  have Kp := hid ((Blk.new (w := w) (n := w.heap.size) rfl (pubC L V root pub).toArray 27).old (.cells gs 32 (0, 0)))
  have K2 := hid (Blk.new (w := w.alloc (.cells (pubC L V root pub).toArray 27 (0, 0))) (n := w.heap.size + 1) (by simp only [World.size_alloc]) gs 32)
  have Hb := hid b2
  have hbs := b2.size
  clear b1 b2
  go_enter Tryz.func31, Tryz.ntmps31
  go_wp2_with (first
     | (refine wpList_load_mid rfl 23 _ rfl (w.heap.size) 0 rfl _ _ (pubC_shape Kp.out) Tryz.underlying23 rfl (by exact size_shape) ?_)
     | (refine wpList_load_blk rfl 32 _ rfl (w.heap.size + 1) rfl _ 32 K2.out _ Tryz.underlying32 rfl 34 size_sig hgs ?_))
  refine (formed_bad L V gs _ hr).mono ?_
  rintro e w1 ⟨rfl, bw1⟩
  have HBw1 := hid (Below.on Hb.out bw1)
  have hsw1 := HBw1.out.size
  have Kpw1 := hid (Kp.out.below bw1)
  have K2w1 := hid (K2.out.below bw1)
  clear bw1
  go_wp2_with fail
  go_returns
  exact ⟨rfl, HBw1.out⟩
end Go.Proofs.YtkakoiaahgchmaaGreatDoor
namespace Go.Proofs.YtkakoiaahgchmaaGreatDoor
set_option maxRecDepth 100000
open Go.ChangeShapes Go.WideShapes Go.ChangeAt Go.RowKit
/-- A part: its one-time signature, and its way. -/
abbrev Prt := List (List Int) × List (List Int)
/-- Parts, in memory that was there. -/
structure PartsAt (w : World) (a : Option Addr) (len cap : Nat) (ps : List Prt) : Prop where
  length : ps.length = len
  le : len ≤ cap
  max : cap ≤ 9223372036854775807
  mem : (a = none ∧ len = 0 ∧ cap = 0) ∨ ∃ x o s, a = some ⟨x, o, s⟩ ∧ ∀ j, j < len → s = none ∧ x < w.heap.size ∧ ∃ u v, w.cell? ⟨x, o + j * 2, none⟩ = some u ∧ w.cell? ⟨x, o + j * 2 + 1, none⟩ = some v ∧ RowV (ps.getD j ([], [])).1.length (ps.getD j ([], [])).1 u w ∧ RowV (ps.getD j ([], [])).2.length (ps.getD j ([], [])).2 v w
theorem PartsAt.below {w w' : World} {a : Option Addr} {len cap : Nat} {ps : List Prt} (h : PartsAt w a len cap ps) (hb : Below w.heap.size w w') : PartsAt w' a len cap ps := by
  obtain ⟨h1, h2, h3, h | ⟨x, o, s, rfl, hc⟩⟩ := h
  · exact ⟨h1, h2, h3, .inl h⟩
  · refine ⟨h1, h2, h3, .inr ⟨x, o, s, rfl, fun j hj => ?_⟩⟩
    obtain ⟨q0, q1, u, v, q2, q3, q4, q5⟩ := hc j hj
    exact ⟨q0, Nat.lt_of_lt_of_le q1 hb.size, u, v, by rw [hb.cell (p := ⟨x, o + j * 2, none⟩) q1]; exact q2, by rw [hb.cell (p := ⟨x, o + j * 2 + 1, none⟩) q1]; exact q3, q4.below hb, q5.below hb⟩
theorem PartsAt.nil (w : World) : PartsAt w none 0 0 [] := ⟨rfl, Nat.le_refl _, by omega, .inl ⟨rfl, rfl, rfl⟩⟩
theorem PartsAt.at_ {w : World} {a : Option Addr} {len cap : Nat} {ps : List Prt} (h : PartsAt w a len cap ps) (h0 : 0 < len) : ∃ x o, a = some ⟨x, o, none⟩ ∧ x < w.heap.size ∧ ∀ j, j < len → ∃ u v, w.cell? ⟨x, o + j * 2, none⟩ = some u ∧ w.cell? ⟨x, o + j * 2 + 1, none⟩ = some v ∧ RowV (ps.getD j ([], [])).1.length (ps.getD j ([], [])).1 u w ∧ RowV (ps.getD j ([], [])).2.length (ps.getD j ([], [])).2 v w := by
  obtain ⟨h1, h2, h3, ⟨_, h, _⟩ | ⟨x, o, s, rfl, hc⟩⟩ := h
  · omega
  · obtain ⟨rfl, hx, _⟩ := hc 0 h0
    exact ⟨x, o, rfl, hx, fun j hj => (hc j hj).2.2⟩
theorem digs_cells {H : Type} {enc : TypeId × Value → H} {P : Program} {W : World} {n : Nat} {t e q : TypeId} {cs : List Value} {x : DataW H × List MemPlace} (hu : P.underlying t = some (.slice e)) (he : P.underlying e = some (.array 32 q)) (hq : P.underlying q = some (.int .u8))
    (ce : P.cellsOf e = 32) (cq : P.cellsOf q = 1) (h : DataW.trod enc P W 0 (fun _ => true) true n t cs = some x) :
    ∃ (a : Option Addr) (len cap : Nat) (ds : List (List Int)), cs = [.slice a len cap] ∧ DigsAt W a len cap ds := by
  rcases Go.Deep.open_slice hu h with ⟨rfl, _⟩ | ⟨x, len, cap, m, n, D, Pl, rfl, _, hl, hm, hmm, _, hall⟩
  · exact ⟨none, 0, 0, [], rfl, DigsAt.nil W⟩
  · obtain ⟨b, off, s⟩ := x
    simp only [if_true] at hmm
    have hall' : ∀ i, i < cap → ∃ dd : List Int, Dg dd ∧ W.cells? 0 ((⟨b, off, s⟩ : Addr).add (i * 32)) 32 = some (dd.map (Value.int .u8)) := fun i hi => by
      obtain ⟨cs', h1, h2⟩ := hall i (by omega)
      rw [ce] at h1
      obtain ⟨dd, h3, rfl⟩ := digest_cells he hq ce cq h2
      exact ⟨dd, h3, h1⟩
    let f : Nat → List Int := fun i => if h : i < cap then Classical.choose (hall' i h) else []
    have hf : ∀ i, i < cap → Dg (f i) ∧ W.cells? 0 ((⟨b, off, s⟩ : Addr).add (i * 32)) 32 = some ((f i).map (Value.int .u8)) := fun i hi => by
      simp only [f, hi, dif_pos]
      exact Classical.choose_spec (hall' i hi)
    refine ⟨_, len, cap, (List.range len).map f, rfl, ⟨by simp, hl, by unfold maxLen at hm; omega, fun d hd => ?_, .inr ⟨b, off, s, rfl, fun i hi => ?_⟩⟩⟩
    · simp only [List.mem_map, List.mem_range] at hd
      obtain ⟨i, hi, rfl⟩ := hd
      exact (hf i (by omega)).1
    · have hc := (World.cells?_some (hf i (by omega)).2).2.2
      have h0 := (World.cells?_some (hf 0 (by omega)).2).2.2 0 (by omega)
      have hl0 := (hf 0 (by omega)).1.len
      have hli := (hf i (by omega)).1.len
      rw [List.getElem?_map, List.getElem?_eq_getElem (by omega)] at h0
      have hs : s = none := by
        have := World.cell?_spot h0
        simpa [Addr.add] using this
      subst hs
      have hx : b < W.heap.size := by
        rw [Addr.add_mid, Addr.add_mid] at h0
        exact World.block_lt_of_cell? W _ h0
      refine ⟨rfl, hx, fun k v hv => ?_⟩
      have e : ((List.range len).map f).getD i [] = f i := by simp [hi]
      rw [e] at hv
      have hk : k < 32 := by
        have := (List.getElem?_eq_some_iff.1 hv).1
        simp only [List.length_map, hli] at this
        exact this
      have := hc k hk
      rw [Addr.add_mid, Addr.add_mid] at this
      rw [this]
      exact hv
theorem parts_cells {H : Type} {enc : TypeId × Value → H} {P : Program} {W : World} {n : Nat} {t e r d q : TypeId} {f0 f1 : Field} {cs : List Value} {x : DataW H × List MemPlace} (ht : P.underlying t = some (.slice e)) (hs : P.underlying e = some (.struct #[f0, f1]))
    (c2 : P.cellsOf e = 2) (o0 : f0.offset = 0) (o1 : f1.offset = 1) (t0 : f0.type = r) (t1 : f1.type = r) (cr : P.cellsOf r = 1)
    (hu : P.underlying r = some (.slice d)) (he : P.underlying d = some (.array 32 q)) (hq : P.underlying q = some (.int .u8)) (ce : P.cellsOf d = 32) (cq : P.cellsOf q = 1)
    (h : DataW.trod enc P W 0 (fun _ => true) true n t cs = some x) :
    ∃ (a : Option Addr) (len cap : Nat) (ps : List Prt), cs = [.slice a len cap] ∧ PartsAt W a len cap ps := by
  rcases Go.Deep.open_slice_pairs ht hs c2 o0 o1 (by rw [t0]; exact cr) (by rw [t1]; exact cr) h with ⟨rfl, _⟩ | ⟨x, len, cap, m, n, V0, V1, D0, D1, P0, P1, rfl, _, hl, hm, hmm, _, hall⟩
  · exact ⟨none, 0, 0, [], rfl, PartsAt.nil W⟩
  · obtain ⟨b, off, s⟩ := x
    simp only [if_true] at hmm
    have hall' : ∀ i, i < cap → ∃ p : Prt, RowV p.1.length p.1 (V0 i) W ∧ RowV p.2.length p.2 (V1 i) W := fun i hi => by
      obtain ⟨_, _, h1, h2⟩ := hall i (by omega)
      rw [t0] at h1
      rw [t1] at h2
      obtain ⟨a0, l0, k0, d0, e0, g0⟩ := digs_cells hu he hq ce cq h1
      obtain ⟨a1, l1, k1, d1, e1, g1⟩ := digs_cells hu he hq ce cq h2
      obtain rfl := g0.length
      obtain rfl := g1.length
      exact ⟨(d0, d1), ⟨a0, k0, by simpa using e0, g0⟩, ⟨a1, k1, by simpa using e1, g1⟩⟩
    let f : Nat → Prt := fun i => if h : i < cap then Classical.choose (hall' i h) else ([], [])
    have hf : ∀ i, i < cap → RowV (f i).1.length (f i).1 (V0 i) W ∧ RowV (f i).2.length (f i).2 (V1 i) W := fun i hi => by
      simp only [f, hi, dif_pos]
      exact Classical.choose_spec (hall' i hi)
    refine ⟨_, len, cap, (List.range len).map f, rfl, ⟨by simp, hl, by unfold maxLen at hm; omega, .inr ⟨b, off, s, rfl, fun i hi => ?_⟩⟩⟩
    obtain ⟨k0, k1, _, _⟩ := hall i (by omega)
    have hs : s = none := by
      have := World.cell?_spot (hall 0 (by omega)).1
      simpa [Addr.add] using this
    subst hs
    have e : ((List.range len).map f).getD i ([], []) = f i := by simp [hi]
    rw [e]
    rw [Addr.add_mid] at k0 k1
    exact ⟨rfl, World.block_lt_of_cell? W _ k0, V0 i, V1 i, k0, by rw [Nat.add_assoc]; exact k1, (hf i (by omega)).1, (hf i (by omega)).2⟩
/-- A signature, as it comes in. -/
theorem open_sig {H : Type} {enc : TypeId × Value → H} {W : World} {base : Nat} {v : Value} {d : DataW H} {p : List MemPlace} (hv : Value.okWide Tryz.prog W .any base 32 v) (h : DataW.Trod enc Tryz.prog W 0 (fun _ => true) true 32 v d p) :
    ∃ (i : Int) (r : List Int) (a : Option Addr) (n c : Nat) (ps : List Prt), v = .agg (sigC i r (.slice a n c)).toArray ∧ (Lit.int .i64 i).wf = true ∧ Dg r ∧ PartsAt W a n c ps := by
  obtain ⟨f0, f1, f2, hu, t0, t1, t2, o0, o1, o2⟩ : ∃ f0 f1 f2 : Field, Tryz.prog.underlying 32 = some (.struct #[f0, f1, f2]) ∧ f0.type = 3 ∧ f1.type = 25 ∧ f2.type = 30 ∧ f0.offset = 0 ∧ f1.offset = 1 ∧ f2.offset = 33 := ⟨_, _, _, Tryz.underlying32, rfl, rfl, rfl, rfl, rfl, rfl⟩
  obtain ⟨g0, g1, hs, s0, s1, p0, p1⟩ : ∃ f0 f1 : Field, Tryz.prog.underlying 58 = some (.struct #[f0, f1]) ∧ f0.type = 33 ∧ f1.type = 33 ∧ f0.offset = 0 ∧ f1.offset = 1 := ⟨_, _, Tryz.underlying58, rfl, rfl, rfl, rfl⟩
  have c32 : Tryz.prog.cellsOf 25 = 32 := by kernel_rfl
  have c34 : Tryz.prog.cellsOf 32 = 34 := by kernel_rfl
  have c1 : Tryz.prog.cellsOf 5 = 1 := by kernel_rfl
  have ci : Tryz.prog.cellsOf 3 = 1 := by kernel_rfl
  have cp : Tryz.prog.cellsOf 30 = 1 := by kernel_rfl
  have cd : Tryz.prog.cellsOf 33 = 1 := by kernel_rfl
  have c2 : Tryz.prog.cellsOf 58 = 2 := by kernel_rfl
  unfold Value.okWide at hv
  rw [hu] at hv
  obtain ⟨cs, rfl, hsz, _⟩ := hv
  obtain ⟨fuel, hf⟩ := h
  have hf : DataW.trod enc Tryz.prog W 0 (fun _ => true) true fuel 32 cs.toList = some (d, p) := hf
  obtain ⟨y0, y1, y2, n, _, hl, q0, q1, q2⟩ := Go.Deep.trod_struct3 hu hf
  rw [t0, o0, ci] at q0
  rw [t1, o1, c32] at q1
  rw [t2, o2, cp] at q2
  obtain ⟨i, e0, _, w0⟩ := DataW.trod_int Tryz.underlying3 q0
  obtain ⟨r, k1, e1⟩ := digest_cells Tryz.underlying25 Tryz.underlying5 c32 c1 q1
  obtain ⟨a, m, c, ps, e2, k2⟩ := parts_cells Tryz.underlying30 hs c2 p0 p1 s0 s1 cd Tryz.underlying33 Tryz.underlying25 Tryz.underlying5 c32 c1 q2
  refine ⟨i, r, a, m, c, ps, ?_, w0, k1, k2⟩
  refine congrArg Value.agg ?_
  apply Array.ext'
  rw [c34] at hl
  have h3 : cs.toList = (cs.toList.drop 0).take 1 ++ ((cs.toList.drop 1).take 32 ++ (cs.toList.drop 33).take 1) := by
    rw [List.take_of_length_le (l := cs.toList.drop 33) (by rw [List.length_drop]; omega)]
    rw [show cs.toList.drop 33 = (cs.toList.drop 1).drop 32 by rw [List.drop_drop], List.take_append_drop, List.drop_zero, List.take_append_drop]
  rw [h3, e0, e1, e2]
  rfl
/-- A key, as it comes in. -/
theorem open_pub {H : Type} {enc : TypeId × Value → H} {W : World} {base : Nat} {v : Value} {d : DataW H} {p : List MemPlace} (hv : Value.okWide Tryz.prog W .any base 27 v) (h : DataW.Trod enc Tryz.prog W 0 (fun _ => true) true 27 v d p) :
    ∃ (L V : Int) (root pub : List Int), v = .agg (pubC L V root pub).toArray ∧ (Lit.int .i64 L).wf = true ∧ (Lit.int .i64 V).wf = true ∧ Dg root ∧ Dg pub := by
  obtain ⟨f0, f1, f2, hu, t0, t1, t2, o0, o1, o2⟩ : ∃ f0 f1 f2 : Field, Tryz.prog.underlying 27 = some (.struct #[f0, f1, f2]) ∧ f0.type = 23 ∧ f1.type = 25 ∧ f2.type = 25 ∧ f0.offset = 0 ∧ f1.offset = 2 ∧ f2.offset = 34 := ⟨_, _, _, Tryz.underlying27, rfl, rfl, rfl, rfl, rfl, rfl⟩
  obtain ⟨g0, g1, hs, s0, s1, p0, p1⟩ : ∃ f0 f1 : Field, Tryz.prog.underlying 23 = some (.struct #[f0, f1]) ∧ f0.type = 3 ∧ f1.type = 3 ∧ f0.offset = 0 ∧ f1.offset = 1 := ⟨_, _, Tryz.underlying23, rfl, rfl, rfl, rfl⟩
  have c32 : Tryz.prog.cellsOf 25 = 32 := by kernel_rfl
  have c66 : Tryz.prog.cellsOf 27 = 66 := by kernel_rfl
  have c1 : Tryz.prog.cellsOf 5 = 1 := by kernel_rfl
  have ci : Tryz.prog.cellsOf 3 = 1 := by kernel_rfl
  have c2 : Tryz.prog.cellsOf 23 = 2 := by kernel_rfl
  unfold Value.okWide at hv
  rw [hu] at hv
  obtain ⟨cs, rfl, hsz, _⟩ := hv
  obtain ⟨fuel, hf⟩ := h
  have hf : DataW.trod enc Tryz.prog W 0 (fun _ => true) true fuel 27 cs.toList = some (d, p) := hf
  obtain ⟨y0, y1, y2, n, _, hl, q0, q1, q2⟩ := Go.Deep.trod_struct3 hu hf
  rw [t0, o0, c2] at q0
  rw [t1, o1, c32] at q1
  rw [t2, o2, c32] at q2
  obtain ⟨z0, z1, m, _, hl2, r0, r1⟩ := trod_struct2 hs q0
  rw [s0, p0, ci] at r0
  rw [s1, p1, ci] at r1
  obtain ⟨x, e0, _, w0⟩ := DataW.trod_int Tryz.underlying3 r0
  obtain ⟨y, e1, _, w1⟩ := DataW.trod_int Tryz.underlying3 r1
  obtain ⟨root, k1, e2⟩ := digest_cells Tryz.underlying25 Tryz.underlying5 c32 c1 q1
  obtain ⟨pub, k2, e3⟩ := digest_cells Tryz.underlying25 Tryz.underlying5 c32 c1 q2
  refine ⟨x, y, root, pub, ?_, w0, w1, k1, k2⟩
  refine congrArg Value.agg ?_
  apply Array.ext'
  rw [c66] at hl
  rw [c2] at hl2
  have h2 : (cs.toList.drop 0).take 2 = [.int .i64 x, .int .i64 y] := by
    obtain ⟨a, b, hab⟩ : ∃ a b, (cs.toList.drop 0).take 2 = [a, b] := by
      match (cs.toList.drop 0).take 2, hl2 with
      | [a, b], _ => exact ⟨a, b, rfl⟩
    rw [hab] at e0 e1 ⊢
    simp at e0 e1
    rw [e0, e1]
  have h3 : cs.toList = (cs.toList.drop 0).take 2 ++ ((cs.toList.drop 2).take 32 ++ (cs.toList.drop 34).take 32) := by
    rw [List.take_of_length_le (l := cs.toList.drop 34) (by rw [List.length_drop]; omega)]
    rw [show cs.toList.drop 34 = (cs.toList.drop 2).drop 32 by rw [List.drop_drop], List.take_append_drop, List.drop_zero, List.take_append_drop]
  rw [h3, h2, e2, e3]
  rfl
end Go.Proofs.YtkakoiaahgchmaaGreatDoor
namespace Go.Proofs.YtkakoiaahgchmaaGreatDoor
set_option maxRecDepth 100000
open Go.ChangeShapes Go.WideShapes Go.ChangeAt Go.RowKit
section
variable {P : Program} {ops : Array Oper} {rest : List Oper} {op : Oper} {a : Act} {w : World} {Q : Exit → Act → World → Prop} {t e : TypeId}
/-- An element's address, of elements of s cells. -/
theorem run_indexAt_s (s : Nat) (ht : P.underlying t = some (.slice e)) (hs : (P.info? e).map (·.size) = some s) (b o len cap : Nat) (k : IntKind) (i : Int) (j : Nat) (hi : i = j) (hj : j < len) (w : World) :
    (Instr.indexAt t (.slice (some ⟨b, o, none⟩) len cap) (.int k i)).run P w = .ok (.pointer (some ⟨b, o + j * s, none⟩)) w := by
  subst hi
  obtain ⟨i0, hi0, h32⟩ := Option.map_eq_some_iff.1 hs
  have hlt : (0 : Int) ≤ j ∧ (j : Int) < len := by omega
  unfold Instr.indexAt
  simp [asIntOf, Sem.run_bind, run_underlying ht, hlt, sizeOf, typeInfo, hi0, h32, hj, Addr.add_mid]
theorem wpList_index_s (s : Nat) (hw : Region.wanted op (yielded ops a.tmps) = true) (ty : TypeId) (x ix : Operand) (ho : op.op = .indexAddr ty x ix) (ht : P.underlying ty = some (.slice e)) (hs : (P.info? e).map (·.size) = some s) (b o len cap : Nat) (hx : a.eval x = .slice (some ⟨b, o, none⟩) len cap)
    (k : IntKind) (i : Int) (hix : a.eval ix = .int k i) (j : Nat) (hi : i = j) (hj : j < len) (h : wpList P ops Q rest (a.put op.dst (.pointer (some ⟨b, o + j * s, none⟩))) w) : wpList P ops Q (op :: rest) a w := by
  unfold wpList
  rw [if_pos hw]
  refine .inl ?_
  unfold Oper.wp execOp
  simp only [ho, hx, hix, Sem.run_bind, Sem.run_pure, Result.andThen_ok, run_indexAt_s s ht hs b o len cap k i j hi hj, Oper.upon_value]
  exact h
theorem quiet_index_s (s : Nat) {C : World → Prop} {K : Act → Prop} (ty : TypeId) (x ix : Operand) (ho : op.op = .indexAddr ty x ix) (ht : P.underlying ty = some (.slice e)) (hs : (P.info? e).map (·.size) = some s) (b o len cap : Nat) (hx : a.eval x = .slice (some ⟨b, o, none⟩) len cap)
    (k : IntKind) (i : Int) (hix : a.eval ix = .int k i) (j : Nat) (hi : i = j) (hj : j < len) (h : K (a.put op.dst (.pointer (some ⟨b, o + j * s, none⟩)))) : op.quiet P a C K :=
  ⟨.pointer (some ⟨b, o + j * s, none⟩), fun w' hw' => by
    unfold Oper.quietAt execOp
    simp only [ho, hx, hix, Sem.run_bind, Sem.run_pure, Result.andThen_ok, run_indexAt_s s ht hs b o len cap k i j hi hj]
    simp [Oper.quietUpon], h⟩
end
theorem size_part : (Tryz.prog.info? 58).map (·.size) = some 2 := by kernel_rfl
theorem sigC_index {i : Int} {r : List Int} {pv : Value} {w : World} {b : Nat} {T : TypeId} (k : Blk w b (sigC i r pv).toArray T) : w.cell? ⟨b, 0, none⟩ = some (.int .i64 i) := by rw [k.cell]; rfl
theorem sigC_parts {i : Int} {r : List Int} {pv : Value} {w : World} {b : Nat} {T : TypeId} (h : Dg r) (k : Blk w b (sigC i r pv).toArray T) : w.cell? ⟨b, 33, none⟩ = some pv := by
  rw [k.cell]
  simp [sigC, h.len]
theorem sigC_r {i : Int} {r : List Int} {pv : Value} {w : World} {b : Nat} {T : TypeId} (k : Blk w b (sigC i r pv).toArray T) : w.rangeAt b 1 (r.map (Value.int .u8)) := fun j v hv => by
  have hj : j < r.length := by have := (List.getElem?_eq_some_iff.1 hv).1; simpa using this
  rw [k.cell, List.getElem?_toArray, ← hv, Nat.add_comm]
  unfold sigC
  rw [List.getElem?_cons_succ, List.getElem?_append_left (by rw [List.length_map]; exact hj)]
/-- What a part's place holds. -/
structure PartC (w : World) (x o : Nat) (p : Prt) (oa : Option Addr) (oc : Nat) (aa : Option Addr) (ac : Nat) : Prop where
  lt : x < w.heap.size
  c0 : w.cell? ⟨x, o, none⟩ = some (.slice oa p.1.length oc)
  c1 : w.cell? ⟨x, o + 1, none⟩ = some (.slice aa p.2.length ac)
  ots : DigsAt w oa p.1.length oc p.1
  auth : DigsAt w aa p.2.length ac p.2
theorem PartC.range {w : World} {x o : Nat} {p : Prt} {oa : Option Addr} {oc : Nat} {aa : Option Addr} {ac : Nat} (h : PartC w x o p oa oc aa ac) : w.rangeAt x o [.slice oa p.1.length oc, .slice aa p.2.length ac] := fun j v hv => by
  match j, hv with
  | 0, hv => rw [Nat.add_zero, h.c0]; exact hv
  | 1, hv => rw [h.c1]; exact hv
  | j + 2, hv => simp at hv
theorem PartC.below {w w' : World} {x o : Nat} {p : Prt} {oa : Option Addr} {oc : Nat} {aa : Option Addr} {ac : Nat} (h : PartC w x o p oa oc aa ac) (hb : Below w.heap.size w w') : PartC w' x o p oa oc aa ac :=
  ⟨Nat.lt_of_lt_of_le h.lt hb.size, by rw [hb.cell (p := ⟨x, o, none⟩) h.lt]; exact h.c0, by rw [hb.cell (p := ⟨x, o + 1, none⟩) h.lt]; exact h.c1, h.ots.below hb, h.auth.below hb⟩
theorem PartsAt.part {w : World} {a : Option Addr} {len cap : Nat} {ps : List Prt} (h : PartsAt w a len cap ps) {k : Nat} (hk : k < len) :
    ∃ x o oa oc aa ac, a = some ⟨x, o, none⟩ ∧ PartC w x (o + k * 2) (ps.getD k ([], [])) oa oc aa ac := by
  obtain ⟨x, o, rfl, hx, hc⟩ := h.at_ (by omega)
  obtain ⟨u, v, c0, c1, ⟨oa, oc, rfl, h0⟩, ⟨aa, ac, rfl, h1⟩⟩ := hc k hk
  exact ⟨x, o, oa, oc, aa, ac, rfl, hx, c0, c1, h0, h1⟩
/-- Are a signature's parts few? -/
def fewP (ps : List Prt) : Bool := decide (∀ j, j < ps.length → (ps.getD j ([], [])).1.length ≤ 100 ∧ (ps.getD j ([], [])).2.length ≤ 100) && decide (ps.length ≤ 20)
theorem fewP_bad {ps : List Prt} {k : Nat} (hk : k < ps.length) (h : ¬ ((ps.getD k ([], [])).1.length ≤ 100 ∧ (ps.getD k ([], [])).2.length ≤ 100)) : fewP ps = false := by
  unfold fewP
  rw [decide_eq_false (fun hh => h (hh k hk))]
  rfl
theorem fewP_good {ps : List Prt} (h : ∀ j, j < ps.length → (ps.getD j ([], [])).1.length ≤ 100 ∧ (ps.getD j ([], [])).2.length ≤ 100) : fewP ps = decide (ps.length ≤ 20) := by
  unfold fewP
  rw [decide_eq_true h]
  rfl
set_option maxHeartbeats 4000000 in
theorem reffew_any (i : Int) (r : List Int) (a : Option Addr) (n c : Nat) (ps : List Prt) (w : World) (hr : Dg r) (hP : PartsAt w a n c ps) :
    Calls Tryz.prog 5 #[.agg (sigC i r (.slice a n c)).toArray] w fun e w' => e = .returned (.bool (fewP ps)) ∧ Below w.heap.size w w' := by
  have hmx := hP.max
  have hle := hP.le
  have b1 := (Below.refl w.heap.size w).alloc (Nat.le_refl _) (.cells (sigC i r (.slice a n c)).toArray 32 (0, 0))
  have Kg := hid (Blk.new (w := w) (n := w.heap.size) rfl (sigC i r (.slice a n c)).toArray 32)
  have Hb := hid b1
  have hbz := b1.size
  have Hbs := hid (show w.heap.size + 1 = (w.alloc (.cells (sigC i r (.slice a n c)).toArray 32 (0, 0))).heap.size by simp only [World.size_alloc])
  clear b1 
  go_enter Tryz.func5, Tryz.ntmps5
  go_wp2_with fail
  go_loopw [3] (fun iv wr => ∃ k : Nat, k ≤ n ∧ iv = .int .i64 k ∧ Blk wr (w.heap.size) (sigC i r (.slice a n c)).toArray 32 ∧ Below w.heap.size w wr ∧ ∀ j, j < k → (ps.getD j ([], [])).1.length ≤ 100 ∧ (ps.getD j ([], [])).2.length ≤ 100) (fun iv _ => n - (intOf iv).toNat)
  case atStart => exact ⟨0, Nat.zero_le _, rfl, Kg.out, Hb.out, fun j hj => absurd hj (by omega)⟩
  case round =>
    obtain ⟨k, hk, rfl, kg, bel, hall⟩ := hrel
    have Kgwr := hid kg
    have HBwr := hid bel
    have hswr := bel.size
    have Hall := hid hall
    have g33 := sigC_parts hr kg
    clear kg bel hall
    by_cases hlt : k < n
    · have hc0 : (k : Int) < n := by omega
      obtain ⟨x, o, oa, oc, aa, ac, rfl, hpc⟩ := (hP.below HBwr.out).part hlt
      have HPC := hid hpc
      have p0 := hpc.c0
      have p1 := hpc.c1
      clear hpc
      have hkl : k < ps.length := by rw [hP.length]; exact hlt
      have Hbad := hid (fewP_bad hkl)
      obtain ⟨q, hq⟩ : ∃ q, ps.getD k ([], []) = q := ⟨_, rfl⟩
      have Hq := hid hq
      rw [hq] at Hbad HPC p0 p1
      clear hq
      by_cases h1 : q.1.length ≤ 100
      · have hd1 : ¬ (100 : Int) < q.1.length := by omega
        by_cases h2 : q.2.length ≤ 100
        · have hd2 : ¬ (100 : Int) < q.2.length := by omega
          go_wp2_with (refine wpList_index_s 2 (by first | rfl | go_simp) 30 _ _ rfl Tryz.underlying30 size_part x (o) (n) (c) rfl _ _ rfl k (by omega) (by omega) ?_)
          exact ⟨⟨k + 1, by omega, by first | rfl | simp, Kgwr.out, HBwr.out, fun j hj => by
            by_cases hjk : j = k
            · subst hjk; rw [Hq.out]; exact ⟨h1, h2⟩
            · exact Hall.out j (by omega)⟩, by simp [intOf]; omega⟩
        · have hd2 : (100 : Int) < q.2.length := by omega
          go_wp2_with (refine wpList_index_s 2 (by first | rfl | go_simp) 30 _ _ rfl Tryz.underlying30 size_part x (o) (n) (c) rfl _ _ rfl k (by omega) (by omega) ?_)
          go_returns
          exact ⟨by rw [Hbad.out (fun h => h2 h.2)]; rfl, HBwr.out⟩
      · have hd1 : (100 : Int) < q.1.length := by omega
        go_wp2_with (refine wpList_index_s 2 (by first | rfl | go_simp) 30 _ _ rfl Tryz.underlying30 size_part x (o) (n) (c) rfl _ _ rfl k (by omega) (by omega) ?_)
        go_returns
        exact ⟨by rw [Hbad.out (fun h => h1 h.1)]; rfl, HBwr.out⟩
    · obtain rfl : k = n := by omega
      have hc0 : ¬ ((k : Int) < k) := by omega
      have hl := hP.length
      go_wp2_with fail
      go_returns
      exact ⟨by rw [fewP_good (fun j hj => Hall.out j (by omega)), hl]; simp; omega, HBwr.out⟩
end Go.Proofs.YtkakoiaahgchmaaGreatDoor
namespace Go.Proofs.YtkakoiaahgchmaaGreatDoor
set_option maxRecDepth 100000
open Go.ChangeShapes Go.WideShapes Go.ChangeAt Go.RowKit
/-- Has a signature the parts that a shape asks for? -/
def formB (L V i : Int) (ps : List Prt) : Bool := rightS L V && decide (0 ≤ i) && decide (i < manyS L V) && decide ((ps.length : Int) = L) && decide (∀ j, j < ps.length → (ps.getD j ([], [])).1.length = 67 ∧ ((ps.getD j ([], [])).2.length : Int) = V)
theorem formB_neg {L V i : Int} {ps : List Prt} (h : i < 0) : formB L V i ps = false := by simp [formB, show ¬ 0 ≤ i by omega]
theorem formB_many {L V i : Int} {ps : List Prt} (h : manyS L V ≤ i) : formB L V i ps = false := by simp [formB, show ¬ i < manyS L V by omega]
theorem formB_len {L V i : Int} {ps : List Prt} (h : ¬ (ps.length : Int) = L) : formB L V i ps = false := by simp [formB, h]
theorem formB_part {L V i : Int} {ps : List Prt} {k : Nat} (hk : k < ps.length) (h : ¬ ((ps.getD k ([], [])).1.length = 67 ∧ ((ps.getD k ([], [])).2.length : Int) = V)) : formB L V i ps = false := by
  have hn : ¬ ∀ j, j < ps.length → (ps.getD j ([], [])).1.length = 67 ∧ ((ps.getD j ([], [])).2.length : Int) = V := fun hh => h (hh k hk)
  unfold formB
  rw [decide_eq_false hn, Bool.and_false]
theorem formB_right {L V i : Int} {ps : List Prt} (h : rightS L V = false) : formB L V i ps = false := by simp [formB, h]
theorem formB_good {L V i : Int} {ps : List Prt} (h : rightS L V = true) (h0 : 0 ≤ i) (h1 : i < manyS L V) (h2 : (ps.length : Int) = L) (h3 : ∀ j, j < ps.length → (ps.getD j ([], [])).1.length = 67 ∧ ((ps.getD j ([], [])).2.length : Int) = V) : formB L V i ps = true := by
  unfold formB
  rw [decide_eq_true h3, decide_eq_true h2, decide_eq_true h1, decide_eq_true h0, h]
  rfl
set_option maxHeartbeats 4000000 in
theorem formed_right (L V i : Int) (r : List Int) (a : Option Addr) (n c : Nat) (ps : List Prt) (w : World) (hrt : rightS L V = true) (hr : Dg r) (hP : PartsAt w a n c ps) :
    Calls Tryz.prog 69 #[.agg (shC L V), .agg (sigC i r (.slice a n c)).toArray] w fun e w' => e = .returned (.bool (formB L V i ps)) ∧ Below w.heap.size w w' := by
  have hmx := hP.max
  have hle := hP.le
  have b1 := (Below.refl w.heap.size w).alloc (Nat.le_refl _) (.cells (shC L V) 23 (0, 0))
  have b2 := b1.alloc b1.size (.cells (sigC i r (.slice a n c)).toArray 32 (0, 0))
  have Ksh := hid ((Blk.new (w := w) (n := w.heap.size) rfl (shC L V) 23).old (.cells (sigC i r (.slice a n c)).toArray 32 (0, 0)))
  have Kg := hid (Blk.new (w := (w.alloc (.cells (shC L V) 23 (0, 0)))) (n := w.heap.size + 1) (by simp only [World.size_alloc]) (sigC i r (.slice a n c)).toArray 32)
  have Hb := hid b2
  have hbz := b2.size
  have Hbs := hid (show w.heap.size + 1 + 1 = ((w.alloc (.cells (shC L V) 23 (0, 0))).alloc (.cells (sigC i r (.slice a n c)).toArray 32 (0, 0))).heap.size by simp only [World.size_alloc])
  clear b1 b2 
  go_enter Tryz.func69, Tryz.ntmps69
  go_wp2_with fail
  have CM := hid (fun W : World => many_any L V W)
  obtain ⟨M, hM⟩ : ∃ M, manyS L V = M := ⟨_, rfl⟩
  have HM := hid hM
  rw [hM] at CM
  clear hM
  by_cases h0 : i < 0
  · skip
    have hd0 : decide (i < 0) = true := decide_eq_true h0
    refine wp_region_flow 23 (List.range 23) [] [] (by kernel_rfl) (by kernel_rfl) ?_
    apply Exists.intro
    refine ⟨fun w0 hb0 hF0 => ?_, ?_⟩
    · skip
      have x0 : ∀ w', (∃ x : Ext w0, w' = x.at_) → ∃ T, Blk w' (w.heap.size) (shC L V) T := fun w' ⟨x, hx⟩ => ⟨_, hx ▸ (Ksh.out.below hb0).below x.same⟩
      have y0 : ∀ w', (∃ x : Ext w0, w' = x.at_) → w'.cell? ⟨w.heap.size + 1, 0, none⟩ = some (.int .i64 i) := fun w' ⟨x, hx⟩ => by rw [hx, ((Kg.out.below hb0).below x.same).cell]; rfl
      have c0 := fun e : Ext w0 => hright_b L V true hrt e.at_
      have c1 := fun e : Ext w0 => CM.out e.at_
      simp only [pick, List.range, List.range.loop, List.getElem?_toArray, List.getElem?_cons_succ, List.getElem?_cons_zero, Option.toList_some, List.cons_append, List.nil_append]
      repeat (first | (go_big_quiet_want; refine quiet_load_blk 23 _ rfl (w.heap.size) rfl _ x0 _ Tryz.underlying23 rfl 2 size_shape rfl ?_; go_big_quiet_on; simp only [Act.put, List.setIfInBounds_toArray, List.set_cons_zero, List.set_cons_succ]) | (go_big_quiet_want; refine quiet_load_one 3 _ rfl ⟨w.heap.size + 1, 0, none⟩ rfl _ y0 _ Tryz.underlying3 rfl ?_; go_big_quiet_on; simp only [Act.put, List.setIfInBounds_toArray, List.set_cons_zero, List.set_cons_succ]) | go_big_quiet_step (first | (go_at_call 96; with_reducible exact Calls.ext (c0 _)) | (go_at_call 97; with_reducible exact Calls.ext (c1 _))))
      exact wpQuiet_nil rfl
    refine AlChk.nil ?_
    refine Walk.fin fun w1 hw1 _ _ => ?_
    simp only [List.drop_succ_cons, List.drop_zero]
    have HBw1 := hid (Below.on Hb.out hw1)
    have hsw1 := HBw1.out.size
    have Kshw1 := hid (Ksh.out.below hw1)
    have Kgw1 := hid (Kg.out.below hw1)
    clear hw1
    go_wp2_with fail
    go_returns
    exact ⟨by rw [formB_neg h0]; rfl, HBw1.out⟩
  have hd0 : decide (i < 0) = false := decide_eq_false h0
  by_cases h1 : i ≥ M
  · skip
    have hd1 : decide (i ≥ M) = true := decide_eq_true h1
    have hd1 : decide (M ≤ i) = true := decide_eq_true h1
    refine wp_region_flow 23 (List.range 23) [] [] (by kernel_rfl) (by kernel_rfl) ?_
    apply Exists.intro
    refine ⟨fun w0 hb0 hF0 => ?_, ?_⟩
    · skip
      have x0 : ∀ w', (∃ x : Ext w0, w' = x.at_) → ∃ T, Blk w' (w.heap.size) (shC L V) T := fun w' ⟨x, hx⟩ => ⟨_, hx ▸ (Ksh.out.below hb0).below x.same⟩
      have y0 : ∀ w', (∃ x : Ext w0, w' = x.at_) → w'.cell? ⟨w.heap.size + 1, 0, none⟩ = some (.int .i64 i) := fun w' ⟨x, hx⟩ => by rw [hx, ((Kg.out.below hb0).below x.same).cell]; rfl
      have c0 := fun e : Ext w0 => hright_b L V true hrt e.at_
      have c1 := fun e : Ext w0 => CM.out e.at_
      simp only [pick, List.range, List.range.loop, List.getElem?_toArray, List.getElem?_cons_succ, List.getElem?_cons_zero, Option.toList_some, List.cons_append, List.nil_append]
      repeat (first | (go_big_quiet_want; refine quiet_load_blk 23 _ rfl (w.heap.size) rfl _ x0 _ Tryz.underlying23 rfl 2 size_shape rfl ?_; go_big_quiet_on; simp only [Act.put, List.setIfInBounds_toArray, List.set_cons_zero, List.set_cons_succ]) | (go_big_quiet_want; refine quiet_load_one 3 _ rfl ⟨w.heap.size + 1, 0, none⟩ rfl _ y0 _ Tryz.underlying3 rfl ?_; go_big_quiet_on; simp only [Act.put, List.setIfInBounds_toArray, List.set_cons_zero, List.set_cons_succ]) | go_big_quiet_step (first | (go_at_call 96; with_reducible exact Calls.ext (c0 _)) | (go_at_call 97; with_reducible exact Calls.ext (c1 _))))
      exact wpQuiet_nil rfl
    refine AlChk.nil ?_
    refine Walk.fin fun w1 hw1 _ _ => ?_
    simp only [List.drop_succ_cons, List.drop_zero]
    have HBw1 := hid (Below.on Hb.out hw1)
    have hsw1 := HBw1.out.size
    have Kshw1 := hid (Ksh.out.below hw1)
    have Kgw1 := hid (Kg.out.below hw1)
    clear hw1
    go_wp2_with fail
    go_returns
    exact ⟨by rw [formB_many (by rw [HM.out]; exact h1)]; rfl, HBw1.out⟩
  have hd1 : decide (i ≥ M) = false := decide_eq_false h1
  have hd1 : decide (M ≤ i) = false := decide_eq_false h1
  by_cases h2 : (n : Int) = L
  · skip
    have hd2 : ((n : Int) != L) = false := by simp [h2]
    have hd2 : ((n : Int) == L) = true := by simp [h2]
    have H2 := hid h2
    clear h2
    refine wp_region_flow 23 (List.range 23) [] [] (by kernel_rfl) (by kernel_rfl) ?_
    apply Exists.intro
    refine ⟨fun w0 hb0 hF0 => ?_, ?_⟩
    · skip
      have x0 : ∀ w', (∃ x : Ext w0, w' = x.at_) → ∃ T, Blk w' (w.heap.size) (shC L V) T := fun w' ⟨x, hx⟩ => ⟨_, hx ▸ (Ksh.out.below hb0).below x.same⟩
      have y0 : ∀ w', (∃ x : Ext w0, w' = x.at_) → w'.cell? ⟨w.heap.size + 1, 0, none⟩ = some (.int .i64 i) := fun w' ⟨x, hx⟩ => by rw [hx, ((Kg.out.below hb0).below x.same).cell]; rfl
      have y1 : ∀ w', (∃ x : Ext w0, w' = x.at_) → w'.cell? ⟨w.heap.size, 0, none⟩ = some (.int .i64 L) := fun w' ⟨x, hx⟩ => by rw [hx, ((Ksh.out.below hb0).below x.same).cell]; rfl
      have c0 := fun e : Ext w0 => hright_b L V true hrt e.at_
      have c1 := fun e : Ext w0 => CM.out e.at_
      have yp : ∀ w', (∃ x : Ext w0, w' = x.at_) → w'.cell? ⟨w.heap.size + 1, 33, none⟩ = some (.slice a n c) := fun w' ⟨x, hx⟩ => hx ▸ sigC_parts hr ((Kg.out.below hb0).below x.same)
      simp only [pick, List.range, List.range.loop, List.getElem?_toArray, List.getElem?_cons_succ, List.getElem?_cons_zero, Option.toList_some, List.cons_append, List.nil_append]
      repeat (first | (go_big_quiet_want; refine quiet_load_blk 23 _ rfl (w.heap.size) rfl _ x0 _ Tryz.underlying23 rfl 2 size_shape rfl ?_; go_big_quiet_on; simp only [Act.put, List.setIfInBounds_toArray, List.set_cons_zero, List.set_cons_succ]) | (go_big_quiet_want; refine quiet_load_one 3 _ rfl ⟨w.heap.size + 1, 0, none⟩ rfl _ y0 _ Tryz.underlying3 rfl ?_; go_big_quiet_on; simp only [Act.put, List.setIfInBounds_toArray, List.set_cons_zero, List.set_cons_succ]) | (go_big_quiet_want; refine quiet_load_one 3 _ rfl ⟨w.heap.size, 0, none⟩ rfl _ y1 _ Tryz.underlying3 rfl ?_; go_big_quiet_on; simp only [Act.put, List.setIfInBounds_toArray, List.set_cons_zero, List.set_cons_succ]) | (go_big_quiet_want; refine quiet_load_one 30 _ rfl ⟨w.heap.size + 1, 33, none⟩ rfl _ yp _ Tryz.underlying30 rfl ?_; go_big_quiet_on; simp only [Act.put, List.setIfInBounds_toArray, List.set_cons_zero, List.set_cons_succ]) | go_big_quiet_step (first | (go_at_call 96; with_reducible exact Calls.ext (c0 _)) | (go_at_call 97; with_reducible exact Calls.ext (c1 _))))
      exact wpQuiet_nil rfl
    refine AlChk.nil ?_
    refine Walk.fin fun w1 hw1 _ _ => ?_
    simp only [List.drop_succ_cons, List.drop_zero]
    have HBw1 := hid (Below.on Hb.out hw1)
    have hsw1 := HBw1.out.size
    have Kshw1 := hid (Ksh.out.below hw1)
    have Kgw1 := hid (Kg.out.below hw1)
    clear hw1
    have g33 := sigC_parts hr Kgw1.out
    go_wp2_with fail
    go_loopw [33] (fun iv wr => ∃ k : Nat, k ≤ n ∧ iv = .int .i64 k ∧ Blk wr (w.heap.size) (shC L V) 23 ∧ Blk wr (w.heap.size + 1) (sigC i r (.slice a n c)).toArray 32 ∧ Below w.heap.size w wr ∧ ∀ j, j < k → (ps.getD j ([], [])).1.length = 67 ∧ ((ps.getD j ([], [])).2.length : Int) = V) (fun iv _ => n - (intOf iv).toNat)
    case atStart => exact ⟨0, Nat.zero_le _, rfl, Kshw1.out, Kgw1.out, HBw1.out, fun j hj => absurd hj (by omega)⟩
    case round =>
      obtain ⟨k, hk, rfl, ksh, kg, bel, hall⟩ := hrel
      have Kshwr := hid ksh
      have Kgwr := hid kg
      have HBwr := hid bel
      have hswr := bel.size
      have Hall := hid hall
      have g33 := sigC_parts hr kg
      have s1 : wr.cell? ⟨w.heap.size, 1, none⟩ = some (.int .i64 V) := by rw [ksh.cell]; rfl
      clear ksh kg bel hall
      by_cases hlt : k < n
      · have hc0 : (k : Int) < n := by omega
        obtain ⟨x, o, oa, oc, aa, ac, rfl, hpc⟩ := (hP.below HBwr.out).part hlt
        have HPC := hid hpc
        have p0 := hpc.c0
        have p1 := hpc.c1
        clear hpc
        have hkl : k < ps.length := by rw [hP.length]; exact hlt
        have Hbad := hid (formB_part (L := L) (V := V) (i := i) hkl)
        obtain ⟨q, hq⟩ : ∃ q, ps.getD k ([], []) = q := ⟨_, rfl⟩
        have Hq := hid hq
        rw [hq] at Hbad HPC p0 p1
        clear hq
        by_cases h3 : q.1.length = 67
        · have hd3 : ((q.1.length : Int) != 67) = false := by simp; omega
          have hd3 : ((q.1.length : Int) == 67) = true := by simp; omega
          have H3 := hid h3
          clear h3
          by_cases h4 : (q.2.length : Int) = V
          · skip
            have hd4 : ((q.2.length : Int) != V) = false := by simp [h4]
            have hd4 : ((q.2.length : Int) == V) = true := by simp [h4]
            have H4 := hid h4
            clear h4
            have Kshw2 := hid (Kshwr.out.old (.cells #[.slice oa q.1.length oc, .slice aa q.2.length ac] 58 (0, 0)))
            have hlshw2 := Kshwr.out.lt
            have Kgw2 := hid (Kgwr.out.old (.cells #[.slice oa q.1.length oc, .slice aa q.2.length ac] 58 (0, 0)))
            have hlgw2 := Kgwr.out.lt
            have Kxw2 := hid (Blk.new (w := wr) rfl #[.slice oa q.1.length oc, .slice aa q.2.length ac] 58)
            have HBw2 := hid (HBwr.out.alloc HBwr.out.size (.cells #[.slice oa q.1.length oc, .slice aa q.2.length ac] 58 (0, 0)))
            have hsw2 := HBw2.out.size
            have hfw2 : w.heap.size ≤ wr.heap.size := HBwr.out.size
            have v1 : (wr.alloc (.cells #[.slice oa q.1.length oc, .slice aa q.2.length ac] 58 (0, 0))).cell? ⟨w.heap.size, 1, none⟩ = some (.int .i64 V) := by rw [Kshw2.out.cell]; rfl
            have hne : ¬ wr.heap.size = w.heap.size := by omega
            have hne2 : ¬ w.heap.size = wr.heap.size := by omega
            go_wp2_with (first
               | (refine wpList_index_s 2 (by first | rfl | go_simp) 30 _ _ rfl Tryz.underlying30 size_part x (o) (n) (c) rfl _ _ rfl k (by omega) (by omega) ?_)
               | (refine wpList_load_mid rfl 58 _ rfl x (o + k * 2) rfl _ _ HPC.out.range Tryz.underlying58 rfl (by exact size_part) ?_))
            exact ⟨⟨k + 1, by omega, by first | rfl | simp, Kshw2.out, Kgw2.out, HBw2.out, fun j hj => by
              by_cases hjk : j = k
              · subst hjk; rw [Hq.out]; exact ⟨H3.out, H4.out⟩
              · exact Hall.out j (by omega)⟩, by simp [intOf]; omega⟩
          · skip
            have hd4 : ((q.2.length : Int) != V) = true := by simp [h4]
            have hd4 : ((q.2.length : Int) == V) = false := by simp [h4]
            have Kshw2 := hid (Kshwr.out.old (.cells #[.slice oa q.1.length oc, .slice aa q.2.length ac] 58 (0, 0)))
            have hlshw2 := Kshwr.out.lt
            have Kgw2 := hid (Kgwr.out.old (.cells #[.slice oa q.1.length oc, .slice aa q.2.length ac] 58 (0, 0)))
            have hlgw2 := Kgwr.out.lt
            have Kxw2 := hid (Blk.new (w := wr) rfl #[.slice oa q.1.length oc, .slice aa q.2.length ac] 58)
            have HBw2 := hid (HBwr.out.alloc HBwr.out.size (.cells #[.slice oa q.1.length oc, .slice aa q.2.length ac] 58 (0, 0)))
            have hsw2 := HBw2.out.size
            have hfw2 : w.heap.size ≤ wr.heap.size := HBwr.out.size
            have v1 : (wr.alloc (.cells #[.slice oa q.1.length oc, .slice aa q.2.length ac] 58 (0, 0))).cell? ⟨w.heap.size, 1, none⟩ = some (.int .i64 V) := by rw [Kshw2.out.cell]; rfl
            have hne : ¬ wr.heap.size = w.heap.size := by omega
            have hne2 : ¬ w.heap.size = wr.heap.size := by omega
            go_wp2_with (first
               | (refine wpList_index_s 2 (by first | rfl | go_simp) 30 _ _ rfl Tryz.underlying30 size_part x (o) (n) (c) rfl _ _ rfl k (by omega) (by omega) ?_)
               | (refine wpList_load_mid rfl 58 _ rfl x (o + k * 2) rfl _ _ HPC.out.range Tryz.underlying58 rfl (by exact size_part) ?_))
            go_returns
            exact ⟨by rw [Hbad.out (fun h => h4 h.2)]; rfl, HBw2.out⟩
        · have hd3 : ((q.1.length : Int) != 67) = true := by simp; omega
          have hd3 : ((q.1.length : Int) == 67) = false := by simp; omega
          skip
          have Kshw2 := hid (Kshwr.out.old (.cells #[.slice oa q.1.length oc, .slice aa q.2.length ac] 58 (0, 0)))
          have hlshw2 := Kshwr.out.lt
          have Kgw2 := hid (Kgwr.out.old (.cells #[.slice oa q.1.length oc, .slice aa q.2.length ac] 58 (0, 0)))
          have hlgw2 := Kgwr.out.lt
          have Kxw2 := hid (Blk.new (w := wr) rfl #[.slice oa q.1.length oc, .slice aa q.2.length ac] 58)
          have HBw2 := hid (HBwr.out.alloc HBwr.out.size (.cells #[.slice oa q.1.length oc, .slice aa q.2.length ac] 58 (0, 0)))
          have hsw2 := HBw2.out.size
          have hfw2 : w.heap.size ≤ wr.heap.size := HBwr.out.size
          have v1 : (wr.alloc (.cells #[.slice oa q.1.length oc, .slice aa q.2.length ac] 58 (0, 0))).cell? ⟨w.heap.size, 1, none⟩ = some (.int .i64 V) := by rw [Kshw2.out.cell]; rfl
          have hne : ¬ wr.heap.size = w.heap.size := by omega
          have hne2 : ¬ w.heap.size = wr.heap.size := by omega
          go_wp2_with (first
             | (refine wpList_index_s 2 (by first | rfl | go_simp) 30 _ _ rfl Tryz.underlying30 size_part x (o) (n) (c) rfl _ _ rfl k (by omega) (by omega) ?_)
             | (refine wpList_load_mid rfl 58 _ rfl x (o + k * 2) rfl _ _ HPC.out.range Tryz.underlying58 rfl (by exact size_part) ?_))
          go_returns
          exact ⟨by rw [Hbad.out (fun h => h3 h.1)]; rfl, HBw2.out⟩
      · obtain rfl : k = n := by omega
        have hc0 : ¬ ((k : Int) < k) := by omega
        have hl := hP.length
        go_wp2_with fail
        go_returns
        exact ⟨by rw [formB_good hrt (by omega) (by rw [HM.out]; omega) (by rw [hl]; exact H2.out) (fun j hj => Hall.out j (by omega))]; rfl, HBwr.out⟩
  · skip
    have hd2 : ((n : Int) != L) = true := by simp [h2]
    have hd2 : ((n : Int) == L) = false := by simp [h2]
    refine wp_region_flow 23 (List.range 23) [] [] (by kernel_rfl) (by kernel_rfl) ?_
    apply Exists.intro
    refine ⟨fun w0 hb0 hF0 => ?_, ?_⟩
    · skip
      have x0 : ∀ w', (∃ x : Ext w0, w' = x.at_) → ∃ T, Blk w' (w.heap.size) (shC L V) T := fun w' ⟨x, hx⟩ => ⟨_, hx ▸ (Ksh.out.below hb0).below x.same⟩
      have y0 : ∀ w', (∃ x : Ext w0, w' = x.at_) → w'.cell? ⟨w.heap.size + 1, 0, none⟩ = some (.int .i64 i) := fun w' ⟨x, hx⟩ => by rw [hx, ((Kg.out.below hb0).below x.same).cell]; rfl
      have y1 : ∀ w', (∃ x : Ext w0, w' = x.at_) → w'.cell? ⟨w.heap.size, 0, none⟩ = some (.int .i64 L) := fun w' ⟨x, hx⟩ => by rw [hx, ((Ksh.out.below hb0).below x.same).cell]; rfl
      have c0 := fun e : Ext w0 => hright_b L V true hrt e.at_
      have c1 := fun e : Ext w0 => CM.out e.at_
      have yp : ∀ w', (∃ x : Ext w0, w' = x.at_) → w'.cell? ⟨w.heap.size + 1, 33, none⟩ = some (.slice a n c) := fun w' ⟨x, hx⟩ => hx ▸ sigC_parts hr ((Kg.out.below hb0).below x.same)
      simp only [pick, List.range, List.range.loop, List.getElem?_toArray, List.getElem?_cons_succ, List.getElem?_cons_zero, Option.toList_some, List.cons_append, List.nil_append]
      repeat (first | (go_big_quiet_want; refine quiet_load_blk 23 _ rfl (w.heap.size) rfl _ x0 _ Tryz.underlying23 rfl 2 size_shape rfl ?_; go_big_quiet_on; simp only [Act.put, List.setIfInBounds_toArray, List.set_cons_zero, List.set_cons_succ]) | (go_big_quiet_want; refine quiet_load_one 3 _ rfl ⟨w.heap.size + 1, 0, none⟩ rfl _ y0 _ Tryz.underlying3 rfl ?_; go_big_quiet_on; simp only [Act.put, List.setIfInBounds_toArray, List.set_cons_zero, List.set_cons_succ]) | (go_big_quiet_want; refine quiet_load_one 3 _ rfl ⟨w.heap.size, 0, none⟩ rfl _ y1 _ Tryz.underlying3 rfl ?_; go_big_quiet_on; simp only [Act.put, List.setIfInBounds_toArray, List.set_cons_zero, List.set_cons_succ]) | (go_big_quiet_want; refine quiet_load_one 30 _ rfl ⟨w.heap.size + 1, 33, none⟩ rfl _ yp _ Tryz.underlying30 rfl ?_; go_big_quiet_on; simp only [Act.put, List.setIfInBounds_toArray, List.set_cons_zero, List.set_cons_succ]) | go_big_quiet_step (first | (go_at_call 96; with_reducible exact Calls.ext (c0 _)) | (go_at_call 97; with_reducible exact Calls.ext (c1 _))))
      exact wpQuiet_nil rfl
    refine AlChk.nil ?_
    refine Walk.fin fun w1 hw1 _ _ => ?_
    simp only [List.drop_succ_cons, List.drop_zero]
    have HBw1 := hid (Below.on Hb.out hw1)
    have hsw1 := HBw1.out.size
    have Kshw1 := hid (Ksh.out.below hw1)
    have Kgw1 := hid (Kg.out.below hw1)
    clear hw1
    go_wp2_with fail
    go_returns
    exact ⟨by rw [formB_len (by rw [hP.length]; exact h2)]; rfl, HBw1.out⟩
end Go.Proofs.YtkakoiaahgchmaaGreatDoor
namespace Go.Proofs.YtkakoiaahgchmaaGreatDoor
set_option maxRecDepth 100000
open Go.ChangeShapes Go.WideShapes Go.ChangeAt Go.RowKit
set_option maxHeartbeats 4000000 in
theorem refformed_right (L V i : Int) (r : List Int) (a : Option Addr) (n c : Nat) (ps : List Prt) (w : World) (hrt : rightS L V = true) (hr : Dg r) (hP : PartsAt w a n c ps) :
    Calls Tryz.prog 21 #[.agg (shC L V), .agg (sigC i r (.slice a n c)).toArray] w fun e w' => e = .returned (.bool (formB L V i ps)) ∧ Below w.heap.size w w' := by
  have hmx := hP.max
  have hle := hP.le
  have b1 := (Below.refl w.heap.size w).alloc (Nat.le_refl _) (.cells (shC L V) 23 (0, 0))
  have b2 := b1.alloc b1.size (.cells (sigC i r (.slice a n c)).toArray 32 (0, 0))
  have Ksh := hid ((Blk.new (w := w) (n := w.heap.size) rfl (shC L V) 23).old (.cells (sigC i r (.slice a n c)).toArray 32 (0, 0)))
  have Kg := hid (Blk.new (w := (w.alloc (.cells (shC L V) 23 (0, 0)))) (n := w.heap.size + 1) (by simp only [World.size_alloc]) (sigC i r (.slice a n c)).toArray 32)
  have Hb := hid b2
  have hbz := b2.size
  have Hbs := hid (show w.heap.size + 1 + 1 = ((w.alloc (.cells (shC L V) 23 (0, 0))).alloc (.cells (sigC i r (.slice a n c)).toArray 32 (0, 0))).heap.size by simp only [World.size_alloc])
  clear b1 b2 
  go_enter Tryz.func21, Tryz.ntmps21
  go_wp2_with fail
  have CM := hid (fun W : World => refmany_any L V W)
  obtain ⟨M, hM⟩ : ∃ M, manyS L V = M := ⟨_, rfl⟩
  have HM := hid hM
  rw [hM] at CM
  clear hM
  by_cases h0 : i < 0
  · skip
    have hd0 : decide (i < 0) = true := decide_eq_true h0
    refine wp_region_flow 18 (List.range 18) [] [] (by kernel_rfl) (by kernel_rfl) ?_
    apply Exists.intro
    refine ⟨fun w0 hb0 hF0 => ?_, ?_⟩
    · skip
      have x0 : ∀ w', (∃ x : Ext w0, w' = x.at_) → ∃ T, Blk w' (w.heap.size) (shC L V) T := fun w' ⟨x, hx⟩ => ⟨_, hx ▸ (Ksh.out.below hb0).below x.same⟩
      have y0 : ∀ w', (∃ x : Ext w0, w' = x.at_) → w'.cell? ⟨w.heap.size + 1, 0, none⟩ = some (.int .i64 i) := fun w' ⟨x, hx⟩ => by rw [hx, ((Kg.out.below hb0).below x.same).cell]; rfl
      have c0 := fun e : Ext w0 => CM.out e.at_
      simp only [pick, List.range, List.range.loop, List.getElem?_toArray, List.getElem?_cons_succ, List.getElem?_cons_zero, Option.toList_some, List.cons_append, List.nil_append]
      repeat (first | (go_big_quiet_want; refine quiet_load_blk 23 _ rfl (w.heap.size) rfl _ x0 _ Tryz.underlying23 rfl 2 size_shape rfl ?_; go_big_quiet_on; simp only [Act.put, List.setIfInBounds_toArray, List.set_cons_zero, List.set_cons_succ]) | (go_big_quiet_want; refine quiet_load_one 3 _ rfl ⟨w.heap.size + 1, 0, none⟩ rfl _ y0 _ Tryz.underlying3 rfl ?_; go_big_quiet_on; simp only [Act.put, List.setIfInBounds_toArray, List.set_cons_zero, List.set_cons_succ]) | go_big_quiet_step (first | (go_at_call 59; with_reducible exact Calls.ext (c0 _))))
      exact wpQuiet_nil rfl
    refine AlChk.nil ?_
    refine Walk.fin fun w1 hw1 _ _ => ?_
    simp only [List.drop_succ_cons, List.drop_zero]
    have HBw1 := hid (Below.on Hb.out hw1)
    have hsw1 := HBw1.out.size
    have Kshw1 := hid (Ksh.out.below hw1)
    have Kgw1 := hid (Kg.out.below hw1)
    clear hw1
    go_wp2_with fail
    go_returns
    exact ⟨by rw [formB_neg h0]; rfl, HBw1.out⟩
  have hd0 : decide (i < 0) = false := decide_eq_false h0
  by_cases h1 : i ≥ M
  · skip
    have hd1 : decide (i ≥ M) = true := decide_eq_true h1
    have hd1 : decide (M ≤ i) = true := decide_eq_true h1
    refine wp_region_flow 18 (List.range 18) [] [] (by kernel_rfl) (by kernel_rfl) ?_
    apply Exists.intro
    refine ⟨fun w0 hb0 hF0 => ?_, ?_⟩
    · skip
      have x0 : ∀ w', (∃ x : Ext w0, w' = x.at_) → ∃ T, Blk w' (w.heap.size) (shC L V) T := fun w' ⟨x, hx⟩ => ⟨_, hx ▸ (Ksh.out.below hb0).below x.same⟩
      have y0 : ∀ w', (∃ x : Ext w0, w' = x.at_) → w'.cell? ⟨w.heap.size + 1, 0, none⟩ = some (.int .i64 i) := fun w' ⟨x, hx⟩ => by rw [hx, ((Kg.out.below hb0).below x.same).cell]; rfl
      have c0 := fun e : Ext w0 => CM.out e.at_
      simp only [pick, List.range, List.range.loop, List.getElem?_toArray, List.getElem?_cons_succ, List.getElem?_cons_zero, Option.toList_some, List.cons_append, List.nil_append]
      repeat (first | (go_big_quiet_want; refine quiet_load_blk 23 _ rfl (w.heap.size) rfl _ x0 _ Tryz.underlying23 rfl 2 size_shape rfl ?_; go_big_quiet_on; simp only [Act.put, List.setIfInBounds_toArray, List.set_cons_zero, List.set_cons_succ]) | (go_big_quiet_want; refine quiet_load_one 3 _ rfl ⟨w.heap.size + 1, 0, none⟩ rfl _ y0 _ Tryz.underlying3 rfl ?_; go_big_quiet_on; simp only [Act.put, List.setIfInBounds_toArray, List.set_cons_zero, List.set_cons_succ]) | go_big_quiet_step (first | (go_at_call 59; with_reducible exact Calls.ext (c0 _))))
      exact wpQuiet_nil rfl
    refine AlChk.nil ?_
    refine Walk.fin fun w1 hw1 _ _ => ?_
    simp only [List.drop_succ_cons, List.drop_zero]
    have HBw1 := hid (Below.on Hb.out hw1)
    have hsw1 := HBw1.out.size
    have Kshw1 := hid (Ksh.out.below hw1)
    have Kgw1 := hid (Kg.out.below hw1)
    clear hw1
    go_wp2_with fail
    go_returns
    exact ⟨by rw [formB_many (by rw [HM.out]; exact h1)]; rfl, HBw1.out⟩
  have hd1 : decide (i ≥ M) = false := decide_eq_false h1
  have hd1 : decide (M ≤ i) = false := decide_eq_false h1
  by_cases h2 : (n : Int) = L
  · skip
    have hd2 : ((n : Int) != L) = false := by simp [h2]
    have hd2 : ((n : Int) == L) = true := by simp [h2]
    have H2 := hid h2
    clear h2
    refine wp_region_flow 18 (List.range 18) [] [] (by kernel_rfl) (by kernel_rfl) ?_
    apply Exists.intro
    refine ⟨fun w0 hb0 hF0 => ?_, ?_⟩
    · skip
      have x0 : ∀ w', (∃ x : Ext w0, w' = x.at_) → ∃ T, Blk w' (w.heap.size) (shC L V) T := fun w' ⟨x, hx⟩ => ⟨_, hx ▸ (Ksh.out.below hb0).below x.same⟩
      have y0 : ∀ w', (∃ x : Ext w0, w' = x.at_) → w'.cell? ⟨w.heap.size + 1, 0, none⟩ = some (.int .i64 i) := fun w' ⟨x, hx⟩ => by rw [hx, ((Kg.out.below hb0).below x.same).cell]; rfl
      have y1 : ∀ w', (∃ x : Ext w0, w' = x.at_) → w'.cell? ⟨w.heap.size, 0, none⟩ = some (.int .i64 L) := fun w' ⟨x, hx⟩ => by rw [hx, ((Ksh.out.below hb0).below x.same).cell]; rfl
      have c0 := fun e : Ext w0 => CM.out e.at_
      have yp : ∀ w', (∃ x : Ext w0, w' = x.at_) → w'.cell? ⟨w.heap.size + 1, 33, none⟩ = some (.slice a n c) := fun w' ⟨x, hx⟩ => hx ▸ sigC_parts hr ((Kg.out.below hb0).below x.same)
      simp only [pick, List.range, List.range.loop, List.getElem?_toArray, List.getElem?_cons_succ, List.getElem?_cons_zero, Option.toList_some, List.cons_append, List.nil_append]
      repeat (first | (go_big_quiet_want; refine quiet_load_blk 23 _ rfl (w.heap.size) rfl _ x0 _ Tryz.underlying23 rfl 2 size_shape rfl ?_; go_big_quiet_on; simp only [Act.put, List.setIfInBounds_toArray, List.set_cons_zero, List.set_cons_succ]) | (go_big_quiet_want; refine quiet_load_one 3 _ rfl ⟨w.heap.size + 1, 0, none⟩ rfl _ y0 _ Tryz.underlying3 rfl ?_; go_big_quiet_on; simp only [Act.put, List.setIfInBounds_toArray, List.set_cons_zero, List.set_cons_succ]) | (go_big_quiet_want; refine quiet_load_one 3 _ rfl ⟨w.heap.size, 0, none⟩ rfl _ y1 _ Tryz.underlying3 rfl ?_; go_big_quiet_on; simp only [Act.put, List.setIfInBounds_toArray, List.set_cons_zero, List.set_cons_succ]) | (go_big_quiet_want; refine quiet_load_one 30 _ rfl ⟨w.heap.size + 1, 33, none⟩ rfl _ yp _ Tryz.underlying30 rfl ?_; go_big_quiet_on; simp only [Act.put, List.setIfInBounds_toArray, List.set_cons_zero, List.set_cons_succ]) | go_big_quiet_step (first | (go_at_call 59; with_reducible exact Calls.ext (c0 _))))
      exact wpQuiet_nil rfl
    refine AlChk.nil ?_
    refine Walk.fin fun w1 hw1 _ _ => ?_
    simp only [List.drop_succ_cons, List.drop_zero]
    have HBw1 := hid (Below.on Hb.out hw1)
    have hsw1 := HBw1.out.size
    have Kshw1 := hid (Ksh.out.below hw1)
    have Kgw1 := hid (Kg.out.below hw1)
    clear hw1
    have g33 := sigC_parts hr Kgw1.out
    go_wp2_with fail
    go_loopw [5] (fun iv wr => ∃ k : Nat, k ≤ n ∧ iv = .int .i64 k ∧ Blk wr (w.heap.size) (shC L V) 23 ∧ Blk wr (w.heap.size + 1) (sigC i r (.slice a n c)).toArray 32 ∧ Below w.heap.size w wr ∧ ∀ j, j < k → (ps.getD j ([], [])).1.length = 67 ∧ ((ps.getD j ([], [])).2.length : Int) = V) (fun iv _ => n - (intOf iv).toNat)
    case atStart => exact ⟨0, Nat.zero_le _, rfl, Kshw1.out, Kgw1.out, HBw1.out, fun j hj => absurd hj (by omega)⟩
    case round =>
      obtain ⟨k, hk, rfl, ksh, kg, bel, hall⟩ := hrel
      have Kshwr := hid ksh
      have Kgwr := hid kg
      have HBwr := hid bel
      have hswr := bel.size
      have Hall := hid hall
      have g33 := sigC_parts hr kg
      have s1 : wr.cell? ⟨w.heap.size, 1, none⟩ = some (.int .i64 V) := by rw [ksh.cell]; rfl
      clear ksh kg bel hall
      by_cases hlt : k < n
      · have hc0 : (k : Int) < n := by omega
        obtain ⟨x, o, oa, oc, aa, ac, rfl, hpc⟩ := (hP.below HBwr.out).part hlt
        have HPC := hid hpc
        have p0 := hpc.c0
        have p1 := hpc.c1
        clear hpc
        have hkl : k < ps.length := by rw [hP.length]; exact hlt
        have Hbad := hid (formB_part (L := L) (V := V) (i := i) hkl)
        obtain ⟨q, hq⟩ : ∃ q, ps.getD k ([], []) = q := ⟨_, rfl⟩
        have Hq := hid hq
        rw [hq] at Hbad HPC p0 p1
        clear hq
        by_cases h3 : q.1.length = 67
        · have hd3 : ((q.1.length : Int) != 67) = false := by simp; omega
          have hd3 : ((q.1.length : Int) == 67) = true := by simp; omega
          have H3 := hid h3
          clear h3
          by_cases h4 : (q.2.length : Int) = V
          · skip
            have hd4 : ((q.2.length : Int) != V) = false := by simp [h4]
            have hd4 : ((q.2.length : Int) == V) = true := by simp [h4]
            have H4 := hid h4
            clear h4
            go_wp2_with fail
            refine wp_region_flow 20 (List.range 20) [] [] (by kernel_rfl) (by kernel_rfl) ?_
            apply Exists.intro
            refine ⟨fun w0 hb0 hF0 => ?_, ?_⟩
            · skip
              have y0 : ∀ w', (∃ x : Ext w0, w' = x.at_) → w'.cell? ⟨w.heap.size, 1, none⟩ = some (.int .i64 V) := fun w' ⟨x, hx⟩ => by rw [hx, ((Kshwr.out.below hb0).below x.same).cell]; rfl
              have yp : ∀ w', (∃ x : Ext w0, w' = x.at_) → w'.cell? ⟨w.heap.size + 1, 33, none⟩ = some (.slice (some ⟨x, o, none⟩) n c) := fun w' ⟨x, hx⟩ => hx ▸ sigC_parts hr ((Kgwr.out.below hb0).below x.same)
              have q0 : ∀ w', (∃ x : Ext w0, w' = x.at_) → w'.cell? ⟨x, o + k * 2, none⟩ = some (.slice oa q.1.length oc) := fun w' ⟨x, hx⟩ => hx ▸ ((HPC.out.below hb0).below x.same).c0
              have q1 : ∀ w', (∃ x : Ext w0, w' = x.at_) → w'.cell? ⟨x, o + k * 2 + 1, none⟩ = some (.slice aa q.2.length ac) := fun w' ⟨x, hx⟩ => hx ▸ ((HPC.out.below hb0).below x.same).c1
              simp only [pick, List.range, List.range.loop, List.getElem?_toArray, List.getElem?_cons_succ, List.getElem?_cons_zero, Option.toList_some, List.cons_append, List.nil_append]
              repeat (first | (go_big_quiet_want; refine quiet_load_one 3 _ rfl ⟨w.heap.size, 1, none⟩ rfl _ y0 _ Tryz.underlying3 rfl ?_; go_big_quiet_on; simp only [Act.put, List.setIfInBounds_toArray, List.set_cons_zero, List.set_cons_succ]) | (go_big_quiet_want; refine quiet_index_s 2 30 _ _ rfl Tryz.underlying30 size_part x o n c rfl _ _ rfl k (by omega) (by omega) ?_; go_big_quiet_on; simp only [Act.put, List.setIfInBounds_toArray, List.set_cons_zero, List.set_cons_succ]) | (go_big_quiet_want; refine quiet_load_one 30 _ rfl ⟨w.heap.size + 1, 33, none⟩ rfl _ yp _ Tryz.underlying30 rfl ?_; go_big_quiet_on; simp only [Act.put, List.setIfInBounds_toArray, List.set_cons_zero, List.set_cons_succ]) | (go_big_quiet_want; refine quiet_load_one 33 _ rfl ⟨x, o + k * 2, none⟩ rfl _ q0 _ Tryz.underlying33 rfl ?_; go_big_quiet_on; simp only [Act.put, List.setIfInBounds_toArray, List.set_cons_zero, List.set_cons_succ]) | (go_big_quiet_want; refine quiet_load_one 33 _ rfl ⟨x, o + k * 2 + 1, none⟩ rfl _ q1 _ Tryz.underlying33 rfl ?_; go_big_quiet_on; simp only [Act.put, List.setIfInBounds_toArray, List.set_cons_zero, List.set_cons_succ]) | go_big_quiet_step (fail))
              exact wpQuiet_nil rfl
            refine AlChk.nil ?_
            refine Walk.fin fun w2 hw2 _ _ => ?_
            simp only [List.drop_succ_cons, List.drop_zero]
            have HBw2 := hid (Below.on HBwr.out hw2)
            have hsw2 := HBw2.out.size
            have Kshw2 := hid (Kshwr.out.below hw2)
            have Kgw2 := hid (Kgwr.out.below hw2)
            clear hw2
            go_wp2_with fail
            exact ⟨⟨k + 1, by omega, by first | rfl | simp, Kshw2.out, Kgw2.out, HBw2.out, fun j hj => by
              by_cases hjk : j = k
              · subst hjk; rw [Hq.out]; exact ⟨H3.out, H4.out⟩
              · exact Hall.out j (by omega)⟩, by simp [intOf]; omega⟩
          · skip
            have hd4 : ((q.2.length : Int) != V) = true := by simp [h4]
            have hd4 : ((q.2.length : Int) == V) = false := by simp [h4]
            go_wp2_with fail
            refine wp_region_flow 20 (List.range 20) [] [] (by kernel_rfl) (by kernel_rfl) ?_
            apply Exists.intro
            refine ⟨fun w0 hb0 hF0 => ?_, ?_⟩
            · skip
              have y0 : ∀ w', (∃ x : Ext w0, w' = x.at_) → w'.cell? ⟨w.heap.size, 1, none⟩ = some (.int .i64 V) := fun w' ⟨x, hx⟩ => by rw [hx, ((Kshwr.out.below hb0).below x.same).cell]; rfl
              have yp : ∀ w', (∃ x : Ext w0, w' = x.at_) → w'.cell? ⟨w.heap.size + 1, 33, none⟩ = some (.slice (some ⟨x, o, none⟩) n c) := fun w' ⟨x, hx⟩ => hx ▸ sigC_parts hr ((Kgwr.out.below hb0).below x.same)
              have q0 : ∀ w', (∃ x : Ext w0, w' = x.at_) → w'.cell? ⟨x, o + k * 2, none⟩ = some (.slice oa q.1.length oc) := fun w' ⟨x, hx⟩ => hx ▸ ((HPC.out.below hb0).below x.same).c0
              have q1 : ∀ w', (∃ x : Ext w0, w' = x.at_) → w'.cell? ⟨x, o + k * 2 + 1, none⟩ = some (.slice aa q.2.length ac) := fun w' ⟨x, hx⟩ => hx ▸ ((HPC.out.below hb0).below x.same).c1
              simp only [pick, List.range, List.range.loop, List.getElem?_toArray, List.getElem?_cons_succ, List.getElem?_cons_zero, Option.toList_some, List.cons_append, List.nil_append]
              repeat (first | (go_big_quiet_want; refine quiet_load_one 3 _ rfl ⟨w.heap.size, 1, none⟩ rfl _ y0 _ Tryz.underlying3 rfl ?_; go_big_quiet_on; simp only [Act.put, List.setIfInBounds_toArray, List.set_cons_zero, List.set_cons_succ]) | (go_big_quiet_want; refine quiet_index_s 2 30 _ _ rfl Tryz.underlying30 size_part x o n c rfl _ _ rfl k (by omega) (by omega) ?_; go_big_quiet_on; simp only [Act.put, List.setIfInBounds_toArray, List.set_cons_zero, List.set_cons_succ]) | (go_big_quiet_want; refine quiet_load_one 30 _ rfl ⟨w.heap.size + 1, 33, none⟩ rfl _ yp _ Tryz.underlying30 rfl ?_; go_big_quiet_on; simp only [Act.put, List.setIfInBounds_toArray, List.set_cons_zero, List.set_cons_succ]) | (go_big_quiet_want; refine quiet_load_one 33 _ rfl ⟨x, o + k * 2, none⟩ rfl _ q0 _ Tryz.underlying33 rfl ?_; go_big_quiet_on; simp only [Act.put, List.setIfInBounds_toArray, List.set_cons_zero, List.set_cons_succ]) | (go_big_quiet_want; refine quiet_load_one 33 _ rfl ⟨x, o + k * 2 + 1, none⟩ rfl _ q1 _ Tryz.underlying33 rfl ?_; go_big_quiet_on; simp only [Act.put, List.setIfInBounds_toArray, List.set_cons_zero, List.set_cons_succ]) | go_big_quiet_step (fail))
              exact wpQuiet_nil rfl
            refine AlChk.nil ?_
            refine Walk.fin fun w2 hw2 _ _ => ?_
            simp only [List.drop_succ_cons, List.drop_zero]
            have HBw2 := hid (Below.on HBwr.out hw2)
            have hsw2 := HBw2.out.size
            have Kshw2 := hid (Kshwr.out.below hw2)
            have Kgw2 := hid (Kgwr.out.below hw2)
            clear hw2
            go_wp2_with fail
            go_returns
            exact ⟨by rw [Hbad.out (fun h => h4 h.2)]; rfl, HBw2.out⟩
        · have hd3 : ((q.1.length : Int) != 67) = true := by simp; omega
          have hd3 : ((q.1.length : Int) == 67) = false := by simp; omega
          skip
          go_wp2_with fail
          refine wp_region_flow 20 (List.range 20) [] [] (by kernel_rfl) (by kernel_rfl) ?_
          apply Exists.intro
          refine ⟨fun w0 hb0 hF0 => ?_, ?_⟩
          · skip
            have y0 : ∀ w', (∃ x : Ext w0, w' = x.at_) → w'.cell? ⟨w.heap.size, 1, none⟩ = some (.int .i64 V) := fun w' ⟨x, hx⟩ => by rw [hx, ((Kshwr.out.below hb0).below x.same).cell]; rfl
            have yp : ∀ w', (∃ x : Ext w0, w' = x.at_) → w'.cell? ⟨w.heap.size + 1, 33, none⟩ = some (.slice (some ⟨x, o, none⟩) n c) := fun w' ⟨x, hx⟩ => hx ▸ sigC_parts hr ((Kgwr.out.below hb0).below x.same)
            have q0 : ∀ w', (∃ x : Ext w0, w' = x.at_) → w'.cell? ⟨x, o + k * 2, none⟩ = some (.slice oa q.1.length oc) := fun w' ⟨x, hx⟩ => hx ▸ ((HPC.out.below hb0).below x.same).c0
            have q1 : ∀ w', (∃ x : Ext w0, w' = x.at_) → w'.cell? ⟨x, o + k * 2 + 1, none⟩ = some (.slice aa q.2.length ac) := fun w' ⟨x, hx⟩ => hx ▸ ((HPC.out.below hb0).below x.same).c1
            simp only [pick, List.range, List.range.loop, List.getElem?_toArray, List.getElem?_cons_succ, List.getElem?_cons_zero, Option.toList_some, List.cons_append, List.nil_append]
            repeat (first | (go_big_quiet_want; refine quiet_load_one 3 _ rfl ⟨w.heap.size, 1, none⟩ rfl _ y0 _ Tryz.underlying3 rfl ?_; go_big_quiet_on; simp only [Act.put, List.setIfInBounds_toArray, List.set_cons_zero, List.set_cons_succ]) | (go_big_quiet_want; refine quiet_index_s 2 30 _ _ rfl Tryz.underlying30 size_part x o n c rfl _ _ rfl k (by omega) (by omega) ?_; go_big_quiet_on; simp only [Act.put, List.setIfInBounds_toArray, List.set_cons_zero, List.set_cons_succ]) | (go_big_quiet_want; refine quiet_load_one 30 _ rfl ⟨w.heap.size + 1, 33, none⟩ rfl _ yp _ Tryz.underlying30 rfl ?_; go_big_quiet_on; simp only [Act.put, List.setIfInBounds_toArray, List.set_cons_zero, List.set_cons_succ]) | (go_big_quiet_want; refine quiet_load_one 33 _ rfl ⟨x, o + k * 2, none⟩ rfl _ q0 _ Tryz.underlying33 rfl ?_; go_big_quiet_on; simp only [Act.put, List.setIfInBounds_toArray, List.set_cons_zero, List.set_cons_succ]) | (go_big_quiet_want; refine quiet_load_one 33 _ rfl ⟨x, o + k * 2 + 1, none⟩ rfl _ q1 _ Tryz.underlying33 rfl ?_; go_big_quiet_on; simp only [Act.put, List.setIfInBounds_toArray, List.set_cons_zero, List.set_cons_succ]) | go_big_quiet_step (fail))
            exact wpQuiet_nil rfl
          refine AlChk.nil ?_
          refine Walk.fin fun w2 hw2 _ _ => ?_
          simp only [List.drop_succ_cons, List.drop_zero]
          have HBw2 := hid (Below.on HBwr.out hw2)
          have hsw2 := HBw2.out.size
          have Kshw2 := hid (Kshwr.out.below hw2)
          have Kgw2 := hid (Kgwr.out.below hw2)
          clear hw2
          go_wp2_with fail
          go_returns
          exact ⟨by rw [Hbad.out (fun h => h3 h.1)]; rfl, HBw2.out⟩
      · obtain rfl : k = n := by omega
        have hc0 : ¬ ((k : Int) < k) := by omega
        have hl := hP.length
        go_wp2_with fail
        go_returns
        exact ⟨by rw [formB_good hrt (by omega) (by rw [HM.out]; omega) (by rw [hl]; exact H2.out) (fun j hj => Hall.out j (by omega))]; rfl, HBwr.out⟩
  · skip
    have hd2 : ((n : Int) != L) = true := by simp [h2]
    have hd2 : ((n : Int) == L) = false := by simp [h2]
    refine wp_region_flow 18 (List.range 18) [] [] (by kernel_rfl) (by kernel_rfl) ?_
    apply Exists.intro
    refine ⟨fun w0 hb0 hF0 => ?_, ?_⟩
    · skip
      have x0 : ∀ w', (∃ x : Ext w0, w' = x.at_) → ∃ T, Blk w' (w.heap.size) (shC L V) T := fun w' ⟨x, hx⟩ => ⟨_, hx ▸ (Ksh.out.below hb0).below x.same⟩
      have y0 : ∀ w', (∃ x : Ext w0, w' = x.at_) → w'.cell? ⟨w.heap.size + 1, 0, none⟩ = some (.int .i64 i) := fun w' ⟨x, hx⟩ => by rw [hx, ((Kg.out.below hb0).below x.same).cell]; rfl
      have y1 : ∀ w', (∃ x : Ext w0, w' = x.at_) → w'.cell? ⟨w.heap.size, 0, none⟩ = some (.int .i64 L) := fun w' ⟨x, hx⟩ => by rw [hx, ((Ksh.out.below hb0).below x.same).cell]; rfl
      have c0 := fun e : Ext w0 => CM.out e.at_
      have yp : ∀ w', (∃ x : Ext w0, w' = x.at_) → w'.cell? ⟨w.heap.size + 1, 33, none⟩ = some (.slice a n c) := fun w' ⟨x, hx⟩ => hx ▸ sigC_parts hr ((Kg.out.below hb0).below x.same)
      simp only [pick, List.range, List.range.loop, List.getElem?_toArray, List.getElem?_cons_succ, List.getElem?_cons_zero, Option.toList_some, List.cons_append, List.nil_append]
      repeat (first | (go_big_quiet_want; refine quiet_load_blk 23 _ rfl (w.heap.size) rfl _ x0 _ Tryz.underlying23 rfl 2 size_shape rfl ?_; go_big_quiet_on; simp only [Act.put, List.setIfInBounds_toArray, List.set_cons_zero, List.set_cons_succ]) | (go_big_quiet_want; refine quiet_load_one 3 _ rfl ⟨w.heap.size + 1, 0, none⟩ rfl _ y0 _ Tryz.underlying3 rfl ?_; go_big_quiet_on; simp only [Act.put, List.setIfInBounds_toArray, List.set_cons_zero, List.set_cons_succ]) | (go_big_quiet_want; refine quiet_load_one 3 _ rfl ⟨w.heap.size, 0, none⟩ rfl _ y1 _ Tryz.underlying3 rfl ?_; go_big_quiet_on; simp only [Act.put, List.setIfInBounds_toArray, List.set_cons_zero, List.set_cons_succ]) | (go_big_quiet_want; refine quiet_load_one 30 _ rfl ⟨w.heap.size + 1, 33, none⟩ rfl _ yp _ Tryz.underlying30 rfl ?_; go_big_quiet_on; simp only [Act.put, List.setIfInBounds_toArray, List.set_cons_zero, List.set_cons_succ]) | go_big_quiet_step (first | (go_at_call 59; with_reducible exact Calls.ext (c0 _))))
      exact wpQuiet_nil rfl
    refine AlChk.nil ?_
    refine Walk.fin fun w1 hw1 _ _ => ?_
    simp only [List.drop_succ_cons, List.drop_zero]
    have HBw1 := hid (Below.on Hb.out hw1)
    have hsw1 := HBw1.out.size
    have Kshw1 := hid (Ksh.out.below hw1)
    have Kgw1 := hid (Kg.out.below hw1)
    clear hw1
    go_wp2_with fail
    go_returns
    exact ⟨by rw [formB_len (by rw [hP.length]; exact h2)]; rfl, HBw1.out⟩
end Go.Proofs.YtkakoiaahgchmaaGreatDoor
