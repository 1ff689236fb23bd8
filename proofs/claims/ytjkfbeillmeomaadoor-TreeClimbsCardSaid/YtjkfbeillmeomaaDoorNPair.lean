/-
  Two variables are made of two others, in a region that draws its order ('left, right := x, y').
-/
import Derived.Test.YtjkfbeillmeomaaDoorNFlowB
import Derived.OrdersHeld
namespace Go.Proofs.YtjkfbeillmeomaaDoor
open Go.RowKit

section
variable {P : Program} {ops : Array Oper} {Q : Exit → Act → World → Prop}
theorem wpOp_val {i : Nat} {o : Oper} {K : Act → World → Prop} {a : Act} {w w' : World} {v : Value} (hi : ops[i]? = some o) (hg : o.guard = none) (hr : (execOp a.eval o).run P w = .ok (.value v) w') (h : K (a.put o.dst v) w') : wpOp P ops Q i K a w := by
  unfold wpOp
  simp only [hi]
  rw [if_pos (by unfold Region.wanted; rw [hg])]
  left
  unfold Oper.wp
  rw [hr, Oper.upon_value]
  exact h
theorem wpOp_skips {i : Nat} {o : Oper} {K : Act → World → Prop} {a : Act} {w w' : World} (hi : ops[i]? = some o) (hg : o.guard = none) (hd : o.dst = none) (hr : (execOp a.eval o).run P w = .ok .skip w') (h : K a w') : wpOp P ops Q i K a w := by
  unfold wpOp
  simp only [hi]
  rw [if_pos (by unfold Region.wanted; rw [hg])]
  left
  unfold Oper.wp
  rw [hr]
  show K (a.put o.dst undef) w'
  rw [hd]
  exact h
/-- What a load of a whole variable comes to. -/
theorem exec_load_blk {o : Oper} {A : Act} {w : World} (ty : TypeId) (x : Operand) (ho : o.op = .load ty x) (b : Nat) (hx : A.eval x = .pointer (some ⟨b, 0, none⟩)) (cs : Array Value) (T : TypeId) (hb : Blk w b cs T) (d : TypeDesc) (hu : P.underlying ty = some d) (hd : d.isRow = true) (n : Nat) (hi : (P.info? ty).map (·.size) = some n) (hs : cs.size = n) :
    (execOp A.eval o).run P w = .ok (.value (.agg cs)) w := by
  unfold execOp
  simp only [ho, hx, Instr.loadAt, Instr.sureAddr, Sem.run_bind, Sem.run_pure, Result.andThen_ok, run_loadVar_mid w b 0 ty cs.toList d hb.rangeAt hu hd (by rw [hi]; simp [hs])]
end

def pl (l : List Nat) : Array Bool := l.foldl (fun x i => x.setIfInBounds i true) (Array.replicate 6 false)
/-- Two loads, two variables, two stores; the second load may come up behind the first store. -/
def pairB (l : List Oper) : Bool :=
  Region.noSelect l.toArray && l.length == 6 && Region.free .any l.toArray (pl []) 0 && Region.free .any l.toArray (pl [0]) 1 &&
  (Region.ready .any l.toArray (pl [])).contains 0 && (Region.ready .any l.toArray (pl [0])).contains 1 && Region.ready .any l.toArray (pl [0, 1]) == [2, 3] &&
  Region.ready .any l.toArray (pl [0, 1, 2]) == [3] && Region.ready .any l.toArray (pl [0, 1, 3]) == [2] &&
  [[0, 1, 2, 3], [0, 1, 3, 2]].all fun m => Region.ready .any l.toArray (pl m) == [4] && Region.ready .any l.toArray (pl (m ++ [4])) == [5] && Region.ready .any l.toArray (pl (m ++ [4, 5])) == []

def pairF (a : Act) (o0 o1 o2 o3 : Oper) (X Y : Array Value) (b c : Nat) : Act :=
  (((a.put o0.dst (.agg X)).put o1.dst (.agg Y)).put o2.dst (.pointer (some ⟨b, 0, none⟩))).put o3.dst (.pointer (some ⟨c, 0, none⟩))

set_option maxRecDepth 100000 in
theorem wp_pair {P : Program} {id : Nat} {Q : Exit → Act → World → Prop} {a : Act} {w : World} {l : List Oper} (hm : P.follows .mixedOrders = true) (hB : pairB l = true) (hQ : ∀ c (a : Act) d v w, Q (.panic c) (a.put d v) w → Q (.panic c) a w)
    (o0 o1 o2 o3 o4 o5 : Oper) (h0 : l[0]? = some o0) (h1 : l[1]? = some o1) (h2 : l[2]? = some o2) (h3 : l[3]? = some o3) (h4 : l[4]? = some o4) (h5 : l[5]? = some o5) (ty : TypeId) (x y p4 q4 p5 q5 : Operand)
    (e0 : o0.op = .load ty x) (e1 : o1.op = .load ty y) (e4 : o4.op = .store ty p4 q4) (e5 : o5.op = .store ty p5 q5)
    (g0 : o0.guard = none) (g1 : o1.guard = none) (g2 : o2.guard = none) (g3 : o3.guard = none) (g4 : o4.guard = none) (g5 : o5.guard = none) (n4 : o4.dst = none) (n5 : o5.dst = none) (hne : ∀ d, o2.dst = some d → o3.dst ≠ some d)
    (bx bz : Nat) (X Y : Array Value) (hx : a.eval x = .pointer (some ⟨bx, 0, none⟩)) (hy : (a.put o0.dst (.agg X)).eval y = .pointer (some ⟨bz, 0, none⟩)) (T1 T2 : TypeId) (kx : Blk w bx X T1) (ky : Blk w bz Y T2)
    (d : TypeDesc) (hu : P.underlying ty = some d) (hd : d.isRow = true) (n : Nat) (hi : (P.info? ty).map (·.size) = some n) (sX : X.size = n) (sY : Y.size = n) (cX : X.all (·.oneCell') = true) (cY : Y.all (·.oneCell') = true)
    (Z : Array Value) (sZ : Z.size = n)
    (a2 : ∀ (A : Act) W, (execOp A.eval o2).run P W = .ok (.value (.pointer (some ⟨W.heap.size, 0, none⟩))) (W.alloc (.cells Z ty (0, 0))))
    (a3 : ∀ (A : Act) W, (execOp A.eval o3).run P W = .ok (.value (.pointer (some ⟨W.heap.size, 0, none⟩))) (W.alloc (.cells Z ty (0, 0))))
    (hev : ∀ b c, (pairF a o0 o1 o2 o3 X Y b c).eval p4 = .pointer (some ⟨b, 0, none⟩) ∧ (pairF a o0 o1 o2 o3 X Y b c).eval q4 = .agg X ∧ (pairF a o0 o1 o2 o3 X Y b c).eval p5 = .pointer (some ⟨c, 0, none⟩) ∧ (pairF a o0 o1 o2 o3 X Y b c).eval q5 = .agg Y)
    (hfin : ∀ b c w', Below w.heap.size w w' → w.heap.size ≤ b → w.heap.size ≤ c → b ≠ c → Blk w' b X ty → Blk w' c Y ty → wpList P l.toArray Q [] (pairF a o0 o1 o2 o3 X Y b c) w') : (Code.region id l.toArray true).wp P Q a w := by
  unfold pairB at hB
  simp only [Bool.and_eq_true, beq_iff_eq, List.all_cons, List.all_nil, Bool.and_true] at hB
  obtain ⟨⟨⟨⟨⟨⟨⟨⟨⟨hs, hl⟩, f0⟩, f1⟩, r0⟩, r1⟩, r01⟩, r012⟩, r013⟩, ⟨⟨rA, rA4⟩, rA5⟩, ⟨rB, rB4⟩, rB5⟩ := hB
  have size6 : l.toArray.size = 6 := by simpa using hl
  refine wp_region_held (S := fun W => Below w.heap.size w W) hm ?_
  rw [size6]
  have h0' : l.toArray[0]? = some o0 := by simpa using h0
  have h1' : l.toArray[1]? = some o1 := by simpa using h1
  have h2' : l.toArray[2]? = some o2 := by simpa using h2
  have h3' : l.toArray[3]? = some o3 := by simpa using h3
  have h4' : l.toArray[4]? = some o4 := by simpa using h4
  have h5' : l.toArray[5]? = some o5 := by simpa using h5
  have hw : ∀ (o : Oper) (A : Act), o.guard = none → Region.wanted o (yielded l.toArray A.tmps) = true := fun o A hg => by unfold Region.wanted; rw [hg]
  have tail : ∀ L b c W, Region.ready .any l.toArray L = [4] → Region.ready .any l.toArray (L.setIfInBounds 4 true) = [5] → Region.ready .any l.toArray ((L.setIfInBounds 4 true).setIfInBounds 5 true) = [] → Below w.heap.size w W → w.heap.size ≤ b → w.heap.size ≤ c → b ≠ c → Blk W b Z ty → Blk W c Z ty →
      wpAnyH P .any l.toArray Q (fun W => Below w.heap.size w W) 2 L (pairF a o0 o1 o2 o3 X Y b c) W := by
    intro L b c W q4' q5' q6' hW hb hc hbc kb kc
    obtain ⟨v1, v2, v3, v4⟩ := hev b c
    refine wpAnyH_all (rs := [4]) q4' (by simp) ?_
    intro i hi'
    obtain rfl : i = 4 := by simpa using hi'
    obtain ⟨w1, s1, s2, s3⟩ := FlowB.exec_store_blk ty p4 q4 e4 b X v1 v2 Z ty kb n hi sZ sX cX
    have hW1 := s2.below hW hW.size hb
    have kc1 := s2.blk kc (Ne.symm hbc)
    refine wpOp_skips h4' g4 n4 s1 ⟨hW1, ?_⟩
    refine wpAnyH_all (rs := [5]) q5' (by simp) ?_
    intro i hi'
    obtain rfl : i = 5 := by simpa using hi'
    obtain ⟨w2, s4, s5, s6⟩ := FlowB.exec_store_blk ty p5 q5 e5 c Y v3 v4 Z ty kc1 n hi sZ sY cY
    have hW2 := s5.below hW1 hW1.size hc
    refine wpOp_skips h5' g5 n5 s4 ⟨hW2, ?_⟩
    exact wpAnyH_done q6' (hfin b c w2 hW2 hb hc hbc (s5.blk s3 hbc) s6) _
  have hS0 : Below w.heap.size w w.drew := (Below.refl _ _).drew
  refine wpAnyH_take (i := 0) (oi := o0) (v := .agg X) h0' hs f0 r0 (fun c a w h => hQ c a _ _ w h) (.inl ⟨hw _ _ g0, fun W hW => exec_load_blk ty x e0 bx hx X T1 (kx.below hW) d hu hd n hi sX⟩) hS0 ?_
  refine wpAnyH_take (i := 1) (oi := o1) (v := .agg Y) h1' hs f1 r1 (fun c a w h => hQ c a _ _ w h) (.inl ⟨hw _ _ g1, fun W hW => exec_load_blk ty y e1 bz hy Y T2 (ky.below hW) d hu hd n hi sY⟩) hS0 ?_
  refine wpAnyH_all (rs := [2, 3]) r01 (by simp) ?_
  intro i hi'
  have hdr : w.drew.heap.size = w.heap.size := rfl
  have b1 : Below w.heap.size w (w.drew.alloc (.cells Z ty (0, 0))) := hS0.alloc hS0.size _
  have b2 : Below w.heap.size w ((w.drew.alloc (.cells Z ty (0, 0))).alloc (.cells Z ty (0, 0))) := b1.alloc b1.size _
  have k1 : Blk ((w.drew.alloc (.cells Z ty (0, 0))).alloc (.cells Z ty (0, 0))) w.heap.size Z ty := (Blk.new rfl Z ty).old _
  have k2 : Blk ((w.drew.alloc (.cells Z ty (0, 0))).alloc (.cells Z ty (0, 0))) (w.drew.alloc (.cells Z ty (0, 0))).heap.size Z ty := Blk.new rfl Z ty
  have hsz : (w.drew.alloc (.cells Z ty (0, 0))).heap.size = w.heap.size + 1 := by rw [World.size_alloc, hdr]
  have hi'' : i = 2 ∨ i = 3 := by simpa using hi'
  rcases hi'' with rfl | rfl
  · refine wpOp_val h2' g2 (a2 _ _) ⟨b1, ?_⟩
    refine wpAnyH_all (rs := [3]) r012 (by simp) ?_
    intro i hi'
    obtain rfl : i = 3 := by simpa using hi'
    refine wpOp_val h3' g3 (a3 _ _) ⟨b2, ?_⟩
    exact tail _ w.heap.size (w.drew.alloc (.cells Z ty (0, 0))).heap.size _ rA rA4 rA5 b2 (Nat.le_refl _) (by omega) (by omega) k1 k2
  · refine wpOp_val h3' g3 (a3 _ _) ⟨b1, ?_⟩
    refine wpAnyH_all (rs := [2]) r013 (by simp) ?_
    intro i hi'
    obtain rfl : i = 2 := by simpa using hi'
    refine wpOp_val h2' g2 (a2 _ _) ⟨b2, ?_⟩
    have := tail _ (w.drew.alloc (.cells Z ty (0, 0))).heap.size w.heap.size _ rB rB4 rB5 b2 (by omega) (Nat.le_refl _) (by omega) k2 k1
    unfold pairF at this
    rw [Act.put_comm _ _ _ hne] at this
    exact this
end Go.Proofs.YtjkfbeillmeomaaDoor
