/-
  Recs, Tree, Stack, Stack2, Stack3, Add: one text.
-/
import Derived.Test.YtjkfbeillmeomaaDoorQPWots
import Derived.Test.YtjkfbeillmeomaaDoorQPLt
import Derived.Maps.AppendAt
import Derived.Test.YtjkfbeillmeomaaDoorQPWotsK
import Derived.Test.YtjkfbeillmeomaaDoorQPClimb
namespace Go.Proofs.YtjkfbeillmeomaaDoor
set_option maxRecDepth 100000
open Go.ChangeShapes Go.WideShapes Go.ChangeAt Go.RowKit
section
variable {P : Program} {ops : Array Oper} {rest : List Oper} {op : Oper} {a : Act} {w : World} {Q : Exit → Act → World → Prop} {t e : TypeId}
end
/-! Rows of structs. -/
end Go.Proofs.YtjkfbeillmeomaaDoor
namespace Go.Proofs.YtjkfbeillmeomaaDoor
set_option maxRecDepth 100000
open Go.ChangeShapes Go.WideShapes Go.ChangeAt Go.RowKit
/-- A secret's cells. -/
def secL (seed prf pub : List Int) : List Int := seed ++ (prf ++ pub)
def otsZ (la tr i : Int) : List Int := [la, tr / 4294967296, tr % 4294967296, 0, i, 0, 0, 0]
def ltrZ (la tr i : Int) : List Int := [la, tr / 4294967296, tr % 4294967296, 1, i, 0, 0, 0]
theorem Aw.ots {la tr i : Int} (hl : 0 ≤ la ∧ la < 4294967296) (ht : 0 ≤ tr ∧ tr < 18446744073709551616) (hi : 0 ≤ i ∧ i < 4294967296) : Aw (otsZ la tr i) := ⟨rfl, fun x hx => by
  simp only [otsZ, List.mem_cons, List.not_mem_nil, or_false] at hx
  omega⟩
theorem Aw.ltr {la tr i : Int} (hl : 0 ≤ la ∧ la < 4294967296) (ht : 0 ≤ tr ∧ tr < 18446744073709551616) (hi : 0 ≤ i ∧ i < 4294967296) : Aw (ltrZ la tr i) := ⟨rfl, fun x hx => by
  simp only [ltrZ, List.mem_cons, List.not_mem_nil, or_false] at hx
  omega⟩
@[irreducible] def leafZ (seed pub : List Int) (la tr i : Int) : List Int := compZ pub (ltrZ la tr i) 67 0 (rowW (pubP seed pub (otsZ la tr i)))
theorem ots_list (la tr i : Int) (w : World) (h0 : 0 ≤ tr) (h1 : tr < 18446744073709551616) :
    Calls Tryd.prog 93 #[.int .u32 la, .int .u64 tr, .int .u32 i] w fun e w' => e = .returned (.agg ((otsZ la tr i).map (Value.int .u32)).toArray) ∧ Below w.heap.size w w' := ots_any la tr i w h0 h1
theorem ltr_list (la tr i : Int) (w : World) (h0 : 0 ≤ tr) (h1 : tr < 18446744073709551616) :
    Calls Tryd.prog 94 #[.int .u32 la, .int .u64 tr, .int .u32 i] w fun e w' => e = .returned (.agg ((ltrZ la tr i).map (Value.int .u32)).toArray) ∧ Below w.heap.size w w' := ltree_any la tr i w h0 h1
set_option maxHeartbeats 4000000 in
theorem refbase_ots (la tr i : Int) (w : World) (h0 : 0 ≤ tr) (h1 : tr < 18446744073709551616) :
    Calls Tryd.prog 95 #[.int .u32 la, .int .u64 tr, .int .u32 0, .int .u32 i] w fun e w' => e = .returned (.agg ((otsZ la tr i).map (Value.int .u32)).toArray) ∧ Below w.heap.size w w' := by
  go_enter Tryd.func95, Tryd.ntmps95
  go_wp2
  go_returns
  exact ⟨rfl, by go_grown⟩
set_option maxHeartbeats 4000000 in
theorem refbase_ltr (la tr i : Int) (w : World) (h0 : 0 ≤ tr) (h1 : tr < 18446744073709551616) :
    Calls Tryd.prog 95 #[.int .u32 la, .int .u64 tr, .int .u32 1, .int .u32 i] w fun e w' => e = .returned (.agg ((ltrZ la tr i).map (Value.int .u32)).toArray) ∧ Below w.heap.size w w' := by
  go_enter Tryd.func95, Tryd.ntmps95
  go_wp2
  go_returns
  exact ⟨rfl, by go_grown⟩
end Go.Proofs.YtjkfbeillmeomaaDoor
namespace Go.Proofs.YtjkfbeillmeomaaDoor
set_option maxRecDepth 100000
open Go.ChangeShapes Go.WideShapes Go.ChangeAt Go.RowKit
structure Nod where
  d : List Int
  l : Nat
  q : Nat
def nodC (x : Nod) : List Value := x.d.map (Value.int .u8) ++ [.int .i64 x.l, .int .i64 x.q]
def nodZ : Array Value := (nodC ⟨zD, 0, 0⟩).toArray
def nodsC (l : List Nod) : List Value := (l.map nodC).flatten
end Go.Proofs.YtjkfbeillmeomaaDoor
namespace Go.Proofs.YtjkfbeillmeomaaDoor
set_option maxRecDepth 100000
open Go.ChangeShapes Go.WideShapes Go.ChangeAt Go.RowKit
end Go.Proofs.YtjkfbeillmeomaaDoor
namespace Go.Proofs.YtjkfbeillmeomaaDoor
set_option maxRecDepth 100000
open Go.ChangeShapes Go.WideShapes Go.ChangeAt Go.RowKit
/-- The number of the node beside a leaf's way, at a level. -/
def sibN (leaf l : Nat) : Nat := if leaf / 2 ^ l % 2 = 0 then leaf / 2 ^ l + 1 else leaf / 2 ^ l - 1
def pickM (leaf : Nat) (path : List (List Int)) (x : Nod) : List (List Int) := if x.l < path.length ∧ x.q = sibN leaf x.l then path.set x.l x.d else path
/-- A builder's cells. -/
def bldC (v : Value) (pub ad : List Int) (leaf : Nat) (pv : Value) : Array Value := (v :: (pub.map (Value.int .u8) ++ (ad.map (Value.int .u32) ++ [.int .i64 (leaf : Int), pv]))).toArray
end Go.Proofs.YtjkfbeillmeomaaDoor
namespace Go.Proofs.YtjkfbeillmeomaaDoor
set_option maxRecDepth 100000
open Go.ChangeShapes Go.WideShapes Go.ChangeAt Go.RowKit
def upN (pub ad : List Int) (t x : Nod) : Nod := ⟨joinZ t.d x.d pub (setAd ad x.l (t.q / 2 : Nat) 0), x.l + 1, t.q / 2⟩
/-- What adding a node that was looked at comes to: the stack, its last node first; the path. -/
def addR (pub ad : List Int) (leaf : Nat) : List Nod → List (List Int) → Nod → List Nod × List (List Int)
  | [], path, x => ([x], path)
  | t :: s, path, x => if t.l = x.l then addR pub ad leaf s (pickM leaf path (upN pub ad t x)) (upN pub ad t x) else (x :: t :: s, path)
structure BldAt (w : World) (base b pg n leaf : Nat) (pub ad : List Int) (v : Value) (stk : List Nod) (path : List (List Int)) : Prop where
  blk : Blk w b (bldC v pub ad leaf (.slice (some ⟨pg, 0, none⟩) n n)) 126
  row : w.ownsRow base 129 34 v stk.length (nodsC stk.reverse)
  pth : Blk w pg (dcs path) 23
  len : path.length = n
  each : ∀ d ∈ path, Dg d
  nods : ∀ y ∈ stk, Dg y.d ∧ y.q < 100000
  ne : b ≠ pg
  nb : ¬ v.ownBlock = some b
  np : ¬ v.ownBlock = some pg
section
variable {w w' : World} {base b pg n leaf : Nat} {pub ad : List Int} {v v' : Value} {stk s : List Nod} {path : List (List Int)} {x t : Nod}
end
end Go.Proofs.YtjkfbeillmeomaaDoor
