/-
  WotsK, WotsLaws: one text.
-/
import Derived.Test.YtjkfbeillmeomaaGreatDoorSZPWots
import Derived.Test.YtjkfbeillmeomaaGreatDoorSZPLt
import Derived.Test.YtjkfbeillmeomaaGreatDoorSZNLate
namespace Go.Proofs.YtjkfbeillmeomaaGreatDoor
set_option maxRecDepth 100000
open Go.ChangeShapes Go.WideShapes Go.ChangeAt Go.RowKit
theorem public_v (seed pub ad : List Int) (hseed : Dg seed) (hpub : Dg pub) (had : Aw ad) (W : World) (tab : ShaTab W) : Calls Tryz.prog 76 #[(.agg (seed.map (Value.int .u8)).toArray), (.agg (pub.map (Value.int .u8)).toArray), (.agg (ad.map (Value.int .u32)).toArray)] W fun e w' => ∃ v, e = .returned v ∧ Below W.heap.size W w' ∧ RowV 67 (rowW (pubP seed pub ad)) v w' :=
  (public_any seed pub ad W hseed hpub had tab).mono fun _ _ ⟨_, _, h1, h2, h3⟩ => ⟨_, h1, h2, RowV.of_blk h3 (rowW_each (Dg.pubP seed pub ad)) 67 (rowW_length _) (by omega)⟩
/-- A row, and that there is no error. -/
def TupV (n : Nat) (ds : List (List Int)) (v : Value) (w : World) : Prop := ∃ a cap, v = .tuple #[.slice a n cap, .int .i64 0] ∧ DigsAt w a n cap ds
end Go.Proofs.YtjkfbeillmeomaaGreatDoor
namespace Go.Proofs.YtjkfbeillmeomaaGreatDoor
set_option maxRecDepth 100000
open Go.ChangeShapes Go.WideShapes Go.ChangeAt Go.RowKit
end Go.Proofs.YtjkfbeillmeomaaGreatDoor
