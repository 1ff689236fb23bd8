/-
  WotsK, WotsLaws: one text.
-/
import Derived.Test.YtjkfbeillmeomaaDoorRPWots
import Derived.Test.YtjkfbeillmeomaaDoorRPLt
import Derived.Test.YtjkfbeillmeomaaDoorRNLate
namespace Go.Proofs.YtjkfbeillmeomaaDoor
set_option maxRecDepth 100000
open Go.ChangeShapes Go.WideShapes Go.ChangeAt Go.RowKit
theorem public_v (seed pub ad : List Int) (hseed : Dg seed) (hpub : Dg pub) (had : Aw ad) (W : World) (tab : ShaTab W) : Calls Tryd.prog 20 #[(.agg (seed.map (Value.int .u8)).toArray), (.agg (pub.map (Value.int .u8)).toArray), (.agg (ad.map (Value.int .u32)).toArray)] W fun e w' => ∃ v, e = .returned v ∧ Below W.heap.size W w' ∧ RowV 67 (rowW (pubP seed pub ad)) v w' :=
  (public_any seed pub ad W hseed hpub had tab).mono fun _ _ ⟨_, _, h1, h2, h3⟩ => ⟨_, h1, h2, RowV.of_blk h3 (rowW_each (Dg.pubP seed pub ad)) 67 (rowW_length _) (by omega)⟩
/-- A row, and that there is no error. -/
def TupV (n : Nat) (ds : List (List Int)) (v : Value) (w : World) : Prop := ∃ a cap, v = .tuple #[.slice a n cap, .int .i64 0] ∧ DigsAt w a n cap ds
theorem TupV.below {n : Nat} {ds : List (List Int)} {v : Value} {w w' : World} (h : TupV n ds v w) (hb : Below w.heap.size w w') : TupV n ds v w' := by
  obtain ⟨a, c, h1, h2⟩ := h
  exact ⟨a, c, h1, h2.below hb⟩
theorem TupV.digs {n c : Nat} {a : Option Addr} {ds : List (List Int)} {w : World} (h : TupV n ds (.tuple #[.slice a n c, .int .i64 0]) w) : DigsAt w a n c ds := by
  obtain ⟨a', c', h1, h2⟩ := h
  simp only [Value.tuple.injEq, Array.mk.injEq, List.cons.injEq, Value.slice.injEq] at h1
  obtain ⟨⟨rfl, _, rfl⟩, _⟩ := h1
  exact h2
theorem from_v (ls : List (List Int)) (na : Option Addr) (nc : Nat) (m pub ad : List Int) (W : World) (hN : DigsAt W na 67 nc ls) (hm : Dg m) (hpub : Dg pub) (had : Aw ad) (tab : ShaTab W) :
    Calls Tryd.prog 25 #[.slice na 67 nc, (.agg (m.map (Value.int .u8)).toArray), (.agg (pub.map (Value.int .u8)).toArray), (.agg (ad.map (Value.int .u32)).toArray)] W fun e w' => ∃ v, e = .returned v ∧ Below W.heap.size W w' ∧ TupV 67 (rowW (fromP ls m pub ad)) v w' :=
  (from_good ls na nc m pub ad W hN hm hpub had tab).mono fun _ _ ⟨_, _, h1, h2, h3⟩ => ⟨_, h1, h2, _, _, rfl, DigsAt.of_blk h3 (rowW_each (Dg.fromP hN.each m pub ad)) (rowW_length _) (Nat.le_refl _) (by omega)⟩
end Go.Proofs.YtjkfbeillmeomaaDoor
namespace Go.Proofs.YtjkfbeillmeomaaDoor
set_option maxRecDepth 100000
open Go.ChangeShapes Go.WideShapes Go.ChangeAt Go.RowKit
theorem meets_row {m seed pub ad : List Int} (hm : Dg m) : rowW (fromP (rowW (sigP m seed pub ad)) m pub ad) = rowW (pubP seed pub ad) := by
  unfold rowW
  apply List.map_congr_left
  intro i hi
  have hi := List.mem_range.1 hi
  have h1 := dgN_le hm i
  unfold fromP
  rw [getZ (by rw [List.length_map, List.length_range]; exact hi)]
  rw [show (List.map (sigP m seed pub ad) (List.range 67)).getD i [] = sigP m seed pub ad i from rowW_get _ hi]
  unfold sigP pubP
  have h2 := runZ_add pub (setAd ad i 0 0) (partZ seed ad i) 0 (dgN m i) (15 - dgN m i)
  rw [Nat.zero_add, show dgN m i + (15 - dgN m i) = 15 by omega] at h2
  exact h2
end Go.Proofs.YtjkfbeillmeomaaDoor
