/-
  Put together, as far as wanted: ELMBase ELMDig ELNDigs ELPLt ELLogM ELLogN EPrJ ExH ExI ExS ExT ExU.
-/
import Derived.Test.YtkakoiaahgchmaaDoorPF1
import Derived.Deep.Quiet
import Derived.StillTail
import Derived.Below
import Derived.WalkKit
import Derived.ProofKit
import Derived.OpenShut
import Derived.WalkSpells
import Derived.WalkLawsBesides
import Derived.Handy
import Derived.Outline
import Derived.Deep.QuietTactic
import Derived.BigQuiet
import Derived.ChangeKeysEq
import Derived.Deep.MidRow
import Derived.Laws.BytesArg
import Derived.Deep.Slices
import Derived.ChangeSame
import Derived.Deep.Matrix
import Derived.OwnWalk
import Derived.Maps.AppendAt
import Derived.Lib.AppendZerosOnto
import Derived.Laws.BitsAllLaws
import Derived.Laws.CopyOwn
import Derived.Lib.SliceRun
import Derived.Lib.Bytes
import Derived.Lib.SlBytesConst
import Derived.HandedShaped
import Derived.Carry
import Derived.LaidMore
import Derived.Stop.Joined
import Derived.SevenTiedAt
import Derived.Lib.LaidTab
import Derived.Stop.LaidErr
import Derived.Lib.Tables
import Derived.RangeFuncFrom
import Derived.RangeFuncNested
import Derived.RangeFuncBound
import Derived.RangeFuncCalls
import Derived.RangeFuncLeaves
import Derived.Shelf.Abstract
import Derived.Shelf.RegionOpen
import Derived.OwnWalkIn
import Derived.TacticsInMore
import Derived.LoopNIn
import Derived.LoopIn
import Derived.DeepKeys4
import Derived.WideKeyEntry
import Derived.Deep.SlicePairs
import Derived.Lib.BitFns
import Derived.Shelf.SlicesE.Reverse
import Derived.OrdersHeld
namespace Go.Proofs.YtkakoiaahgchmaaDoor
set_option maxRecDepth 100000
open Go.RowKit
section
variable {P : Program} {ops : Array Oper} {md : Region.Mode}
end
end Go.Proofs.YtkakoiaahgchmaaDoor
namespace Go.Proofs.YtkakoiaahgchmaaDoor
set_option maxRecDepth 100000
open Go.ChangeShapes Go.WideShapes Go.ChangeAt Go.RowKit
end Go.Proofs.YtkakoiaahgchmaaDoor
namespace Go.Proofs.YtkakoiaahgchmaaDoor
set_option maxRecDepth 100000
open Go.RowKit
section
variable {P : Program} {t e : TypeId} {n : Nat} {k : IntKind} {i : TypeInfo}
/-- '!=' of two arrays of integers. -/
theorem run_neq_ints (hu : P.underlying t = some (.array n e)) (he : P.underlying e = some (.int k)) (hi : P.info? e = some i) (hc : P.cellsOf e = 1) (xs ys : List Int) (hx : xs.length = n) (hy : ys.length = n) (w : World) :
    (binOp .neq t (ints k xs) (ints k ys)).run P w = .ok (.bool (!decide (xs = ys))) w := by
  have h := run_eql_ints (t := t) hu he hi hc xs ys hx hy w
  unfold ints at *
  rw [run_eql_struct] at h
  rw [run_neq_struct]
  generalize (Op.equalIn 10000 t (.agg (xs.map (Value.int k)).toArray) (.agg (ys.map (Value.int k)).toArray)).run P w = r at *
  cases r with
  | ok b w' => simp at h ⊢; obtain ⟨rfl, rfl⟩ := h; simp
  | halt x w' => simp [Result.andThen] at h
end
end Go.Proofs.YtkakoiaahgchmaaDoor
namespace Go.Proofs.YtkakoiaahgchmaaDoor
set_option maxRecDepth 100000
open Go.RowKit
section
variable {P : Program} {ops : Array Oper} {rest : List Oper} {op : Oper} {a : Act} {w : World} {Q : Exit → Act → World → Prop}
end
end Go.Proofs.YtkakoiaahgchmaaDoor
namespace Go.Proofs.YtkakoiaahgchmaaDoor
set_option maxRecDepth 100000
open Go.RowKit
end Go.Proofs.YtkakoiaahgchmaaDoor
namespace Go.Proofs.YtkakoiaahgchmaaDoor
set_option maxRecDepth 100000
open Go.ChangeShapes Go.WideShapes Go.ChangeAt Go.RowKit
end Go.Proofs.YtkakoiaahgchmaaDoor
namespace Go.Proofs.YtkakoiaahgchmaaDoor
set_option maxRecDepth 100000
open Go.ChangeShapes Go.WideShapes Go.ChangeAt Go.RowKit
theorem neD (xs ys : List Int) (hx : xs.length = 32) (hy : ys.length = 32) (w : World) : (binOp .neq 23 (.agg (xs.map (Value.int .u8)).toArray) (.agg (ys.map (Value.int .u8)).toArray)).run Tryd.prog w = .ok (.bool (!decide (xs = ys))) w :=
  run_neq_ints (P := Tryd.prog) (t := 23) (e := 5) Tryd.underlying23 Tryd.underlying5 rfl (by kernel_rfl) xs ys hx hy w
end Go.Proofs.YtkakoiaahgchmaaDoor
namespace Go.Proofs.YtkakoiaahgchmaaDoor
set_option maxRecDepth 100000
open Go.ChangeShapes Go.WideShapes Go.ChangeAt Go.RowKit
section
variable {P : Program} {w : World} {base : Nat} {t e : TypeId} {i : TypeInfo} {v : Value} {ts us : List (List Int)}
end
end Go.Proofs.YtkakoiaahgchmaaDoor
namespace Go.Proofs.YtkakoiaahgchmaaDoor
set_option maxRecDepth 100000
open Go.ChangeShapes Go.WideShapes Go.ChangeAt Go.RowKit
section
variable {P : Program} {w : World} {base : Nat} {t e : TypeId} {i : TypeInfo} {v : Value} {ts us : List (List Int)}
end
end Go.Proofs.YtkakoiaahgchmaaDoor
namespace Go.Proofs.YtkakoiaahgchmaaDoor
set_option maxRecDepth 100000
open Go.ChangeShapes Go.WideShapes Go.ChangeAt Go.RowKit
end Go.Proofs.YtkakoiaahgchmaaDoor
namespace Go.Proofs.YtkakoiaahgchmaaDoor
set_option maxRecDepth 100000
open Go.ChangeShapes Go.WideShapes Go.ChangeAt Go.RowKit
section
variable {P : Program} {w : World} {base : Nat} {t e : TypeId} {i : TypeInfo} {v z : Value} {ds : List (List Int)}
end
section
variable {P : Program} {ops : Array Oper} {rest : List Oper} {op : Oper} {a : Act} {w : World} {Q : Exit → Act → World → Prop} {t e : TypeId}
theorem quiet_index_digs {C : World → Prop} {K : Act → Prop} (ty : TypeId) (x ix : Operand) (ho : op.op = .indexAddr ty x ix) (ht : P.underlying ty = some (.slice e)) (hs : (P.info? e).map (·.size) = some 32) (b o len cap : Nat) (hx : a.eval x = .slice (some ⟨b, o, none⟩) len cap)
    (k : IntKind) (i : Int) (hix : a.eval ix = .int k i) (j : Nat) (hi : i = j) (hj : j < len) (h : K (a.put op.dst (.pointer (some ⟨b, o + j * 32, none⟩)))) : op.quiet P a C K :=
  ⟨.pointer (some ⟨b, o + j * 32, none⟩), fun w' hw' => by
    unfold Oper.quietAt execOp
    simp only [ho, hx, hix, Sem.run_bind, Sem.run_pure, Result.andThen_ok, run_indexAt_digs ht hs b o len cap k i j hi hj]
    simp [Oper.quietUpon], h⟩
theorem quiet_load_mid {C : World → Prop} {K : Act → Prop} (ty : TypeId) (x : Operand) (ho : op.op = .load ty x) (b o : Nat) (hx : a.eval x = .pointer (some ⟨b, o, none⟩)) (cs : List Value)
    (hk : ∀ w', C w' → w'.rangeAt b o cs) (d : TypeDesc) (hu : P.underlying ty = some d) (hd : d.isRow = true) (hi : (P.info? ty).map (·.size) = some cs.length)
    (h : K (a.put op.dst (.agg cs.toArray))) : op.quiet P a C K :=
  ⟨.agg cs.toArray, fun w' hw' => by
    unfold Oper.quietAt execOp
    simp only [ho, hx, Instr.loadAt, Instr.sureAddr, Sem.run_bind, Sem.run_pure, Result.andThen_ok, run_loadVar_mid w' b o ty cs d (hk w' hw') hu hd hi]
    simp [Oper.quietUpon], h⟩
end
end Go.Proofs.YtkakoiaahgchmaaDoor
namespace Go.Proofs.YtkakoiaahgchmaaDoor
set_option maxRecDepth 100000
open Go.ChangeShapes Go.WideShapes Go.ChangeAt Go.RowKit
theorem results_blk2 {P : Program} {w : World} {fn : Func} {p q : Tmp} {ty : TypeId} (h : fn.results = #[.cell p ty, .cell q ty]) (tmps : Array Value) (b c : Nat) (hp : tmps.getD p undef = .pointer (some ⟨b, 0, none⟩)) (hq : tmps.getD q undef = .pointer (some ⟨c, 0, none⟩)) (cs ds : Array Value) (T : TypeId) (hk : Blk w b cs T) (hk2 : Blk w c ds T)
    (d : TypeDesc) (hu : P.underlying ty = some d) (hd : d.isRow = true) (n : Nat) (hi : (P.info? ty).map (·.size) = some n) (hs : cs.size = n) (hs2 : ds.size = n) : (results fn tmps).run P w = .ok (.tuple #[.agg cs, .agg ds]) w := by
  have hp' : tmps[p]?.getD undef = .pointer (some ⟨b, 0, none⟩) := by simpa using hp
  have hq' : tmps[q]?.getD undef = .pointer (some ⟨c, 0, none⟩) := by simpa using hq
  have hl := run_loadVar_row (P := P) w b T ty cs (0, 0) d hk hu (by cases d <;> simp_all) (by rw [hi, hs])
  have hl2 := run_loadVar_row (P := P) w c T ty ds (0, 0) d hk2 hu (by cases d <;> simp_all) (by rw [hi, hs2])
  simp [results, h, hp', hq', asAddr, hl, hl2]
namespace FlowB
end FlowB
end Go.Proofs.YtkakoiaahgchmaaDoor
namespace Go.Proofs.YtkakoiaahgchmaaDoor
set_option maxRecDepth 100000
open Go.ChangeShapes Go.WideShapes Go.ChangeAt Go.RowKit
theorem DigsAt.cut {w : World} {a : Option Addr} {len cap : Nat} {ds : List (List Int)} (h : DigsAt w a len cap ds) (l hi : Nat) (hl : l ≤ hi) (hh : hi ≤ len) : DigsAt w (cutD a l cap) (hi - l) (cap - l) ((ds.drop l).take (hi - l)) := by
  obtain ⟨h1, h2, h3, h4, h5⟩ := h
  refine ⟨by simp; omega, by omega, by omega, fun x hx => h4 x (List.mem_of_mem_drop (List.mem_of_mem_take hx)), ?_⟩
  unfold cutD
  rcases h5 with ⟨rfl, rfl, rfl⟩ | ⟨x, o, s, rfl, hc⟩
  · left
    refine ⟨by split <;> rfl, by omega, by omega⟩
  · right
    split
    · exact ⟨x, o, s, rfl, fun j hj => by omega⟩
    · rcases Nat.eq_or_lt_of_le hl with rfl | hlt
      · rcases s with _ | s
        · exact ⟨x, o + l * 32, none, by rw [Option.map_some, Addr.add_mid], fun j hj => by omega⟩
        · cases ha : (⟨x, o, some s⟩ : Addr).add (l * 32) with
          | mk x' o' s' => exact ⟨x', o', s', by simp [ha], fun j hj => by omega⟩
      · obtain ⟨rfl, hx, _⟩ := hc l (by omega)
        refine ⟨x, o + l * 32, none, by rw [Option.map_some, Addr.add_mid], fun j hj => ⟨rfl, hx, ?_⟩⟩
        rw [show o + l * 32 + j * 32 = o + (l + j) * 32 by omega]
        have := (hc (l + j) (by omega)).2.2
        rw [show ((ds.drop l).take (hi - l)).getD j [] = ds.getD (l + j) [] by simp [List.getD_eq_getElem?_getD, show j < hi - l by omega]]
        exact this
section
variable {P : Program} {t e : TypeId}
theorem run_cutd_l (ht : P.underlying t = some (.slice e)) (hs : (P.info? e).map (·.size) = some 32) (a : Option Addr) (len cap : Nat) (l : Int) (w : World) (h0 : 0 ≤ l) (h1 : l ≤ len) :
    (Instr.slice t (.slice a len cap) (some (.int .i64 l)) none none).run P w = .ok (.slice (cutD a l.toNat cap) (len - l.toNat) (cap - l.toNat)) w := by
  have he : P.elem t = e := by simp [Program.elem, ht]
  rw [run_slice_l (w := w) t a len cap (by rw [he]; exact ht) _ l h0 h1]
  obtain ⟨i, hi1, hi2⟩ := Option.map_eq_some_iff.1 hs
  simp [sizeOf, typeInfo, he, hi1, hi2, sliced, cutD]
end
end Go.Proofs.YtkakoiaahgchmaaDoor
namespace Go.Proofs.YtkakoiaahgchmaaDoor
set_option maxRecDepth 100000
open Go.ChangeShapes Go.WideShapes Go.ChangeAt Go.RowKit
end Go.Proofs.YtkakoiaahgchmaaDoor
namespace Go.Proofs.YtkakoiaahgchmaaDoor
set_option maxRecDepth 100000
open Go.ChangeShapes Go.WideShapes Go.ChangeAt Go.RowKit
end Go.Proofs.YtkakoiaahgchmaaDoor
namespace Go.Proofs.YtkakoiaahgchmaaDoor
set_option maxRecDepth 100000
open Go.ChangeShapes Go.WideShapes Go.ChangeAt Go.RowKit
end Go.Proofs.YtkakoiaahgchmaaDoor
namespace Go.Proofs.YtkakoiaahgchmaaDoor
set_option maxRecDepth 100000
open Go.ChangeShapes Go.WideShapes Go.ChangeAt Go.RowKit
section
variable {P : Program}
end
end Go.Proofs.YtkakoiaahgchmaaDoor
namespace Go.Proofs.YtkakoiaahgchmaaDoor
set_option maxRecDepth 100000
open Go.ChangeShapes Go.WideShapes Go.ChangeAt Go.RowKit
namespace FlowB
end FlowB
end Go.Proofs.YtkakoiaahgchmaaDoor
namespace Go.Proofs.YtkakoiaahgchmaaDoor
set_option maxRecDepth 100000
open Go.ChangeShapes Go.WideShapes Go.ChangeAt Go.RowKit
end Go.Proofs.YtkakoiaahgchmaaDoor
namespace Go.Proofs.YtkakoiaahgchmaaDoor
set_option maxRecDepth 100000
open Go.ChangeShapes Go.WideShapes Go.ChangeAt Go.RowKit
theorem GEnv.but {w w' : World} {ba bt bs bl bw : Nat} {A : List Int} {ya : Option Addr} {yn yc : Nat} {ds : List (List Int)} {left : Int} (h : GEnv w ba bt bs bl bw A ya yn yc ds) (kl : Blk w bl #[.int .i64 left] 3) (hb : But bl w w') : GEnv w' ba bt bs bl bw A ya yn yc ds := by
  obtain ⟨kb, kt, ka, kw, hw, tab, nb, nt, na, nw⟩ := h
  refine ⟨hb.blk kb nb, hb.blk kt nt, hb.blk ka na, hb.blk kw nw, ?_, ?_, nb, nt, na, nw⟩
  · obtain ⟨h1, h2, h3, h4, h5 | ⟨x, o, s, rfl, hc⟩⟩ := hw
    · exact ⟨h1, h2, h3, h4, .inl h5⟩
    · refine ⟨h1, h2, h3, h4, .inr ⟨x, o, s, rfl, fun j hj => ?_⟩⟩
      obtain ⟨q0, q1, q2⟩ := hc j hj
      have hd := Dg.getD h4 (j := j) (by omega)
      have hne : x ≠ bl := blk_not kl (q2 0 (.int .u8 ((ds.getD j []).getD 0 0)) hd.head) (fun n e => by cases e)
      exact ⟨q0, Nat.lt_of_lt_of_le q1 hb.size, fun k v hv => (hb.cell q1 hne).trans (q2 k v hv)⟩
  · exact tab.but hb (fun e => blk_not kl (tab.keys 0 (by omega)) (fun n e => by cases e) e.symm) (fun e => blk_not kl tab.start.1 (fun n e => by cases e) e.symm)
theorem But.freshIn {b : Nat} {S : List Nat} {w w' w'' : World} (h : But b w w') (h2 : FlowB.ButIn S w' w'') (hS : ∀ x ∈ S, w.heap.size ≤ x) : But b w w'' :=
  ⟨h2.os.trans h.os, h2.tape.trans h.tape, h2.output.trans h.output, Nat.le_trans h.size h2.size, fun k hk hne => (h2.block k (Nat.lt_of_lt_of_le hk h.size) (fun e => by have := hS k e; omega)).trans (h.block k hk hne)⟩
set_option maxHeartbeats 4000000 in
theorem gtake_any {w : World} {ba bt bs bl bw : Nat} {A : List Int} {ya : Option Addr} {yn yc : Nat} {ds : List (List Int)} {left : Int} (h : GEnv w ba bt bs bl bw A ya yn yc ds) (kl : Blk w bl #[.int .i64 left] 3) (hlo : -1000 ≤ left) (hhi : left ≤ yn) (hyn : yn ≤ 1000000) :
    Calls Tryd.prog 75 #[.pointer (some ⟨bl, 0, none⟩), .pointer (some ⟨bw, 0, none⟩)] w fun e w' => e = .returned (.agg ((takeZ ds left).map (Value.int .u8)).toArray) ∧ But bl w w' ∧ Blk w' bl #[.int .i64 (left - 1)] 3 := by
  unfold takeZ
  by_cases h0 : left - 1 < 0
  · rw [if_pos h0]
    exact take_none bl bw left ya yn yc w h.nw.symm kl h.kw hlo h0
  · rw [if_neg h0]
    obtain ⟨q, hq⟩ := Int.eq_ofNat_of_zero_le (show 0 ≤ left - 1 by omega)
    obtain rfl : left = (q : Int) + 1 := by omega
    obtain ⟨x, o, hxa, hx, hc⟩ := h.way.at_ (by omega)
    have hd := h.way.get (j := q) (by omega)
    have hkw := h.kw
    subst hxa
    have hne : x ≠ bl := blk_not kl (hc q (by omega) 0 (.int .u8 ((ds.getD q []).getD 0 0)) hd.head) (fun n e => by cases e)
    have := take_some bl bw x o q yn yc (ds.getD q []) w h.nw.symm kl hkw (by omega) (by omega) hx hne (hc q (by omega)) hd
    rw [show (q : Int) + 1 - 1 = (q : Int) by omega, Int.toNat_natCast]
    exact this
set_option maxHeartbeats 4000000 in
theorem gro_same (m : Int) (left : Int) (ba bt bs bl bw : Nat) (A : List Int) (ya : Option Addr) (yn yc : Nat) (ds : List (List Int)) (w : World) (he : GEnv w ba bt bs bl bw A ya yn yc ds) (kl : Blk w bl #[.int .i64 left] 3) (hA : Dg A) :
    Calls Tryd.prog 58 #[.int .i64 m, .int .i64 m, .bool false, .pointer (some ⟨ba, 0, none⟩), .pointer (some ⟨bt, 0, none⟩), .pointer (some ⟨bs, 0, none⟩)] w fun e w' => e = .returned (.tuple #[.agg (A.map (Value.int .u8)).toArray, .agg (A.map (Value.int .u8)).toArray]) ∧ But bl w w' ∧ Blk w' bl #[.int .i64 left] 3 := by
  have b1 := (Below.refl w.heap.size w).alloc (Nat.le_refl _) (.cells #[.int .u8 0, .int .u8 0, .int .u8 0, .int .u8 0, .int .u8 0, .int .u8 0, .int .u8 0, .int .u8 0, .int .u8 0, .int .u8 0, .int .u8 0, .int .u8 0, .int .u8 0, .int .u8 0, .int .u8 0, .int .u8 0, .int .u8 0, .int .u8 0, .int .u8 0, .int .u8 0, .int .u8 0, .int .u8 0, .int .u8 0, .int .u8 0, .int .u8 0, .int .u8 0, .int .u8 0, .int .u8 0, .int .u8 0, .int .u8 0, .int .u8 0, .int .u8 0] 23 (0, 0))
  have b2 := b1.alloc b1.size (.cells #[.int .u8 0, .int .u8 0, .int .u8 0, .int .u8 0, .int .u8 0, .int .u8 0, .int .u8 0, .int .u8 0, .int .u8 0, .int .u8 0, .int .u8 0, .int .u8 0, .int .u8 0, .int .u8 0, .int .u8 0, .int .u8 0, .int .u8 0, .int .u8 0, .int .u8 0, .int .u8 0, .int .u8 0, .int .u8 0, .int .u8 0, .int .u8 0, .int .u8 0, .int .u8 0, .int .u8 0, .int .u8 0, .int .u8 0, .int .u8 0, .int .u8 0, .int .u8 0] 23 (0, 0))
  have Kr1 := hid ((Blk.new (w := w) (n := w.heap.size) rfl #[.int .u8 0, .int .u8 0, .int .u8 0, .int .u8 0, .int .u8 0, .int .u8 0, .int .u8 0, .int .u8 0, .int .u8 0, .int .u8 0, .int .u8 0, .int .u8 0, .int .u8 0, .int .u8 0, .int .u8 0, .int .u8 0, .int .u8 0, .int .u8 0, .int .u8 0, .int .u8 0, .int .u8 0, .int .u8 0, .int .u8 0, .int .u8 0, .int .u8 0, .int .u8 0, .int .u8 0, .int .u8 0, .int .u8 0, .int .u8 0, .int .u8 0, .int .u8 0] 23).old (.cells #[.int .u8 0, .int .u8 0, .int .u8 0, .int .u8 0, .int .u8 0, .int .u8 0, .int .u8 0, .int .u8 0, .int .u8 0, .int .u8 0, .int .u8 0, .int .u8 0, .int .u8 0, .int .u8 0, .int .u8 0, .int .u8 0, .int .u8 0, .int .u8 0, .int .u8 0, .int .u8 0, .int .u8 0, .int .u8 0, .int .u8 0, .int .u8 0, .int .u8 0, .int .u8 0, .int .u8 0, .int .u8 0, .int .u8 0, .int .u8 0, .int .u8 0, .int .u8 0] 23 (0, 0)))
  have Kr2 := hid (Blk.new (w := (w.alloc (.cells #[.int .u8 0, .int .u8 0, .int .u8 0, .int .u8 0, .int .u8 0, .int .u8 0, .int .u8 0, .int .u8 0, .int .u8 0, .int .u8 0, .int .u8 0, .int .u8 0, .int .u8 0, .int .u8 0, .int .u8 0, .int .u8 0, .int .u8 0, .int .u8 0, .int .u8 0, .int .u8 0, .int .u8 0, .int .u8 0, .int .u8 0, .int .u8 0, .int .u8 0, .int .u8 0, .int .u8 0, .int .u8 0, .int .u8 0, .int .u8 0, .int .u8 0, .int .u8 0] 23 (0, 0)))) (n := w.heap.size + 1) (by simp only [World.size_alloc]) #[.int .u8 0, .int .u8 0, .int .u8 0, .int .u8 0, .int .u8 0, .int .u8 0, .int .u8 0, .int .u8 0, .int .u8 0, .int .u8 0, .int .u8 0, .int .u8 0, .int .u8 0, .int .u8 0, .int .u8 0, .int .u8 0, .int .u8 0, .int .u8 0, .int .u8 0, .int .u8 0, .int .u8 0, .int .u8 0, .int .u8 0, .int .u8 0, .int .u8 0, .int .u8 0, .int .u8 0, .int .u8 0, .int .u8 0, .int .u8 0, .int .u8 0, .int .u8 0] 23)
  have Hb := hid b2
  have hbz := b2.size
  have Hbs := hid (show w.heap.size + 1 + 1 = ((w.alloc (.cells #[.int .u8 0, .int .u8 0, .int .u8 0, .int .u8 0, .int .u8 0, .int .u8 0, .int .u8 0, .int .u8 0, .int .u8 0, .int .u8 0, .int .u8 0, .int .u8 0, .int .u8 0, .int .u8 0, .int .u8 0, .int .u8 0, .int .u8 0, .int .u8 0, .int .u8 0, .int .u8 0, .int .u8 0, .int .u8 0, .int .u8 0, .int .u8 0, .int .u8 0, .int .u8 0, .int .u8 0, .int .u8 0, .int .u8 0, .int .u8 0, .int .u8 0, .int .u8 0] 23 (0, 0))).alloc (.cells #[.int .u8 0, .int .u8 0, .int .u8 0, .int .u8 0, .int .u8 0, .int .u8 0, .int .u8 0, .int .u8 0, .int .u8 0, .int .u8 0, .int .u8 0, .int .u8 0, .int .u8 0, .int .u8 0, .int .u8 0, .int .u8 0, .int .u8 0, .int .u8 0, .int .u8 0, .int .u8 0, .int .u8 0, .int .u8 0, .int .u8 0, .int .u8 0, .int .u8 0, .int .u8 0, .int .u8 0, .int .u8 0, .int .u8 0, .int .u8 0, .int .u8 0, .int .u8 0] 23 (0, 0))).heap.size by simp only [World.size_alloc])
  clear b1 b2 
  have HE := hid (he.but kl (But.of Hb.out))
  have Kl := hid (kl.below Hb.out)
  have hbl := kl.lt
  have hbA := he.kb.lt
  clear he kl
  go_enter Tryd.func58, Tryd.ntmps58
  go_wp2_with (first
     | (refine wpList_load_blk rfl 23 _ rfl ba rfl _ 23 HE.out.kb _ Tryd.underlying23 rfl 32 size_digest hA.size ?_)
     | (
        refine wpList_store_blk rfl 23 _ _ rfl (w.heap.size + 1 + 1) (A.map (Value.int .u8)).toArray rfl rfl _ 23 (Blk.new (by simp only [World.size_alloc]) (byteCells 32 []) _) 32 size_digest zsize hA.size (ints_one _ _) ?_
        intro w1 hb1 hk1
        have h1 := hb1.below ((Below.refl (w.heap.size + 1 + 1) (((w.alloc (.cells #[.int .u8 0, .int .u8 0, .int .u8 0, .int .u8 0, .int .u8 0, .int .u8 0, .int .u8 0, .int .u8 0, .int .u8 0, .int .u8 0, .int .u8 0, .int .u8 0, .int .u8 0, .int .u8 0, .int .u8 0, .int .u8 0, .int .u8 0, .int .u8 0, .int .u8 0, .int .u8 0, .int .u8 0, .int .u8 0, .int .u8 0, .int .u8 0, .int .u8 0, .int .u8 0, .int .u8 0, .int .u8 0, .int .u8 0, .int .u8 0, .int .u8 0, .int .u8 0] 23 (0, 0))).alloc (.cells #[.int .u8 0, .int .u8 0, .int .u8 0, .int .u8 0, .int .u8 0, .int .u8 0, .int .u8 0, .int .u8 0, .int .u8 0, .int .u8 0, .int .u8 0, .int .u8 0, .int .u8 0, .int .u8 0, .int .u8 0, .int .u8 0, .int .u8 0, .int .u8 0, .int .u8 0, .int .u8 0, .int .u8 0, .int .u8 0, .int .u8 0, .int .u8 0, .int .u8 0, .int .u8 0, .int .u8 0, .int .u8 0, .int .u8 0, .int .u8 0, .int .u8 0, .int .u8 0] 23 (0, 0))))).alloc (by simp only [World.size_alloc]; omega) _) (by simp only [World.size_alloc]; omega) (Nat.le_refl _)
        rw [Hbs.out] at h1
        have HBw1 := hid (Below.on Hb.out h1)
        have Kr1w1 := hid (Kr1.out.below h1)
        have Kr2w1 := hid (Kr2.out.below h1)
        have Klw1 := hid (Kl.out.below h1)
        have Kxw1 := hid hk1
        have hsw1 := HBw1.out.size
        clear hb1 hk1 h1))
  refine FlowB.wp_region_butIn [w.heap.size, w.heap.size + 1] (fun wz => Blk wz (w.heap.size) #[.int .u8 0, .int .u8 0, .int .u8 0, .int .u8 0, .int .u8 0, .int .u8 0, .int .u8 0, .int .u8 0, .int .u8 0, .int .u8 0, .int .u8 0, .int .u8 0, .int .u8 0, .int .u8 0, .int .u8 0, .int .u8 0, .int .u8 0, .int .u8 0, .int .u8 0, .int .u8 0, .int .u8 0, .int .u8 0, .int .u8 0, .int .u8 0, .int .u8 0, .int .u8 0, .int .u8 0, .int .u8 0, .int .u8 0, .int .u8 0, .int .u8 0, .int .u8 0] 23 ∧ Blk wz (w.heap.size + 1) #[.int .u8 0, .int .u8 0, .int .u8 0, .int .u8 0, .int .u8 0, .int .u8 0, .int .u8 0, .int .u8 0, .int .u8 0, .int .u8 0, .int .u8 0, .int .u8 0, .int .u8 0, .int .u8 0, .int .u8 0, .int .u8 0, .int .u8 0, .int .u8 0, .int .u8 0, .int .u8 0, .int .u8 0, .int .u8 0, .int .u8 0, .int .u8 0, .int .u8 0, .int .u8 0, .int .u8 0, .int .u8 0, .int .u8 0, .int .u8 0, .int .u8 0, .int .u8 0] 23) 4 [0, 1] [] [(.c 2, [], []), (.c 3, [], [])] (by kernel_rfl) (by kernel_rfl) ⟨Kr1w1.out, Kr2w1.out⟩ (fun _ _ h hb => ⟨h.1.below hb, h.2.below hb⟩) ?_
  apply Exists.intro
  refine ⟨fun w0 hb0 hF0 => ?_, ?_⟩
  · skip
    have x0 : ∀ w', (∃ x : Ext w0, w' = x.at_) → ∃ T, Blk w' (w.heap.size + 1 + 1) (A.map (Value.int .u8)).toArray T := fun w' ⟨x, hx⟩ => ⟨_, hx ▸ (hb0.blk Kxw1.out (by simp only [List.mem_cons, List.not_mem_nil, or_false]; omega)).below x.same⟩
    simp only [pick, List.getElem?_toArray, List.getElem?_cons_succ, List.getElem?_cons_zero, Option.toList_some, List.cons_append, List.nil_append]
    repeat (first | (go_big_quiet_want; refine quiet_load_blk 23 _ rfl (w.heap.size + 1 + 1) rfl _ x0 _ Tryd.underlying23 rfl 32 size_digest hA.size ?_; go_big_quiet_on; simp only [Act.put, List.setIfInBounds_toArray, List.set_cons_zero, List.set_cons_succ]) | go_big_quiet_step (fail))
    exact wpQuiet_nil rfl
  refine FlowB.AlChk.nil ?_
  refine FlowB.Walk.skips rfl (fun wz => Blk wz (w.heap.size) (A.map (Value.int .u8)).toArray 23 ∧ Blk wz (w.heap.size + 1) #[.int .u8 0, .int .u8 0, .int .u8 0, .int .u8 0, .int .u8 0, .int .u8 0, .int .u8 0, .int .u8 0, .int .u8 0, .int .u8 0, .int .u8 0, .int .u8 0, .int .u8 0, .int .u8 0, .int .u8 0, .int .u8 0, .int .u8 0, .int .u8 0, .int .u8 0, .int .u8 0, .int .u8 0, .int .u8 0, .int .u8 0, .int .u8 0, .int .u8 0, .int .u8 0, .int .u8 0, .int .u8 0, .int .u8 0, .int .u8 0, .int .u8 0, .int .u8 0] 23) (fun _ _ h hb => ⟨h.1.below hb, h.2.below hb⟩) rfl (fun w1 hb1 hF1 hG1 => ?_) ?_
  · exact FlowB.store_skips 23 _ _ rfl (w.heap.size) (A.map (Value.int .u8)).toArray rfl rfl _ 23 hG1.1 32 size_digest rfl hA.size (ints_one _ _) (by simp) (fun w2 h2 h3 => ⟨h3, h2.blk hG1.2 (by omega)⟩)
  intro w1 hb1 hF1
  apply Exists.intro
  refine ⟨fun w2 hb2 hF2 => wpQuiet_nil rfl, ?_⟩
  refine FlowB.AlChk.nil ?_
  refine FlowB.Walk.skips rfl (fun wz => Blk wz (w.heap.size) (A.map (Value.int .u8)).toArray 23 ∧ Blk wz (w.heap.size + 1) (A.map (Value.int .u8)).toArray 23) (fun _ _ h hb => ⟨h.1.below hb, h.2.below hb⟩) rfl (fun w1 hb1 hF1 hG1 => ?_) ?_
  · exact FlowB.store_skips 23 _ _ rfl (w.heap.size + 1) (A.map (Value.int .u8)).toArray rfl rfl _ 23 hG1.2 32 size_digest rfl hA.size (ints_one _ _) (by simp) (fun w2 h2 h3 => ⟨h2.blk hG1.1 (by omega), h3⟩)
  intro w1 hb1 hF1
  apply Exists.intro
  refine ⟨fun w2 hb2 hF2 => wpQuiet_nil rfl, ?_⟩
  refine FlowB.AlChk.nil ?_
  refine FlowB.Walk.fin fun w2 hw2 _ hGw2 => ?_
  simp only [List.drop_succ_cons, List.drop_zero]
  have HIw2 := hid hw2
  have HBw2 := hid (hw2.below HBw1.out HBw1.out.size (by simp only [List.mem_cons, List.not_mem_nil, or_false, forall_eq_or_imp, forall_eq]; omega))
  have HGw2 := hid hGw2
  clear hw2 hGw2
  go_wp2_with fail
  exact bodyPost_ret (v := .tuple #[.agg (A.map (Value.int .u8)).toArray, .agg (A.map (Value.int .u8)).toArray]) (results_blk2 Tryd.results58 _ (w.heap.size) (w.heap.size + 1) rfl rfl _ _ 23 HGw2.out.1 HGw2.out.2 _ Tryd.underlying23 rfl 32 size_digest hA.size hA.size) rfl ⟨rfl, (But.of HBw2.out), (HIw2.out.blk Klw1.out (by simp only [List.mem_cons, List.not_mem_nil, or_false]; omega))⟩
set_option maxHeartbeats 4000000 in
theorem gro_cut (m : Int) (left : Int) (ba bt bs bl bw : Nat) (A : List Int) (ya : Option Addr) (yn yc : Nat) (ds : List (List Int)) (w : World) (he : GEnv w ba bt bs bl bw A ya yn yc ds) (kl : Blk w bl #[.int .i64 left] 3) (hA : Dg A) (hlo : -1000 ≤ left) (hhi : left ≤ yn) (hyn : yn ≤ 1000000) :
    Calls Tryd.prog 58 #[.int .i64 m, .int .i64 m, .bool true, .pointer (some ⟨ba, 0, none⟩), .pointer (some ⟨bt, 0, none⟩), .pointer (some ⟨bs, 0, none⟩)] w fun e w' => e = .returned (.tuple #[.agg ((takeZ ds left).map (Value.int .u8)).toArray, .agg ((takeZ ds left).map (Value.int .u8)).toArray]) ∧ But bl w w' ∧ Blk w' bl #[.int .i64 (left - 1)] 3 := by
  have CT := hid (fun (W : World) (h : GEnv W ba bt bs bl bw A ya yn yc ds) (k1 : Blk W bl #[.int .i64 left] 3) => gtake_any h k1 hlo hhi hyn)
  have hwl := he.way.length
  have HO := hid (Dg.take he.way.each (left := left) (by omega))
  generalize takeZ ds left = O at *
  have b1 := (Below.refl w.heap.size w).alloc (Nat.le_refl _) (.cells #[.int .u8 0, .int .u8 0, .int .u8 0, .int .u8 0, .int .u8 0, .int .u8 0, .int .u8 0, .int .u8 0, .int .u8 0, .int .u8 0, .int .u8 0, .int .u8 0, .int .u8 0, .int .u8 0, .int .u8 0, .int .u8 0, .int .u8 0, .int .u8 0, .int .u8 0, .int .u8 0, .int .u8 0, .int .u8 0, .int .u8 0, .int .u8 0, .int .u8 0, .int .u8 0, .int .u8 0, .int .u8 0, .int .u8 0, .int .u8 0, .int .u8 0, .int .u8 0] 23 (0, 0))
  have b2 := b1.alloc b1.size (.cells #[.int .u8 0, .int .u8 0, .int .u8 0, .int .u8 0, .int .u8 0, .int .u8 0, .int .u8 0, .int .u8 0, .int .u8 0, .int .u8 0, .int .u8 0, .int .u8 0, .int .u8 0, .int .u8 0, .int .u8 0, .int .u8 0, .int .u8 0, .int .u8 0, .int .u8 0, .int .u8 0, .int .u8 0, .int .u8 0, .int .u8 0, .int .u8 0, .int .u8 0, .int .u8 0, .int .u8 0, .int .u8 0, .int .u8 0, .int .u8 0, .int .u8 0, .int .u8 0] 23 (0, 0))
  have Kr1 := hid ((Blk.new (w := w) (n := w.heap.size) rfl #[.int .u8 0, .int .u8 0, .int .u8 0, .int .u8 0, .int .u8 0, .int .u8 0, .int .u8 0, .int .u8 0, .int .u8 0, .int .u8 0, .int .u8 0, .int .u8 0, .int .u8 0, .int .u8 0, .int .u8 0, .int .u8 0, .int .u8 0, .int .u8 0, .int .u8 0, .int .u8 0, .int .u8 0, .int .u8 0, .int .u8 0, .int .u8 0, .int .u8 0, .int .u8 0, .int .u8 0, .int .u8 0, .int .u8 0, .int .u8 0, .int .u8 0, .int .u8 0] 23).old (.cells #[.int .u8 0, .int .u8 0, .int .u8 0, .int .u8 0, .int .u8 0, .int .u8 0, .int .u8 0, .int .u8 0, .int .u8 0, .int .u8 0, .int .u8 0, .int .u8 0, .int .u8 0, .int .u8 0, .int .u8 0, .int .u8 0, .int .u8 0, .int .u8 0, .int .u8 0, .int .u8 0, .int .u8 0, .int .u8 0, .int .u8 0, .int .u8 0, .int .u8 0, .int .u8 0, .int .u8 0, .int .u8 0, .int .u8 0, .int .u8 0, .int .u8 0, .int .u8 0] 23 (0, 0)))
  have Kr2 := hid (Blk.new (w := (w.alloc (.cells #[.int .u8 0, .int .u8 0, .int .u8 0, .int .u8 0, .int .u8 0, .int .u8 0, .int .u8 0, .int .u8 0, .int .u8 0, .int .u8 0, .int .u8 0, .int .u8 0, .int .u8 0, .int .u8 0, .int .u8 0, .int .u8 0, .int .u8 0, .int .u8 0, .int .u8 0, .int .u8 0, .int .u8 0, .int .u8 0, .int .u8 0, .int .u8 0, .int .u8 0, .int .u8 0, .int .u8 0, .int .u8 0, .int .u8 0, .int .u8 0, .int .u8 0, .int .u8 0] 23 (0, 0)))) (n := w.heap.size + 1) (by simp only [World.size_alloc]) #[.int .u8 0, .int .u8 0, .int .u8 0, .int .u8 0, .int .u8 0, .int .u8 0, .int .u8 0, .int .u8 0, .int .u8 0, .int .u8 0, .int .u8 0, .int .u8 0, .int .u8 0, .int .u8 0, .int .u8 0, .int .u8 0, .int .u8 0, .int .u8 0, .int .u8 0, .int .u8 0, .int .u8 0, .int .u8 0, .int .u8 0, .int .u8 0, .int .u8 0, .int .u8 0, .int .u8 0, .int .u8 0, .int .u8 0, .int .u8 0, .int .u8 0, .int .u8 0] 23)
  have Hb := hid b2
  have hbz := b2.size
  have Hbs := hid (show w.heap.size + 1 + 1 = ((w.alloc (.cells #[.int .u8 0, .int .u8 0, .int .u8 0, .int .u8 0, .int .u8 0, .int .u8 0, .int .u8 0, .int .u8 0, .int .u8 0, .int .u8 0, .int .u8 0, .int .u8 0, .int .u8 0, .int .u8 0, .int .u8 0, .int .u8 0, .int .u8 0, .int .u8 0, .int .u8 0, .int .u8 0, .int .u8 0, .int .u8 0, .int .u8 0, .int .u8 0, .int .u8 0, .int .u8 0, .int .u8 0, .int .u8 0, .int .u8 0, .int .u8 0, .int .u8 0, .int .u8 0] 23 (0, 0))).alloc (.cells #[.int .u8 0, .int .u8 0, .int .u8 0, .int .u8 0, .int .u8 0, .int .u8 0, .int .u8 0, .int .u8 0, .int .u8 0, .int .u8 0, .int .u8 0, .int .u8 0, .int .u8 0, .int .u8 0, .int .u8 0, .int .u8 0, .int .u8 0, .int .u8 0, .int .u8 0, .int .u8 0, .int .u8 0, .int .u8 0, .int .u8 0, .int .u8 0, .int .u8 0, .int .u8 0, .int .u8 0, .int .u8 0, .int .u8 0, .int .u8 0, .int .u8 0, .int .u8 0] 23 (0, 0))).heap.size by simp only [World.size_alloc])
  clear b1 b2 
  have HE := hid (he.but kl (But.of Hb.out))
  have Kl := hid (kl.below Hb.out)
  have hbl := kl.lt
  have hbA := he.kb.lt
  clear he kl
  go_enter Tryd.func58, Tryd.ntmps58
  go_wp2_with (first
     | (refine wpList_load_blk rfl 23 _ rfl ba rfl _ 23 HE.out.kb _ Tryd.underlying23 rfl 32 size_digest hA.size ?_)
     | (
        refine wpList_store_blk rfl 23 _ _ rfl (w.heap.size + 1 + 1) (A.map (Value.int .u8)).toArray rfl rfl _ 23 (Blk.new (by simp only [World.size_alloc]) (byteCells 32 []) _) 32 size_digest zsize hA.size (ints_one _ _) ?_
        intro w1 hb1 hk1
        have h1 := hb1.below ((Below.refl (w.heap.size + 1 + 1) (((w.alloc (.cells #[.int .u8 0, .int .u8 0, .int .u8 0, .int .u8 0, .int .u8 0, .int .u8 0, .int .u8 0, .int .u8 0, .int .u8 0, .int .u8 0, .int .u8 0, .int .u8 0, .int .u8 0, .int .u8 0, .int .u8 0, .int .u8 0, .int .u8 0, .int .u8 0, .int .u8 0, .int .u8 0, .int .u8 0, .int .u8 0, .int .u8 0, .int .u8 0, .int .u8 0, .int .u8 0, .int .u8 0, .int .u8 0, .int .u8 0, .int .u8 0, .int .u8 0, .int .u8 0] 23 (0, 0))).alloc (.cells #[.int .u8 0, .int .u8 0, .int .u8 0, .int .u8 0, .int .u8 0, .int .u8 0, .int .u8 0, .int .u8 0, .int .u8 0, .int .u8 0, .int .u8 0, .int .u8 0, .int .u8 0, .int .u8 0, .int .u8 0, .int .u8 0, .int .u8 0, .int .u8 0, .int .u8 0, .int .u8 0, .int .u8 0, .int .u8 0, .int .u8 0, .int .u8 0, .int .u8 0, .int .u8 0, .int .u8 0, .int .u8 0, .int .u8 0, .int .u8 0, .int .u8 0, .int .u8 0] 23 (0, 0))))).alloc (by simp only [World.size_alloc]; omega) _) (by simp only [World.size_alloc]; omega) (Nat.le_refl _)
        rw [Hbs.out] at h1
        have HBw1 := hid (Below.on Hb.out h1)
        have Kr1w1 := hid (Kr1.out.below h1)
        have Kr2w1 := hid (Kr2.out.below h1)
        have Klw1 := hid (Kl.out.below h1)
        have Kxw1 := hid hk1
        have hsw1 := HBw1.out.size
        have HE1 := hid (HE.out.but Kl.out (But.of h1))
        have HC1 := hid (But.of (b := bl) h1)
        have ct1 : w1.cell? ⟨bt, 0, none⟩ = some (.func (.func 75) #[] #[.pointer (some ⟨bl, 0, none⟩), .pointer (some ⟨bw, 0, none⟩)]) := by rw [HE1.out.kt.cell]; rfl
        clear hb1 hk1 h1))
  refine (CT.out w1 HE1.out Klw1.out).mono ?_
  rintro e w2 ⟨rfl, b2, k2⟩
  have HC2 := hid (But.trans HC1.out b2)
  have Kl2 := hid k2
  have Kr12 := hid (b2.blk Kr1w1.out (by omega))
  have Kr22 := hid (b2.blk Kr2w1.out (by omega))
  have Kx2 := hid (b2.blk Kxw1.out (by omega))
  clear b2 k2
  go_wp2_with (
        refine wpList_store_blk rfl 23 _ _ rfl (w.heap.size + 1 + 1) (O.map (Value.int .u8)).toArray rfl rfl _ 23 Kx2.out 32 size_digest hA.size HO.out.size (ints_one _ _) ?_
        intro w3 hb3 hk3
        have HC3 := hid (But.fresh (But.trans (But.of Hb.out) HC2.out) hb3 (by omega))
        have Kr1w3 := hid (hb3.blk Kr12.out (by omega))
        have Kr2w3 := hid (hb3.blk Kr22.out (by omega))
        have Klw3 := hid (hb3.blk Kl2.out (by omega))
        have Kxw3 := hid hk3
        clear hb3 hk3)
  simp only [Act.put]
  refine FlowB.wp_region_butIn [w.heap.size, w.heap.size + 1] (fun wz => Blk wz (w.heap.size) #[.int .u8 0, .int .u8 0, .int .u8 0, .int .u8 0, .int .u8 0, .int .u8 0, .int .u8 0, .int .u8 0, .int .u8 0, .int .u8 0, .int .u8 0, .int .u8 0, .int .u8 0, .int .u8 0, .int .u8 0, .int .u8 0, .int .u8 0, .int .u8 0, .int .u8 0, .int .u8 0, .int .u8 0, .int .u8 0, .int .u8 0, .int .u8 0, .int .u8 0, .int .u8 0, .int .u8 0, .int .u8 0, .int .u8 0, .int .u8 0, .int .u8 0, .int .u8 0] 23 ∧ Blk wz (w.heap.size + 1) #[.int .u8 0, .int .u8 0, .int .u8 0, .int .u8 0, .int .u8 0, .int .u8 0, .int .u8 0, .int .u8 0, .int .u8 0, .int .u8 0, .int .u8 0, .int .u8 0, .int .u8 0, .int .u8 0, .int .u8 0, .int .u8 0, .int .u8 0, .int .u8 0, .int .u8 0, .int .u8 0, .int .u8 0, .int .u8 0, .int .u8 0, .int .u8 0, .int .u8 0, .int .u8 0, .int .u8 0, .int .u8 0, .int .u8 0, .int .u8 0, .int .u8 0, .int .u8 0] 23) 4 [0, 1] [] [(.c 2, [], []), (.c 3, [], [])] (by kernel_rfl) (by kernel_rfl) ⟨Kr1w3.out, Kr2w3.out⟩ (fun _ _ h hb => ⟨h.1.below hb, h.2.below hb⟩) ?_
  apply Exists.intro
  refine ⟨fun w0 hb0 hF0 => ?_, ?_⟩
  · skip
    have x0 : ∀ w', (∃ x : Ext w0, w' = x.at_) → ∃ T, Blk w' (w.heap.size + 1 + 1) (O.map (Value.int .u8)).toArray T := fun w' ⟨x, hx⟩ => ⟨_, hx ▸ (hb0.blk Kxw3.out (by simp only [List.mem_cons, List.not_mem_nil, or_false]; omega)).below x.same⟩
    simp only [pick, List.getElem?_toArray, List.getElem?_cons_succ, List.getElem?_cons_zero, Option.toList_some, List.cons_append, List.nil_append]
    repeat (first | (go_big_quiet_want; refine quiet_load_blk 23 _ rfl (w.heap.size + 1 + 1) rfl _ x0 _ Tryd.underlying23 rfl 32 size_digest HO.out.size ?_; go_big_quiet_on; simp only [Act.put, List.setIfInBounds_toArray, List.set_cons_zero, List.set_cons_succ]) | go_big_quiet_step (fail))
    exact wpQuiet_nil rfl
  refine FlowB.AlChk.nil ?_
  refine FlowB.Walk.skips rfl (fun wz => Blk wz (w.heap.size) (O.map (Value.int .u8)).toArray 23 ∧ Blk wz (w.heap.size + 1) #[.int .u8 0, .int .u8 0, .int .u8 0, .int .u8 0, .int .u8 0, .int .u8 0, .int .u8 0, .int .u8 0, .int .u8 0, .int .u8 0, .int .u8 0, .int .u8 0, .int .u8 0, .int .u8 0, .int .u8 0, .int .u8 0, .int .u8 0, .int .u8 0, .int .u8 0, .int .u8 0, .int .u8 0, .int .u8 0, .int .u8 0, .int .u8 0, .int .u8 0, .int .u8 0, .int .u8 0, .int .u8 0, .int .u8 0, .int .u8 0, .int .u8 0, .int .u8 0] 23) (fun _ _ h hb => ⟨h.1.below hb, h.2.below hb⟩) rfl (fun w1 hb1 hF1 hG1 => ?_) ?_
  · exact FlowB.store_skips 23 _ _ rfl (w.heap.size) (O.map (Value.int .u8)).toArray rfl rfl _ 23 hG1.1 32 size_digest rfl HO.out.size (ints_one _ _) (by simp) (fun w2 h2 h3 => ⟨h3, h2.blk hG1.2 (by omega)⟩)
  intro w1 hb1 hF1
  apply Exists.intro
  refine ⟨fun w2 hb2 hF2 => wpQuiet_nil rfl, ?_⟩
  refine FlowB.AlChk.nil ?_
  refine FlowB.Walk.skips rfl (fun wz => Blk wz (w.heap.size) (O.map (Value.int .u8)).toArray 23 ∧ Blk wz (w.heap.size + 1) (O.map (Value.int .u8)).toArray 23) (fun _ _ h hb => ⟨h.1.below hb, h.2.below hb⟩) rfl (fun w1 hb1 hF1 hG1 => ?_) ?_
  · exact FlowB.store_skips 23 _ _ rfl (w.heap.size + 1) (O.map (Value.int .u8)).toArray rfl rfl _ 23 hG1.2 32 size_digest rfl HO.out.size (ints_one _ _) (by simp) (fun w2 h2 h3 => ⟨h2.blk hG1.1 (by omega), h3⟩)
  intro w1 hb1 hF1
  apply Exists.intro
  refine ⟨fun w2 hb2 hF2 => wpQuiet_nil rfl, ?_⟩
  refine FlowB.AlChk.nil ?_
  refine FlowB.Walk.fin fun w2 hw2 _ hGw2 => ?_
  simp only [List.drop_succ_cons, List.drop_zero]
  have HIw2 := hid hw2
  have HGw2 := hid hGw2
  clear hw2 hGw2
  go_wp2_with fail
  exact bodyPost_ret (v := .tuple #[.agg (O.map (Value.int .u8)).toArray, .agg (O.map (Value.int .u8)).toArray]) (results_blk2 Tryd.results58 _ (w.heap.size) (w.heap.size + 1) rfl rfl _ _ 23 HGw2.out.1 HGw2.out.2 _ Tryd.underlying23 rfl 32 size_digest HO.out.size HO.out.size) rfl ⟨rfl, (But.freshIn HC3.out HIw2.out (by simp only [List.mem_cons, List.not_mem_nil, or_false, forall_eq_or_imp, forall_eq]; omega)), (HIw2.out.blk Klw3.out (by simp only [List.mem_cons, List.not_mem_nil, or_false]; omega))⟩
set_option maxHeartbeats 4000000 in
theorem gro_l (m n k : Nat) (cut : Bool) (left : Int) (ba bt bs bl bw : Nat) (A : List Int) (ya : Option Addr) (yn yc : Nat) (ds : List (List Int)) (w : World) (he : GEnv w ba bt bs bl bw A ya yn yc ds) (kl : Blk w bl #[.int .i64 left] 3) (hmn : m < n) (hn : 2 ≤ n) (hn2 : n ≤ 200) (hkk : halfN n = k) (hik : m ≤ k) (hlo : -1000 ≤ left) (hhi : left ≤ yn) (hyn : yn ≤ 1000000)
    (R1 R2 : List Int) (L2 : Int) (hR1 : Dg R1) (hR2 : Dg R2) (ca : ∀ W : World, GEnv W ba bt bs bl bw A ya yn yc ds → Blk W bl #[.int .i64 (left - 1)] 3 → Calls Tryd.prog 58 #[.int .i64 (m : Int), .int .i64 (k : Int), .bool cut, .pointer (some ⟨ba, 0, none⟩), .pointer (some ⟨bt, 0, none⟩), .pointer (some ⟨bs, 0, none⟩)] W fun e w' => e = .returned (.tuple #[.agg (R1.map (Value.int .u8)).toArray, .agg (R2.map (Value.int .u8)).toArray]) ∧ But bl W w' ∧ Blk w' bl #[.int .i64 L2] 3) :
    Calls Tryd.prog 58 #[.int .i64 m, .int .i64 n, .bool cut, .pointer (some ⟨ba, 0, none⟩), .pointer (some ⟨bt, 0, none⟩), .pointer (some ⟨bs, 0, none⟩)] w fun e w' => e = .returned (.tuple #[.agg (R1.map (Value.int .u8)).toArray, .agg ((nodeL R2 (takeZ ds left)).map (Value.int .u8)).toArray]) ∧ But bl w w' ∧ Blk w' bl #[.int .i64 L2] 3 := by
  obtain ⟨hk1, hk2⟩ := halfN_lt hn
  rw [hkk] at hk1 hk2
  have hmI : ¬ ((m : Int) = (n : Int)) := by omega
  have CH := hid (fun W : World => (lohalf_any n W hn (by omega)).mono (fun e w' (h : e = .returned (.int .i64 (halfN n : Int)) ∧ w' = W) => show e = .returned (.int .i64 (halfN n : Int)) ∧ Below W.heap.size W w' from ⟨h.1, by rw [h.2]; exact Below.refl _ _⟩))
  rw [hkk] at CH
  have CT := hid (fun (W : World) (h : GEnv W ba bt bs bl bw A ya yn yc ds) (k1 : Blk W bl #[.int .i64 left] 3) => gtake_any h k1 hlo hhi hyn)
  have CA := hid ca
  have hwl := he.way.length
  have HO := hid (Dg.take he.way.each (left := left) (by omega))
  have HR1 := hid hR1
  have HR2 := hid hR2
  generalize takeZ ds left = O at *
  have CN := hid (fun (W : World) (t : ShaTab W) => lonode_any R2 O W HR2.out HO.out t)
  have HX9 := hid (Dg.nodeL R2 O)
  generalize nodeL R2 O = X9 at *
  have hikI : (m : Int) ≤ k := by omega
  clear ca hR1 hR2 hkk hwl
  have b1 := (Below.refl w.heap.size w).alloc (Nat.le_refl _) (.cells #[.int .u8 0, .int .u8 0, .int .u8 0, .int .u8 0, .int .u8 0, .int .u8 0, .int .u8 0, .int .u8 0, .int .u8 0, .int .u8 0, .int .u8 0, .int .u8 0, .int .u8 0, .int .u8 0, .int .u8 0, .int .u8 0, .int .u8 0, .int .u8 0, .int .u8 0, .int .u8 0, .int .u8 0, .int .u8 0, .int .u8 0, .int .u8 0, .int .u8 0, .int .u8 0, .int .u8 0, .int .u8 0, .int .u8 0, .int .u8 0, .int .u8 0, .int .u8 0] 23 (0, 0))
  have b2 := b1.alloc b1.size (.cells #[.int .u8 0, .int .u8 0, .int .u8 0, .int .u8 0, .int .u8 0, .int .u8 0, .int .u8 0, .int .u8 0, .int .u8 0, .int .u8 0, .int .u8 0, .int .u8 0, .int .u8 0, .int .u8 0, .int .u8 0, .int .u8 0, .int .u8 0, .int .u8 0, .int .u8 0, .int .u8 0, .int .u8 0, .int .u8 0, .int .u8 0, .int .u8 0, .int .u8 0, .int .u8 0, .int .u8 0, .int .u8 0, .int .u8 0, .int .u8 0, .int .u8 0, .int .u8 0] 23 (0, 0))
  have Kr1 := hid ((Blk.new (w := w) (n := w.heap.size) rfl #[.int .u8 0, .int .u8 0, .int .u8 0, .int .u8 0, .int .u8 0, .int .u8 0, .int .u8 0, .int .u8 0, .int .u8 0, .int .u8 0, .int .u8 0, .int .u8 0, .int .u8 0, .int .u8 0, .int .u8 0, .int .u8 0, .int .u8 0, .int .u8 0, .int .u8 0, .int .u8 0, .int .u8 0, .int .u8 0, .int .u8 0, .int .u8 0, .int .u8 0, .int .u8 0, .int .u8 0, .int .u8 0, .int .u8 0, .int .u8 0, .int .u8 0, .int .u8 0] 23).old (.cells #[.int .u8 0, .int .u8 0, .int .u8 0, .int .u8 0, .int .u8 0, .int .u8 0, .int .u8 0, .int .u8 0, .int .u8 0, .int .u8 0, .int .u8 0, .int .u8 0, .int .u8 0, .int .u8 0, .int .u8 0, .int .u8 0, .int .u8 0, .int .u8 0, .int .u8 0, .int .u8 0, .int .u8 0, .int .u8 0, .int .u8 0, .int .u8 0, .int .u8 0, .int .u8 0, .int .u8 0, .int .u8 0, .int .u8 0, .int .u8 0, .int .u8 0, .int .u8 0] 23 (0, 0)))
  have Kr2 := hid (Blk.new (w := (w.alloc (.cells #[.int .u8 0, .int .u8 0, .int .u8 0, .int .u8 0, .int .u8 0, .int .u8 0, .int .u8 0, .int .u8 0, .int .u8 0, .int .u8 0, .int .u8 0, .int .u8 0, .int .u8 0, .int .u8 0, .int .u8 0, .int .u8 0, .int .u8 0, .int .u8 0, .int .u8 0, .int .u8 0, .int .u8 0, .int .u8 0, .int .u8 0, .int .u8 0, .int .u8 0, .int .u8 0, .int .u8 0, .int .u8 0, .int .u8 0, .int .u8 0, .int .u8 0, .int .u8 0] 23 (0, 0)))) (n := w.heap.size + 1) (by simp only [World.size_alloc]) #[.int .u8 0, .int .u8 0, .int .u8 0, .int .u8 0, .int .u8 0, .int .u8 0, .int .u8 0, .int .u8 0, .int .u8 0, .int .u8 0, .int .u8 0, .int .u8 0, .int .u8 0, .int .u8 0, .int .u8 0, .int .u8 0, .int .u8 0, .int .u8 0, .int .u8 0, .int .u8 0, .int .u8 0, .int .u8 0, .int .u8 0, .int .u8 0, .int .u8 0, .int .u8 0, .int .u8 0, .int .u8 0, .int .u8 0, .int .u8 0, .int .u8 0, .int .u8 0] 23)
  have Hb := hid b2
  have hbz := b2.size
  have Hbs := hid (show w.heap.size + 1 + 1 = ((w.alloc (.cells #[.int .u8 0, .int .u8 0, .int .u8 0, .int .u8 0, .int .u8 0, .int .u8 0, .int .u8 0, .int .u8 0, .int .u8 0, .int .u8 0, .int .u8 0, .int .u8 0, .int .u8 0, .int .u8 0, .int .u8 0, .int .u8 0, .int .u8 0, .int .u8 0, .int .u8 0, .int .u8 0, .int .u8 0, .int .u8 0, .int .u8 0, .int .u8 0, .int .u8 0, .int .u8 0, .int .u8 0, .int .u8 0, .int .u8 0, .int .u8 0, .int .u8 0, .int .u8 0] 23 (0, 0))).alloc (.cells #[.int .u8 0, .int .u8 0, .int .u8 0, .int .u8 0, .int .u8 0, .int .u8 0, .int .u8 0, .int .u8 0, .int .u8 0, .int .u8 0, .int .u8 0, .int .u8 0, .int .u8 0, .int .u8 0, .int .u8 0, .int .u8 0, .int .u8 0, .int .u8 0, .int .u8 0, .int .u8 0, .int .u8 0, .int .u8 0, .int .u8 0, .int .u8 0, .int .u8 0, .int .u8 0, .int .u8 0, .int .u8 0, .int .u8 0, .int .u8 0, .int .u8 0, .int .u8 0] 23 (0, 0))).heap.size by simp only [World.size_alloc])
  clear b1 b2 
  have HE0 := hid he
  have Kl0 := hid kl
  have HE := hid (he.but kl (But.of Hb.out))
  have Kl := hid (kl.below Hb.out)
  have hbl := kl.lt
  have hbA := he.kb.lt
  have hllt := Kl.out.lt
  clear he kl
  go_enter Tryd.func58, Tryd.ntmps58
  go_wp2_with fail
  refine FlowB.wp_region_butIn [bl] (fun wz => Blk wz bl #[.int .i64 left] 3) 5 [0, 1, 2] [4] [(.c 3, [], []), (.b 4, [], [])] (by kernel_rfl) (by kernel_rfl) Kl.out (fun _ _ h hb => h.below hb) ?_
  apply Exists.intro
  refine ⟨fun w0 hb0 hF0 => ?_, ?_⟩
  · skip
    have yt : ∀ w', (∃ x : Ext w0, w' = x.at_) → w'.cell? ⟨bt, 0, none⟩ = some (.func (.func 75) #[] #[.pointer (some ⟨bl, 0, none⟩), .pointer (some ⟨bw, 0, none⟩)]) := fun w' ⟨x, hx⟩ => by rw [hx, ((((HE.out.but Kl.out (but_of_in hb0)).kt).below x.same)).cell]; rfl
    have c0 := fun e : Ext w0 => CH.out e.at_
    simp only [pick, List.getElem?_toArray, List.getElem?_cons_succ, List.getElem?_cons_zero, Option.toList_some, List.cons_append, List.nil_append]
    repeat (first | (go_big_quiet_want; refine quiet_load_one 88 _ rfl ⟨bt, 0, none⟩ rfl _ yt _ Tryd.underlying88 rfl ?_; go_big_quiet_on; simp only [Act.put, List.setIfInBounds_toArray, List.set_cons_zero, List.set_cons_succ]) | go_big_quiet_step ((go_at_call 56; with_reducible exact Calls.ext (c0 _))))
    exact wpQuiet_nil rfl
  refine FlowB.AlChk.one rfl (fun b => .pointer (some ⟨b, 0, none⟩)) (.cells (byteCells 32 []) 23 (0, 0)) rfl (st_butIn _ (by simp only [World.size_alloc]; omega)) (fun w2 hb2 hF2 => by go_simp; rfl) ?_
  refine FlowB.AlChk.nil ?_
  refine FlowB.Walk.call rfl 75 #[.pointer (some ⟨bl, 0, none⟩), .pointer (some ⟨bw, 0, none⟩)] (fun v _ => v = .agg (O.map (Value.int .u8)).toArray) (fun _ w' => Blk w' bl #[.int .i64 (left - 1)] 3) (fun _ _ _ _ h _ => h) (fun _ _ _ h k => h.below k) rfl (fun w1 hb1 hF1 hG1 => ⟨by go_simp, ?_⟩) ?_
  · refine (CT.out w1 (HE.out.but Kl.out (but_of_in hb1)) hG1).mono ?_
    rintro e w2 ⟨rfl, b2, k2⟩
    exact ⟨_, rfl, FlowB.ButIn.of_but b2 (by simp), rfl, k2⟩
  rintro v1 w1 hb1 hF1 rfl
  apply Exists.intro
  refine ⟨fun w2 hb2 hF2 => wpQuiet_nil rfl, ?_⟩
  refine FlowB.AlChk.nil ?_
  refine FlowB.Walk.blk rfl (fun b => .pointer (some ⟨b, 0, none⟩)) (.cells (byteCells 32 []) 23 (0, 0)) (by simp) ?_
  intro b9 wz hbz_ hFz hge9 _
  apply Exists.intro
  refine ⟨fun w2 hb2 hF2 => wpQuiet_nil rfl, ?_⟩
  refine FlowB.AlChk.nil ?_
  refine FlowB.Walk.fin fun w3 h3 hF3 hG3 => ?_
  simp only [List.drop_succ_cons, List.drop_zero]
  have HB3 := hid (but_of_in h3)
  have K93 := hid (show Blk w3 b9 (byteCells 32 []) 23 from hF3.2)
  have Kl3 := hid (show Blk w3 bl #[.int .i64 (left - 1)] 3 from hG3)
  rw [← Hbs.out] at hge9
  have Kr13 := hid (HB3.out.blk Kr1.out (by omega))
  have Kr23 := hid (HB3.out.blk Kr2.out (by omega))
  clear h3 hF3 hG3 hbz_ hFz
  go_wp2_with (
        refine wpList_store_blk rfl 23 _ _ rfl b9 (O.map (Value.int .u8)).toArray rfl rfl _ 23 K93.out 32 size_digest zsize HO.out.size (ints_one _ _) ?_
        intro w4 hb4 hk4
        have HB4 := hid (But.fresh HB3.out hb4 (by rw [← Hbs.out]; omega))
        have K94 := hid hk4
        have Kl4 := hid (hb4.blk Kl3.out (by omega))
        have Kr14 := hid (hb4.blk Kr13.out (by omega))
        have Kr24 := hid (hb4.blk Kr23.out (by omega))
        have HE4 := hid (HE.out.but Kl.out HB4.out)
        have hs94 := K94.out.lt
        have cg4 : w4.cell? ⟨bs, 0, none⟩ = some (.func (.func 58) #[] #[.pointer (some ⟨ba, 0, none⟩), .pointer (some ⟨bt, 0, none⟩), .pointer (some ⟨bs, 0, none⟩)]) := by rw [HE4.out.ka.cell]; rfl
        clear hb4 hk4)
  refine (CA.out w4 HE4.out Kl4.out).mono ?_
  rintro e w5 ⟨rfl, b5, k5⟩
  have HB5 := hid (But.trans HB4.out b5)
  have Kl5 := hid k5
  have Kr15 := hid (b5.blk Kr14.out (by omega))
  have Kr25 := hid (b5.blk Kr24.out (by omega))
  have K95 := hid (b5.blk K94.out (by omega))
  have hs5 := K95.out.lt
  have hs5b := Kr25.out.lt
  have hs5c := Kl5.out.lt
  clear b5 k5
  go_wp2_with (first
     | (
        refine wpList_store_blk rfl 23 _ _ rfl (w5.heap.size) (R1.map (Value.int .u8)).toArray rfl rfl _ 23 ((Blk.new rfl (byteCells 32 []) _).old _) 32 size_digest zsize HR1.out.size (ints_one _ _) ?_
        intro w6 hb6 hk6
        have h6 := hb6.below (((Below.refl w5.heap.size w5).alloc (Nat.le_refl _) _).alloc (by simp only [World.size_alloc]; omega) _) (by simp only [World.size_alloc]; omega) (Nat.le_refl _)
        have H6 := hid h6
        have Ku6 := hid hk6
        have Kv6 := hid (hb6.blk (Blk.new (n := w5.heap.size + 1) (by simp only [World.size_alloc]) (byteCells 32 []) 23) (by omega))
        clear hb6 hk6 h6)
     | (
        refine wpList_store_blk rfl 23 _ _ rfl (w5.heap.size + 1) (R2.map (Value.int .u8)).toArray rfl rfl _ 23 Kv6.out 32 size_digest zsize HR2.out.size (ints_one _ _) ?_
        intro w7 hb7 hk7
        have h7 := hb7.below H6.out H6.out.size (by omega)
        have HC7 := hid (But.trans (But.of Hb.out) (But.trans HB5.out (But.of h7)))
        have Kuw7 := hid (hb7.blk Ku6.out (by omega))
        have Kvw7 := hid hk7
        have Kr1w7 := hid (Kr15.out.below h7)
        have Kr2w7 := hid (Kr25.out.below h7)
        have Kow7 := hid (K95.out.below h7)
        have Klw7 := hid (Kl5.out.below h7)
        clear hb7 hk7 h7))
  simp only [Act.put]
  refine FlowB.wp_region_butIn [w.heap.size, w.heap.size + 1] (fun wz => Blk wz (w.heap.size) #[.int .u8 0, .int .u8 0, .int .u8 0, .int .u8 0, .int .u8 0, .int .u8 0, .int .u8 0, .int .u8 0, .int .u8 0, .int .u8 0, .int .u8 0, .int .u8 0, .int .u8 0, .int .u8 0, .int .u8 0, .int .u8 0, .int .u8 0, .int .u8 0, .int .u8 0, .int .u8 0, .int .u8 0, .int .u8 0, .int .u8 0, .int .u8 0, .int .u8 0, .int .u8 0, .int .u8 0, .int .u8 0, .int .u8 0, .int .u8 0, .int .u8 0, .int .u8 0] 23 ∧ Blk wz (w.heap.size + 1) #[.int .u8 0, .int .u8 0, .int .u8 0, .int .u8 0, .int .u8 0, .int .u8 0, .int .u8 0, .int .u8 0, .int .u8 0, .int .u8 0, .int .u8 0, .int .u8 0, .int .u8 0, .int .u8 0, .int .u8 0, .int .u8 0, .int .u8 0, .int .u8 0, .int .u8 0, .int .u8 0, .int .u8 0, .int .u8 0, .int .u8 0, .int .u8 0, .int .u8 0, .int .u8 0, .int .u8 0, .int .u8 0, .int .u8 0, .int .u8 0, .int .u8 0, .int .u8 0] 23) 6 [0, 1, 2, 3] [] [(.c 4, [], []), (.c 5, [], [])] (by kernel_rfl) (by kernel_rfl) ⟨Kr1w7.out, Kr2w7.out⟩ (fun _ _ h hb => ⟨h.1.below hb, h.2.below hb⟩) ?_
  apply Exists.intro
  refine ⟨fun w0 hb0 hF0 => ?_, ?_⟩
  · skip
    have x0 : ∀ w', (∃ x : Ext w0, w' = x.at_) → ∃ T, Blk w' (w5.heap.size) (R1.map (Value.int .u8)).toArray T := fun w' ⟨x, hx⟩ => ⟨_, hx ▸ (hb0.blk Kuw7.out (by simp only [List.mem_cons, List.not_mem_nil, or_false]; omega)).below x.same⟩
    have x1 : ∀ w', (∃ x : Ext w0, w' = x.at_) → ∃ T, Blk w' (w5.heap.size + 1) (R2.map (Value.int .u8)).toArray T := fun w' ⟨x, hx⟩ => ⟨_, hx ▸ (hb0.blk Kvw7.out (by simp only [List.mem_cons, List.not_mem_nil, or_false]; omega)).below x.same⟩
    have x2 : ∀ w', (∃ x : Ext w0, w' = x.at_) → ∃ T, Blk w' (b9) (O.map (Value.int .u8)).toArray T := fun w' ⟨x, hx⟩ => ⟨_, hx ▸ (hb0.blk Kow7.out (by simp only [List.mem_cons, List.not_mem_nil, or_false]; omega)).below x.same⟩
    have c0 := fun e : Ext w0 => CN.out e.at_ ((HE0.out.but Kl0.out (But.freshIn HC7.out hb0 (by simp only [List.mem_cons, List.not_mem_nil, or_false, forall_eq_or_imp, forall_eq]; omega))).tab.below e.same)
    simp only [pick, List.getElem?_toArray, List.getElem?_cons_succ, List.getElem?_cons_zero, Option.toList_some, List.cons_append, List.nil_append]
    repeat (first | (go_big_quiet_want; refine quiet_load_blk 23 _ rfl (w5.heap.size) rfl _ x0 _ Tryd.underlying23 rfl 32 size_digest HR1.out.size ?_; go_big_quiet_on; simp only [Act.put, List.setIfInBounds_toArray, List.set_cons_zero, List.set_cons_succ]) | (go_big_quiet_want; refine quiet_load_blk 23 _ rfl (w5.heap.size + 1) rfl _ x1 _ Tryd.underlying23 rfl 32 size_digest HR2.out.size ?_; go_big_quiet_on; simp only [Act.put, List.setIfInBounds_toArray, List.set_cons_zero, List.set_cons_succ]) | (go_big_quiet_want; refine quiet_load_blk 23 _ rfl (b9) rfl _ x2 _ Tryd.underlying23 rfl 32 size_digest HO.out.size ?_; go_big_quiet_on; simp only [Act.put, List.setIfInBounds_toArray, List.set_cons_zero, List.set_cons_succ]) | go_big_quiet_step (first | (go_at_call 57; with_reducible exact Calls.ext (c0 _))))
    exact wpQuiet_nil rfl
  refine FlowB.AlChk.nil ?_
  refine FlowB.Walk.skips rfl (fun wz => Blk wz (w.heap.size) (R1.map (Value.int .u8)).toArray 23 ∧ Blk wz (w.heap.size + 1) #[.int .u8 0, .int .u8 0, .int .u8 0, .int .u8 0, .int .u8 0, .int .u8 0, .int .u8 0, .int .u8 0, .int .u8 0, .int .u8 0, .int .u8 0, .int .u8 0, .int .u8 0, .int .u8 0, .int .u8 0, .int .u8 0, .int .u8 0, .int .u8 0, .int .u8 0, .int .u8 0, .int .u8 0, .int .u8 0, .int .u8 0, .int .u8 0, .int .u8 0, .int .u8 0, .int .u8 0, .int .u8 0, .int .u8 0, .int .u8 0, .int .u8 0, .int .u8 0] 23) (fun _ _ h hb => ⟨h.1.below hb, h.2.below hb⟩) rfl (fun w1 hb1 hF1 hG1 => ?_) ?_
  · exact FlowB.store_skips 23 _ _ rfl (w.heap.size) (R1.map (Value.int .u8)).toArray rfl rfl _ 23 hG1.1 32 size_digest rfl HR1.out.size (ints_one _ _) (by simp) (fun w2 h2 h3 => ⟨h3, h2.blk hG1.2 (by omega)⟩)
  intro w1 hb1 hF1
  apply Exists.intro
  refine ⟨fun w2 hb2 hF2 => wpQuiet_nil rfl, ?_⟩
  refine FlowB.AlChk.nil ?_
  refine FlowB.Walk.skips rfl (fun wz => Blk wz (w.heap.size) (R1.map (Value.int .u8)).toArray 23 ∧ Blk wz (w.heap.size + 1) (X9.map (Value.int .u8)).toArray 23) (fun _ _ h hb => ⟨h.1.below hb, h.2.below hb⟩) rfl (fun w1 hb1 hF1 hG1 => ?_) ?_
  · exact FlowB.store_skips 23 _ _ rfl (w.heap.size + 1) (X9.map (Value.int .u8)).toArray rfl rfl _ 23 hG1.2 32 size_digest rfl HX9.out.size (ints_one _ _) (by simp) (fun w2 h2 h3 => ⟨h2.blk hG1.1 (by omega), h3⟩)
  intro w1 hb1 hF1
  apply Exists.intro
  refine ⟨fun w2 hb2 hF2 => wpQuiet_nil rfl, ?_⟩
  refine FlowB.AlChk.nil ?_
  refine FlowB.Walk.fin fun w1 hw1 _ hGw1 => ?_
  simp only [List.drop_succ_cons, List.drop_zero]
  have HIw1 := hid hw1
  have HGw1 := hid hGw1
  clear hw1 hGw1
  go_wp2_with fail
  exact bodyPost_ret (v := .tuple #[.agg (R1.map (Value.int .u8)).toArray, .agg (X9.map (Value.int .u8)).toArray]) (results_blk2 Tryd.results58 _ (w.heap.size) (w.heap.size + 1) rfl rfl _ _ 23 HGw1.out.1 HGw1.out.2 _ Tryd.underlying23 rfl 32 size_digest HR1.out.size HX9.out.size) rfl ⟨rfl, (But.freshIn HC7.out HIw1.out (by simp only [List.mem_cons, List.not_mem_nil, or_false, forall_eq_or_imp, forall_eq]; omega)), (HIw1.out.blk Klw7.out (by simp only [List.mem_cons, List.not_mem_nil, or_false]; omega))⟩
set_option maxHeartbeats 4000000 in
theorem gro_r (m n k : Nat) (cut : Bool) (left : Int) (ba bt bs bl bw : Nat) (A : List Int) (ya : Option Addr) (yn yc : Nat) (ds : List (List Int)) (w : World) (he : GEnv w ba bt bs bl bw A ya yn yc ds) (kl : Blk w bl #[.int .i64 left] 3) (hmn : m < n) (hn : 2 ≤ n) (hn2 : n ≤ 200) (hkk : halfN n = k) (hik : ¬ m ≤ k) (hlo : -1000 ≤ left) (hhi : left ≤ yn) (hyn : yn ≤ 1000000)
    (R1 R2 : List Int) (L2 : Int) (hR1 : Dg R1) (hR2 : Dg R2) (ca : ∀ W : World, GEnv W ba bt bs bl bw A ya yn yc ds → Blk W bl #[.int .i64 (left - 1)] 3 → Calls Tryd.prog 58 #[.int .i64 ((m : Int) - (k : Int)), .int .i64 ((n : Int) - (k : Int)), .bool true, .pointer (some ⟨ba, 0, none⟩), .pointer (some ⟨bt, 0, none⟩), .pointer (some ⟨bs, 0, none⟩)] W fun e w' => e = .returned (.tuple #[.agg (R1.map (Value.int .u8)).toArray, .agg (R2.map (Value.int .u8)).toArray]) ∧ But bl W w' ∧ Blk w' bl #[.int .i64 L2] 3) :
    Calls Tryd.prog 58 #[.int .i64 m, .int .i64 n, .bool cut, .pointer (some ⟨ba, 0, none⟩), .pointer (some ⟨bt, 0, none⟩), .pointer (some ⟨bs, 0, none⟩)] w fun e w' => e = .returned (.tuple #[.agg ((nodeL (takeZ ds left) R1).map (Value.int .u8)).toArray, .agg ((nodeL (takeZ ds left) R2).map (Value.int .u8)).toArray]) ∧ But bl w w' ∧ Blk w' bl #[.int .i64 L2] 3 := by
  obtain ⟨hk1, hk2⟩ := halfN_lt hn
  rw [hkk] at hk1 hk2
  have hmI : ¬ ((m : Int) = (n : Int)) := by omega
  have CH := hid (fun W : World => (lohalf_any n W hn (by omega)).mono (fun e w' (h : e = .returned (.int .i64 (halfN n : Int)) ∧ w' = W) => show e = .returned (.int .i64 (halfN n : Int)) ∧ Below W.heap.size W w' from ⟨h.1, by rw [h.2]; exact Below.refl _ _⟩))
  rw [hkk] at CH
  have CT := hid (fun (W : World) (h : GEnv W ba bt bs bl bw A ya yn yc ds) (k1 : Blk W bl #[.int .i64 left] 3) => gtake_any h k1 hlo hhi hyn)
  have CA := hid ca
  have hwl := he.way.length
  have HO := hid (Dg.take he.way.each (left := left) (by omega))
  have HR1 := hid hR1
  have HR2 := hid hR2
  generalize takeZ ds left = O at *
  have CN := hid (fun (W : World) (t : ShaTab W) => lonode_any O R1 W HO.out HR1.out t)
  have CM := hid (fun (W : World) (t : ShaTab W) => lonode_any O R2 W HO.out HR2.out t)
  have HX8 := hid (Dg.nodeL O R1)
  have HX9 := hid (Dg.nodeL O R2)
  generalize nodeL O R1 = X8 at *
  generalize nodeL O R2 = X9 at *
  have hikI : ¬ ((m : Int) ≤ k) := by omega
  have hw1 : wrap64 ((n : Int) - (k : Int)) = (n : Int) - (k : Int) := by unfold wrap64; omega
  have hw2 : wrap64 ((m : Int) - (k : Int)) = (m : Int) - (k : Int) := by unfold wrap64; omega
  clear ca hR1 hR2 hkk hwl
  have b1 := (Below.refl w.heap.size w).alloc (Nat.le_refl _) (.cells #[.int .u8 0, .int .u8 0, .int .u8 0, .int .u8 0, .int .u8 0, .int .u8 0, .int .u8 0, .int .u8 0, .int .u8 0, .int .u8 0, .int .u8 0, .int .u8 0, .int .u8 0, .int .u8 0, .int .u8 0, .int .u8 0, .int .u8 0, .int .u8 0, .int .u8 0, .int .u8 0, .int .u8 0, .int .u8 0, .int .u8 0, .int .u8 0, .int .u8 0, .int .u8 0, .int .u8 0, .int .u8 0, .int .u8 0, .int .u8 0, .int .u8 0, .int .u8 0] 23 (0, 0))
  have b2 := b1.alloc b1.size (.cells #[.int .u8 0, .int .u8 0, .int .u8 0, .int .u8 0, .int .u8 0, .int .u8 0, .int .u8 0, .int .u8 0, .int .u8 0, .int .u8 0, .int .u8 0, .int .u8 0, .int .u8 0, .int .u8 0, .int .u8 0, .int .u8 0, .int .u8 0, .int .u8 0, .int .u8 0, .int .u8 0, .int .u8 0, .int .u8 0, .int .u8 0, .int .u8 0, .int .u8 0, .int .u8 0, .int .u8 0, .int .u8 0, .int .u8 0, .int .u8 0, .int .u8 0, .int .u8 0] 23 (0, 0))
  have Kr1 := hid ((Blk.new (w := w) (n := w.heap.size) rfl #[.int .u8 0, .int .u8 0, .int .u8 0, .int .u8 0, .int .u8 0, .int .u8 0, .int .u8 0, .int .u8 0, .int .u8 0, .int .u8 0, .int .u8 0, .int .u8 0, .int .u8 0, .int .u8 0, .int .u8 0, .int .u8 0, .int .u8 0, .int .u8 0, .int .u8 0, .int .u8 0, .int .u8 0, .int .u8 0, .int .u8 0, .int .u8 0, .int .u8 0, .int .u8 0, .int .u8 0, .int .u8 0, .int .u8 0, .int .u8 0, .int .u8 0, .int .u8 0] 23).old (.cells #[.int .u8 0, .int .u8 0, .int .u8 0, .int .u8 0, .int .u8 0, .int .u8 0, .int .u8 0, .int .u8 0, .int .u8 0, .int .u8 0, .int .u8 0, .int .u8 0, .int .u8 0, .int .u8 0, .int .u8 0, .int .u8 0, .int .u8 0, .int .u8 0, .int .u8 0, .int .u8 0, .int .u8 0, .int .u8 0, .int .u8 0, .int .u8 0, .int .u8 0, .int .u8 0, .int .u8 0, .int .u8 0, .int .u8 0, .int .u8 0, .int .u8 0, .int .u8 0] 23 (0, 0)))
  have Kr2 := hid (Blk.new (w := (w.alloc (.cells #[.int .u8 0, .int .u8 0, .int .u8 0, .int .u8 0, .int .u8 0, .int .u8 0, .int .u8 0, .int .u8 0, .int .u8 0, .int .u8 0, .int .u8 0, .int .u8 0, .int .u8 0, .int .u8 0, .int .u8 0, .int .u8 0, .int .u8 0, .int .u8 0, .int .u8 0, .int .u8 0, .int .u8 0, .int .u8 0, .int .u8 0, .int .u8 0, .int .u8 0, .int .u8 0, .int .u8 0, .int .u8 0, .int .u8 0, .int .u8 0, .int .u8 0, .int .u8 0] 23 (0, 0)))) (n := w.heap.size + 1) (by simp only [World.size_alloc]) #[.int .u8 0, .int .u8 0, .int .u8 0, .int .u8 0, .int .u8 0, .int .u8 0, .int .u8 0, .int .u8 0, .int .u8 0, .int .u8 0, .int .u8 0, .int .u8 0, .int .u8 0, .int .u8 0, .int .u8 0, .int .u8 0, .int .u8 0, .int .u8 0, .int .u8 0, .int .u8 0, .int .u8 0, .int .u8 0, .int .u8 0, .int .u8 0, .int .u8 0, .int .u8 0, .int .u8 0, .int .u8 0, .int .u8 0, .int .u8 0, .int .u8 0, .int .u8 0] 23)
  have Hb := hid b2
  have hbz := b2.size
  have Hbs := hid (show w.heap.size + 1 + 1 = ((w.alloc (.cells #[.int .u8 0, .int .u8 0, .int .u8 0, .int .u8 0, .int .u8 0, .int .u8 0, .int .u8 0, .int .u8 0, .int .u8 0, .int .u8 0, .int .u8 0, .int .u8 0, .int .u8 0, .int .u8 0, .int .u8 0, .int .u8 0, .int .u8 0, .int .u8 0, .int .u8 0, .int .u8 0, .int .u8 0, .int .u8 0, .int .u8 0, .int .u8 0, .int .u8 0, .int .u8 0, .int .u8 0, .int .u8 0, .int .u8 0, .int .u8 0, .int .u8 0, .int .u8 0] 23 (0, 0))).alloc (.cells #[.int .u8 0, .int .u8 0, .int .u8 0, .int .u8 0, .int .u8 0, .int .u8 0, .int .u8 0, .int .u8 0, .int .u8 0, .int .u8 0, .int .u8 0, .int .u8 0, .int .u8 0, .int .u8 0, .int .u8 0, .int .u8 0, .int .u8 0, .int .u8 0, .int .u8 0, .int .u8 0, .int .u8 0, .int .u8 0, .int .u8 0, .int .u8 0, .int .u8 0, .int .u8 0, .int .u8 0, .int .u8 0, .int .u8 0, .int .u8 0, .int .u8 0, .int .u8 0] 23 (0, 0))).heap.size by simp only [World.size_alloc])
  clear b1 b2 
  have HE0 := hid he
  have Kl0 := hid kl
  have HE := hid (he.but kl (But.of Hb.out))
  have Kl := hid (kl.below Hb.out)
  have hbl := kl.lt
  have hbA := he.kb.lt
  have hllt := Kl.out.lt
  clear he kl
  go_enter Tryd.func58, Tryd.ntmps58
  go_wp2_with fail
  refine FlowB.wp_region_butIn [bl] (fun wz => Blk wz bl #[.int .i64 left] 3) 5 [0, 1, 2] [4] [(.c 3, [], []), (.b 4, [], [])] (by kernel_rfl) (by kernel_rfl) Kl.out (fun _ _ h hb => h.below hb) ?_
  apply Exists.intro
  refine ⟨fun w0 hb0 hF0 => ?_, ?_⟩
  · skip
    have yt : ∀ w', (∃ x : Ext w0, w' = x.at_) → w'.cell? ⟨bt, 0, none⟩ = some (.func (.func 75) #[] #[.pointer (some ⟨bl, 0, none⟩), .pointer (some ⟨bw, 0, none⟩)]) := fun w' ⟨x, hx⟩ => by rw [hx, ((((HE.out.but Kl.out (but_of_in hb0)).kt).below x.same)).cell]; rfl
    have c0 := fun e : Ext w0 => CH.out e.at_
    simp only [pick, List.getElem?_toArray, List.getElem?_cons_succ, List.getElem?_cons_zero, Option.toList_some, List.cons_append, List.nil_append]
    repeat (first | (go_big_quiet_want; refine quiet_load_one 88 _ rfl ⟨bt, 0, none⟩ rfl _ yt _ Tryd.underlying88 rfl ?_; go_big_quiet_on; simp only [Act.put, List.setIfInBounds_toArray, List.set_cons_zero, List.set_cons_succ]) | go_big_quiet_step ((go_at_call 56; with_reducible exact Calls.ext (c0 _))))
    exact wpQuiet_nil rfl
  refine FlowB.AlChk.one rfl (fun b => .pointer (some ⟨b, 0, none⟩)) (.cells (byteCells 32 []) 23 (0, 0)) rfl (st_butIn _ (by simp only [World.size_alloc]; omega)) (fun w2 hb2 hF2 => by go_simp; rfl) ?_
  refine FlowB.AlChk.nil ?_
  refine FlowB.Walk.call rfl 75 #[.pointer (some ⟨bl, 0, none⟩), .pointer (some ⟨bw, 0, none⟩)] (fun v _ => v = .agg (O.map (Value.int .u8)).toArray) (fun _ w' => Blk w' bl #[.int .i64 (left - 1)] 3) (fun _ _ _ _ h _ => h) (fun _ _ _ h k => h.below k) rfl (fun w1 hb1 hF1 hG1 => ⟨by go_simp, ?_⟩) ?_
  · refine (CT.out w1 (HE.out.but Kl.out (but_of_in hb1)) hG1).mono ?_
    rintro e w2 ⟨rfl, b2, k2⟩
    exact ⟨_, rfl, FlowB.ButIn.of_but b2 (by simp), rfl, k2⟩
  rintro v1 w1 hb1 hF1 rfl
  apply Exists.intro
  refine ⟨fun w2 hb2 hF2 => wpQuiet_nil rfl, ?_⟩
  refine FlowB.AlChk.nil ?_
  refine FlowB.Walk.blk rfl (fun b => .pointer (some ⟨b, 0, none⟩)) (.cells (byteCells 32 []) 23 (0, 0)) (by simp) ?_
  intro b9 wz hbz_ hFz hge9 _
  apply Exists.intro
  refine ⟨fun w2 hb2 hF2 => wpQuiet_nil rfl, ?_⟩
  refine FlowB.AlChk.nil ?_
  refine FlowB.Walk.fin fun w3 h3 hF3 hG3 => ?_
  simp only [List.drop_succ_cons, List.drop_zero]
  have HB3 := hid (but_of_in h3)
  have K93 := hid (show Blk w3 b9 (byteCells 32 []) 23 from hF3.2)
  have Kl3 := hid (show Blk w3 bl #[.int .i64 (left - 1)] 3 from hG3)
  rw [← Hbs.out] at hge9
  have Kr13 := hid (HB3.out.blk Kr1.out (by omega))
  have Kr23 := hid (HB3.out.blk Kr2.out (by omega))
  clear h3 hF3 hG3 hbz_ hFz
  go_wp2_with (
        refine wpList_store_blk rfl 23 _ _ rfl b9 (O.map (Value.int .u8)).toArray rfl rfl _ 23 K93.out 32 size_digest zsize HO.out.size (ints_one _ _) ?_
        intro w4 hb4 hk4
        have HB4 := hid (But.fresh HB3.out hb4 (by rw [← Hbs.out]; omega))
        have K94 := hid hk4
        have Kl4 := hid (hb4.blk Kl3.out (by omega))
        have Kr14 := hid (hb4.blk Kr13.out (by omega))
        have Kr24 := hid (hb4.blk Kr23.out (by omega))
        have HE4 := hid (HE.out.but Kl.out HB4.out)
        have hs94 := K94.out.lt
        have cg4 : w4.cell? ⟨bs, 0, none⟩ = some (.func (.func 58) #[] #[.pointer (some ⟨ba, 0, none⟩), .pointer (some ⟨bt, 0, none⟩), .pointer (some ⟨bs, 0, none⟩)]) := by rw [HE4.out.ka.cell]; rfl
        clear hb4 hk4)
  skip
  refine (CA.out w4 HE4.out Kl4.out).mono ?_
  rintro e w5 ⟨rfl, b5, k5⟩
  have HB5 := hid (But.trans HB4.out b5)
  have Kl5 := hid k5
  have Kr15 := hid (b5.blk Kr14.out (by omega))
  have Kr25 := hid (b5.blk Kr24.out (by omega))
  have K95 := hid (b5.blk K94.out (by omega))
  have hs5 := K95.out.lt
  have hs5b := Kr25.out.lt
  have hs5c := Kl5.out.lt
  clear b5 k5
  go_wp2_with (first
     | (
        refine wpList_store_blk rfl 23 _ _ rfl (w5.heap.size) (R1.map (Value.int .u8)).toArray rfl rfl _ 23 ((Blk.new rfl (byteCells 32 []) _).old _) 32 size_digest zsize HR1.out.size (ints_one _ _) ?_
        intro w6 hb6 hk6
        have h6 := hb6.below (((Below.refl w5.heap.size w5).alloc (Nat.le_refl _) _).alloc (by simp only [World.size_alloc]; omega) _) (by simp only [World.size_alloc]; omega) (Nat.le_refl _)
        have H6 := hid h6
        have Ku6 := hid hk6
        have Kv6 := hid (hb6.blk (Blk.new (n := w5.heap.size + 1) (by simp only [World.size_alloc]) (byteCells 32 []) 23) (by omega))
        clear hb6 hk6 h6)
     | (
        refine wpList_store_blk rfl 23 _ _ rfl (w5.heap.size + 1) (R2.map (Value.int .u8)).toArray rfl rfl _ 23 Kv6.out 32 size_digest zsize HR2.out.size (ints_one _ _) ?_
        intro w7 hb7 hk7
        have h7 := hb7.below H6.out H6.out.size (by omega)
        have HC7 := hid (But.trans (But.of Hb.out) (But.trans HB5.out (But.of h7)))
        have Kuw7 := hid (hb7.blk Ku6.out (by omega))
        have Kvw7 := hid hk7
        have Kr1w7 := hid (Kr15.out.below h7)
        have Kr2w7 := hid (Kr25.out.below h7)
        have Kow7 := hid (K95.out.below h7)
        have Klw7 := hid (Kl5.out.below h7)
        clear hb7 hk7 h7))
  simp only [Act.put]
  refine FlowB.wp_region_butIn [w.heap.size, w.heap.size + 1] (fun wz => Blk wz (w.heap.size) #[.int .u8 0, .int .u8 0, .int .u8 0, .int .u8 0, .int .u8 0, .int .u8 0, .int .u8 0, .int .u8 0, .int .u8 0, .int .u8 0, .int .u8 0, .int .u8 0, .int .u8 0, .int .u8 0, .int .u8 0, .int .u8 0, .int .u8 0, .int .u8 0, .int .u8 0, .int .u8 0, .int .u8 0, .int .u8 0, .int .u8 0, .int .u8 0, .int .u8 0, .int .u8 0, .int .u8 0, .int .u8 0, .int .u8 0, .int .u8 0, .int .u8 0, .int .u8 0] 23 ∧ Blk wz (w.heap.size + 1) #[.int .u8 0, .int .u8 0, .int .u8 0, .int .u8 0, .int .u8 0, .int .u8 0, .int .u8 0, .int .u8 0, .int .u8 0, .int .u8 0, .int .u8 0, .int .u8 0, .int .u8 0, .int .u8 0, .int .u8 0, .int .u8 0, .int .u8 0, .int .u8 0, .int .u8 0, .int .u8 0, .int .u8 0, .int .u8 0, .int .u8 0, .int .u8 0, .int .u8 0, .int .u8 0, .int .u8 0, .int .u8 0, .int .u8 0, .int .u8 0, .int .u8 0, .int .u8 0] 23) 8 [0, 1, 2, 3, 4, 5] [] [(.c 6, [], []), (.c 7, [], [])] (by kernel_rfl) (by kernel_rfl) ⟨Kr1w7.out, Kr2w7.out⟩ (fun _ _ h hb => ⟨h.1.below hb, h.2.below hb⟩) ?_
  apply Exists.intro
  refine ⟨fun w0 hb0 hF0 => ?_, ?_⟩
  · skip
    have x0 : ∀ w', (∃ x : Ext w0, w' = x.at_) → ∃ T, Blk w' (w5.heap.size) (R1.map (Value.int .u8)).toArray T := fun w' ⟨x, hx⟩ => ⟨_, hx ▸ (hb0.blk Kuw7.out (by simp only [List.mem_cons, List.not_mem_nil, or_false]; omega)).below x.same⟩
    have x1 : ∀ w', (∃ x : Ext w0, w' = x.at_) → ∃ T, Blk w' (w5.heap.size + 1) (R2.map (Value.int .u8)).toArray T := fun w' ⟨x, hx⟩ => ⟨_, hx ▸ (hb0.blk Kvw7.out (by simp only [List.mem_cons, List.not_mem_nil, or_false]; omega)).below x.same⟩
    have x2 : ∀ w', (∃ x : Ext w0, w' = x.at_) → ∃ T, Blk w' (b9) (O.map (Value.int .u8)).toArray T := fun w' ⟨x, hx⟩ => ⟨_, hx ▸ (hb0.blk Kow7.out (by simp only [List.mem_cons, List.not_mem_nil, or_false]; omega)).below x.same⟩
    have c0 := fun e : Ext w0 => CN.out e.at_ ((HE0.out.but Kl0.out (But.freshIn HC7.out hb0 (by simp only [List.mem_cons, List.not_mem_nil, or_false, forall_eq_or_imp, forall_eq]; omega))).tab.below e.same)
    have c1 := fun e : Ext w0 => CM.out e.at_ ((HE0.out.but Kl0.out (But.freshIn HC7.out hb0 (by simp only [List.mem_cons, List.not_mem_nil, or_false, forall_eq_or_imp, forall_eq]; omega))).tab.below e.same)
    simp only [pick, List.getElem?_toArray, List.getElem?_cons_succ, List.getElem?_cons_zero, Option.toList_some, List.cons_append, List.nil_append]
    repeat (first | (go_big_quiet_want; refine quiet_load_blk 23 _ rfl (w5.heap.size) rfl _ x0 _ Tryd.underlying23 rfl 32 size_digest HR1.out.size ?_; go_big_quiet_on; simp only [Act.put, List.setIfInBounds_toArray, List.set_cons_zero, List.set_cons_succ]) | (go_big_quiet_want; refine quiet_load_blk 23 _ rfl (w5.heap.size + 1) rfl _ x1 _ Tryd.underlying23 rfl 32 size_digest HR2.out.size ?_; go_big_quiet_on; simp only [Act.put, List.setIfInBounds_toArray, List.set_cons_zero, List.set_cons_succ]) | (go_big_quiet_want; refine quiet_load_blk 23 _ rfl (b9) rfl _ x2 _ Tryd.underlying23 rfl 32 size_digest HO.out.size ?_; go_big_quiet_on; simp only [Act.put, List.setIfInBounds_toArray, List.set_cons_zero, List.set_cons_succ]) | go_big_quiet_step (first | (go_at_call 57; with_reducible exact Calls.ext (c0 _)) | (go_at_call 57; with_reducible exact Calls.ext (c1 _))))
    exact wpQuiet_nil rfl
  refine FlowB.AlChk.nil ?_
  refine FlowB.Walk.skips rfl (fun wz => Blk wz (w.heap.size) (X8.map (Value.int .u8)).toArray 23 ∧ Blk wz (w.heap.size + 1) #[.int .u8 0, .int .u8 0, .int .u8 0, .int .u8 0, .int .u8 0, .int .u8 0, .int .u8 0, .int .u8 0, .int .u8 0, .int .u8 0, .int .u8 0, .int .u8 0, .int .u8 0, .int .u8 0, .int .u8 0, .int .u8 0, .int .u8 0, .int .u8 0, .int .u8 0, .int .u8 0, .int .u8 0, .int .u8 0, .int .u8 0, .int .u8 0, .int .u8 0, .int .u8 0, .int .u8 0, .int .u8 0, .int .u8 0, .int .u8 0, .int .u8 0, .int .u8 0] 23) (fun _ _ h hb => ⟨h.1.below hb, h.2.below hb⟩) rfl (fun w1 hb1 hF1 hG1 => ?_) ?_
  · exact FlowB.store_skips 23 _ _ rfl (w.heap.size) (X8.map (Value.int .u8)).toArray rfl rfl _ 23 hG1.1 32 size_digest rfl HX8.out.size (ints_one _ _) (by simp) (fun w2 h2 h3 => ⟨h3, h2.blk hG1.2 (by omega)⟩)
  intro w1 hb1 hF1
  apply Exists.intro
  refine ⟨fun w2 hb2 hF2 => wpQuiet_nil rfl, ?_⟩
  refine FlowB.AlChk.nil ?_
  refine FlowB.Walk.skips rfl (fun wz => Blk wz (w.heap.size) (X8.map (Value.int .u8)).toArray 23 ∧ Blk wz (w.heap.size + 1) (X9.map (Value.int .u8)).toArray 23) (fun _ _ h hb => ⟨h.1.below hb, h.2.below hb⟩) rfl (fun w1 hb1 hF1 hG1 => ?_) ?_
  · exact FlowB.store_skips 23 _ _ rfl (w.heap.size + 1) (X9.map (Value.int .u8)).toArray rfl rfl _ 23 hG1.2 32 size_digest rfl HX9.out.size (ints_one _ _) (by simp) (fun w2 h2 h3 => ⟨h2.blk hG1.1 (by omega), h3⟩)
  intro w1 hb1 hF1
  apply Exists.intro
  refine ⟨fun w2 hb2 hF2 => wpQuiet_nil rfl, ?_⟩
  refine FlowB.AlChk.nil ?_
  refine FlowB.Walk.fin fun w1 hw1 _ hGw1 => ?_
  simp only [List.drop_succ_cons, List.drop_zero]
  have HIw1 := hid hw1
  have HGw1 := hid hGw1
  clear hw1 hGw1
  go_wp2_with fail
  exact bodyPost_ret (v := .tuple #[.agg (X8.map (Value.int .u8)).toArray, .agg (X9.map (Value.int .u8)).toArray]) (results_blk2 Tryd.results58 _ (w.heap.size) (w.heap.size + 1) rfl rfl _ _ 23 HGw1.out.1 HGw1.out.2 _ Tryd.underlying23 rfl 32 size_digest HX8.out.size HX9.out.size) rfl ⟨rfl, (But.freshIn HC7.out HIw1.out (by simp only [List.mem_cons, List.not_mem_nil, or_false, forall_eq_or_imp, forall_eq]; omega)), (HIw1.out.blk Klw7.out (by simp only [List.mem_cons, List.not_mem_nil, or_false]; omega))⟩
theorem Dg.groZ {A : List Int} {ds : List (List Int)} (hA : Dg A) (hd : ∀ d ∈ ds, Dg d) (f : Nat) : ∀ m n cut (left : Int), left ≤ ds.length → Dg (groZ f A m n cut ds left).1.1 ∧ Dg (groZ f A m n cut ds left).1.2 := by
  induction f with
  | zero => intro m n cut left _; exact ⟨hA, hA⟩
  | succ f ih =>
    intro m n cut left hl
    unfold Go.Proofs.YtkakoiaahgchmaaDoor.groZ
    split
    · split
      · exact ⟨Dg.take hd hl, Dg.take hd hl⟩
      · exact ⟨hA, hA⟩
    · split
      · exact ⟨(ih _ _ _ _ (by omega)).1, Dg.nodeL _ _⟩
      · exact ⟨Dg.nodeL _ _, Dg.nodeL _ _⟩
set_option maxHeartbeats 4000000 in
theorem gro_any (f : Nat) : ∀ (m n : Nat) (cut : Bool) (left : Int) (ba bt bs bl bw : Nat) (A : List Int) (ya : Option Addr) (yn yc : Nat) (ds : List (List Int)) (w : World), GEnv w ba bt bs bl bw A ya yn yc ds → Blk w bl #[.int .i64 left] 3 → Dg A → 1 ≤ m → m ≤ n → n ≤ f → n ≤ 200 → (f : Int) - 1000 ≤ left → left ≤ yn → yn ≤ 1000000 →
    Calls Tryd.prog 58 #[.int .i64 m, .int .i64 n, .bool cut, .pointer (some ⟨ba, 0, none⟩), .pointer (some ⟨bt, 0, none⟩), .pointer (some ⟨bs, 0, none⟩)] w fun e w' => e = .returned (.tuple #[.agg ((groZ f A m n cut ds left).1.1.map (Value.int .u8)).toArray, .agg ((groZ f A m n cut ds left).1.2.map (Value.int .u8)).toArray]) ∧ But bl w w' ∧ Blk w' bl #[.int .i64 (groZ f A m n cut ds left).2] 3 := by
  induction f with
  | zero => intro m n cut left ba bt bs bl bw A ya yn yc ds w he kl hA h1 h2 h3; omega
  | succ f ih =>
    intro m n cut left ba bt bs bl bw A ya yn yc ds w he kl hA h1 h2 h3 h4 h5 h6 h7
    have hwl := he.way.length
    have hdd := he.way.each
    rcases Nat.eq_or_lt_of_le h2 with rfl | hlt
    · rw [groZ, if_pos rfl]
      cases cut with
      | false =>
        rw [if_neg (by simp)]
        exact gro_same (m : Int) left ba bt bs bl bw A ya yn yc ds w he kl hA
      | true =>
        rw [if_pos rfl]
        exact gro_cut (m : Int) left ba bt bs bl bw A ya yn yc ds w he kl hA (by omega) h6 h7
    · obtain ⟨hk1, hk2⟩ := halfN_lt (n := n) (by omega)
      rw [groZ, if_neg (by omega)]
      by_cases hik : m ≤ halfN n
      · rw [if_pos hik]
        have hg := Dg.groZ hA hdd f m (halfN n) cut (left - 1) (by omega)
        exact gro_l m n (halfN n) cut left ba bt bs bl bw A ya yn yc ds w he kl hlt (by omega) h4 rfl hik (by omega) h6 h7 _ _ _ hg.1 hg.2 (fun W hW kW => ih m (halfN n) cut (left - 1) ba bt bs bl bw A ya yn yc ds W hW kW hA h1 hik (by omega) (by omega) (by omega) (by omega) h7)
      · rw [if_neg hik]
        have hg := Dg.groZ hA hdd f (m - halfN n) (n - halfN n) true (left - 1) (by omega)
        exact gro_r m n (halfN n) cut left ba bt bs bl bw A ya yn yc ds w he kl hlt (by omega) h4 rfl hik (by omega) h6 h7 _ _ _ hg.1 hg.2 (fun W hW kW => by
          have := ih (m - halfN n) (n - halfN n) true (left - 1) ba bt bs bl bw A ya yn yc ds W hW kW hA (by omega) (by omega) (by omega) (by omega) (by omega) (by omega) h7
          rw [show ((n - halfN n : Nat) : Int) = (n : Int) - (halfN n : Int) by omega, show ((m - halfN n : Nat) : Int) = (m : Int) - (halfN n : Int) by omega] at this
          exact this)
end Go.Proofs.YtkakoiaahgchmaaDoor
namespace Go.Proofs.YtkakoiaahgchmaaDoor
set_option maxRecDepth 100000
open Go.ChangeShapes Go.WideShapes Go.ChangeAt Go.RowKit
theorem size_f101 : (Tryd.prog.info? 93).map (·.size) = some 1 := by kernel_rfl
set_option maxHeartbeats 4000000 in
theorem grows_noa (A B : List Int) (m n : Int) (ya : Option Addr) (yn yc : Nat) (w : World) (_hA : Dg A) (_hB : Dg B) (h : m < 1) :
    Calls Tryd.prog 31 #[.agg (A.map (Value.int .u8)).toArray, .int .i64 m, .agg (B.map (Value.int .u8)).toArray, .int .i64 n, .slice ya yn yc] w fun e w' => e = .returned (.bool false) ∧ Below w.heap.size w w' := by
  have b1 := (Below.refl w.heap.size w).alloc (Nat.le_refl _) (.cells (A.map (Value.int .u8)).toArray 23 (0, 0))
  have b2 := b1.alloc b1.size (.cells (B.map (Value.int .u8)).toArray 23 (0, 0))
  have Ka := hid ((Blk.new (w := w) (n := w.heap.size) rfl (A.map (Value.int .u8)).toArray 23).old (.cells (B.map (Value.int .u8)).toArray 23 (0, 0)))
  have Kb := hid (Blk.new (w := (w.alloc (.cells (A.map (Value.int .u8)).toArray 23 (0, 0)))) (n := w.heap.size + 1) (by simp only [World.size_alloc]) (B.map (Value.int .u8)).toArray 23)
  have Hb := hid b2
  have hbz := b2.size
  have Hbs := hid (show w.heap.size + 1 + 1 = ((w.alloc (.cells (A.map (Value.int .u8)).toArray 23 (0, 0))).alloc (.cells (B.map (Value.int .u8)).toArray 23 (0, 0))).heap.size by simp only [World.size_alloc])
  clear b1 b2 
  go_enter Tryd.func31, Tryd.ntmps31
  go_wp2_with fail
  go_returns
  exact ⟨rfl, Hb.out⟩
set_option maxHeartbeats 4000000 in
theorem grows_nob (A B : List Int) (m n : Int) (ya : Option Addr) (yn yc : Nat) (w : World) (_hA : Dg A) (_hB : Dg B) (h1 : ¬ m < 1) (h : n < m) :
    Calls Tryd.prog 31 #[.agg (A.map (Value.int .u8)).toArray, .int .i64 m, .agg (B.map (Value.int .u8)).toArray, .int .i64 n, .slice ya yn yc] w fun e w' => e = .returned (.bool false) ∧ Below w.heap.size w w' := by
  have b1 := (Below.refl w.heap.size w).alloc (Nat.le_refl _) (.cells (A.map (Value.int .u8)).toArray 23 (0, 0))
  have b2 := b1.alloc b1.size (.cells (B.map (Value.int .u8)).toArray 23 (0, 0))
  have Ka := hid ((Blk.new (w := w) (n := w.heap.size) rfl (A.map (Value.int .u8)).toArray 23).old (.cells (B.map (Value.int .u8)).toArray 23 (0, 0)))
  have Kb := hid (Blk.new (w := (w.alloc (.cells (A.map (Value.int .u8)).toArray 23 (0, 0)))) (n := w.heap.size + 1) (by simp only [World.size_alloc]) (B.map (Value.int .u8)).toArray 23)
  have Hb := hid b2
  have hbz := b2.size
  have Hbs := hid (show w.heap.size + 1 + 1 = ((w.alloc (.cells (A.map (Value.int .u8)).toArray 23 (0, 0))).alloc (.cells (B.map (Value.int .u8)).toArray 23 (0, 0))).heap.size by simp only [World.size_alloc])
  clear b1 b2 
  go_enter Tryd.func31, Tryd.ntmps31
  go_wp2_with fail
  go_returns
  exact ⟨rfl, Hb.out⟩
set_option maxHeartbeats 4000000 in
theorem grows_noc (A B : List Int) (m n : Int) (ya : Option Addr) (yn yc : Nat) (w : World) (_hA : Dg A) (_hB : Dg B) (h1 : ¬ m < 1) (h2 : ¬ n < m) (h : 200 < n) :
    Calls Tryd.prog 31 #[.agg (A.map (Value.int .u8)).toArray, .int .i64 m, .agg (B.map (Value.int .u8)).toArray, .int .i64 n, .slice ya yn yc] w fun e w' => e = .returned (.bool false) ∧ Below w.heap.size w w' := by
  have b1 := (Below.refl w.heap.size w).alloc (Nat.le_refl _) (.cells (A.map (Value.int .u8)).toArray 23 (0, 0))
  have b2 := b1.alloc b1.size (.cells (B.map (Value.int .u8)).toArray 23 (0, 0))
  have Ka := hid ((Blk.new (w := w) (n := w.heap.size) rfl (A.map (Value.int .u8)).toArray 23).old (.cells (B.map (Value.int .u8)).toArray 23 (0, 0)))
  have Kb := hid (Blk.new (w := (w.alloc (.cells (A.map (Value.int .u8)).toArray 23 (0, 0)))) (n := w.heap.size + 1) (by simp only [World.size_alloc]) (B.map (Value.int .u8)).toArray 23)
  have Hb := hid b2
  have hbz := b2.size
  have Hbs := hid (show w.heap.size + 1 + 1 = ((w.alloc (.cells (A.map (Value.int .u8)).toArray 23 (0, 0))).alloc (.cells (B.map (Value.int .u8)).toArray 23 (0, 0))).heap.size by simp only [World.size_alloc])
  clear b1 b2 
  go_enter Tryd.func31, Tryd.ntmps31
  go_wp2_with fail
  go_returns
  exact ⟨rfl, Hb.out⟩
theorem grows_bad (A B : List Int) (m n : Int) (ya : Option Addr) (yn yc : Nat) (w : World) (hA : Dg A) (hB : Dg B) (h : m < 1 ∨ n < m ∨ 200 < n) :
    Calls Tryd.prog 31 #[.agg (A.map (Value.int .u8)).toArray, .int .i64 m, .agg (B.map (Value.int .u8)).toArray, .int .i64 n, .slice ya yn yc] w fun e w' => e = .returned (.bool false) ∧ Below w.heap.size w w' := by
  by_cases h1 : m < 1
  · exact grows_noa A B m n ya yn yc w hA hB h1
  · by_cases h2 : n < m
    · exact grows_nob A B m n ya yn yc w hA hB h1 h2
    · exact grows_noc A B m n ya yn yc w hA hB h1 h2 (by omega)
set_option maxHeartbeats 4000000 in
theorem grows_good (A B : List Int) (m n : Nat) (ya : Option Addr) (yn yc : Nat) (ds : List (List Int)) (w : World) (hA : Dg A) (hB : Dg B) (hm1 : 1 ≤ m) (hmn : m ≤ n) (hn2 : n ≤ 200) (hW : DigsAt w ya yn yc ds) (hyn : yn ≤ 1000000) (tab : ShaTab w) :
    Calls Tryd.prog 31 #[.agg (A.map (Value.int .u8)).toArray, .int .i64 m, .agg (B.map (Value.int .u8)).toArray, .int .i64 n, .slice ya yn yc] w fun e w' => e = .returned (.bool (decide ((groZ n A m n false ds yn).2 = 0) && decide ((groZ n A m n false ds yn).1.1 = A) && decide ((groZ n A m n false ds yn).1.2 = B))) ∧ Below w.heap.size w w' := by
  have hI1 : ¬ ((m : Int) < 1) := by omega
  have hI2 : ¬ ((n : Int) < (m : Int)) := by omega
  have hI3 : ¬ ((200 : Int) < (n : Int)) := by omega
  have CT := hid (fun (W : World) (k : Nat) (hk : W.heap.size = k) => (hk ▸ taker_any ya yn yc W : Calls Tryd.prog 54 #[.slice ya yn yc] W fun e w' => e = .returned (.tuple #[.func (.func 75) #[] #[.pointer (some ⟨k + 1, 0, none⟩), .pointer (some ⟨k, 0, none⟩)], .func (.func 76) #[] #[.pointer (some ⟨k + 1, 0, none⟩)]]) ∧ Below W.heap.size W w' ∧ Blk w' (k + 1) #[.int .i64 yn] 3 ∧ Blk w' k #[.slice ya yn yc] 24))
  have CA := hid (fun (W : World) (ba bt bs bl bw : Nat) (h : GEnv W ba bt bs bl bw A ya yn yc ds) (k : Blk W bl #[.int .i64 (yn : Int)] 3) => gro_any n m n false (yn : Int) ba bt bs bl bw A ya yn yc ds W h k hA hm1 hmn (Nat.le_refl _) hn2 (by omega) (by omega) hyn)
  have hwl := hW.length
  have hG := Dg.groZ hA hW.each n m n false (yn : Int) (by omega)
  have HX1 := hid hG.1
  have HX2 := hid hG.2
  clear hG hwl
  generalize (groZ n A m n false ds yn).1.1 = X1 at *
  generalize (groZ n A m n false ds yn).1.2 = X2 at *
  generalize (groZ n A m n false ds yn).2 = L2 at *
  have b1 := (Below.refl w.heap.size w).alloc (Nat.le_refl _) (.cells (A.map (Value.int .u8)).toArray 23 (0, 0))
  have b2 := b1.alloc b1.size (.cells (B.map (Value.int .u8)).toArray 23 (0, 0))
  have Ka := hid ((Blk.new (w := w) (n := w.heap.size) rfl (A.map (Value.int .u8)).toArray 23).old (.cells (B.map (Value.int .u8)).toArray 23 (0, 0)))
  have Kb := hid (Blk.new (w := (w.alloc (.cells (A.map (Value.int .u8)).toArray 23 (0, 0)))) (n := w.heap.size + 1) (by simp only [World.size_alloc]) (B.map (Value.int .u8)).toArray 23)
  have Hb := hid b2
  have hbz := b2.size
  have Hbs := hid (show w.heap.size + 1 + 1 = ((w.alloc (.cells (A.map (Value.int .u8)).toArray 23 (0, 0))).alloc (.cells (B.map (Value.int .u8)).toArray 23 (0, 0))).heap.size by simp only [World.size_alloc])
  have Htab := hid tab
  clear b1 b2 tab 
  go_enter Tryd.func31, Tryd.ntmps31
  go_wp2_with fail
  refine (CT.out _ (w.heap.size + 1 + 1) (by simp only [World.size_alloc])).mono ?_
  rintro e w1 ⟨rfl, b1, kl1, kw1⟩
  have Kl1 := hid kl1
  have Kw1 := hid kw1
  have HBw1 := hid (Below.on Hb.out b1)
  have hsw1 := HBw1.out.size
  have Kaw1 := hid (Ka.out.below b1)
  have Kbw1 := hid (Kb.out.below b1)
  have hs11 : w.heap.size + 1 + 1 + 1 < w1.heap.size := kl1.lt
  clear b1 kl1 kw1
  go_wp2_with (first
     | (
        refine wpList_store_cell rfl 88 _ _ rfl (w1.heap.size) 0 (.func (.func 75) #[] #[.pointer (some ⟨w.heap.size + 1 + 1 + 1, 0, none⟩), .pointer (some ⟨w.heap.size + 1 + 1, 0, none⟩)]) rfl rfl rfl rfl #[.nilFunc] 88 (Blk.new rfl #[.nilFunc] 88) (by simp) size_f96 ?_
        intro w2 hb2 hk2
        have h2 := hb2.below ((Below.refl w1.heap.size w1).alloc (Nat.le_refl _) _) (by simp only [World.size_alloc]; omega) (Nat.le_refl _)
        have HB2 := hid (Below.on HBw1.out h2)
        have Kt2 := hid (show Blk w2 w1.heap.size #[.func (.func 75) #[] #[.pointer (some ⟨w.heap.size + 1 + 1 + 1, 0, none⟩), .pointer (some ⟨w.heap.size + 1 + 1, 0, none⟩)]] 88 from hk2)
        have Ka2 := hid (Kaw1.out.below h2)
        have Kb2 := hid (Kbw1.out.below h2)
        have Kl2 := hid (Kl1.out.below h2)
        have Kw2 := hid (Kw1.out.below h2)
        have hs2 := Kt2.out.lt
        clear hb2 hk2 h2)
     | (
        refine wpList_store_cell rfl 93 _ _ rfl (w2.heap.size) 0 (.func (.func 58) #[] #[.pointer (some ⟨w.heap.size, 0, none⟩), .pointer (some ⟨w1.heap.size, 0, none⟩), .pointer (some ⟨w2.heap.size, 0, none⟩)]) rfl rfl rfl rfl #[.nilFunc] 93 (Blk.new rfl #[.nilFunc] 93) (by simp) size_f101 ?_
        intro w3 hb3 hk3
        have h3 := hb3.below ((Below.refl w2.heap.size w2).alloc (Nat.le_refl _) _) (by simp only [World.size_alloc]; omega) (Nat.le_refl _)
        have HB3 := hid (Below.on HB2.out h3)
        have Kg3 := hid (show Blk w3 w2.heap.size #[.func (.func 58) #[] #[.pointer (some ⟨w.heap.size, 0, none⟩), .pointer (some ⟨w1.heap.size, 0, none⟩), .pointer (some ⟨w2.heap.size, 0, none⟩)]] 93 from hk3)
        have Ka3 := hid (Ka2.out.below h3)
        have Kb3 := hid (Kb2.out.below h3)
        have Kt3 := hid (Kt2.out.below h3)
        have Kl3 := hid (Kl2.out.below h3)
        have Kw3 := hid (Kw2.out.below h3)
        have HE3 := hid (GEnv.mk (w := w3) (ba := w.heap.size) (bt := w1.heap.size) (bs := w2.heap.size) (bl := w.heap.size + 1 + 1 + 1) (bw := w.heap.size + 1 + 1) Ka3.out Kt3.out Kg3.out Kw3.out (hW.below HB3.out) (Htab.out.below HB3.out) (by omega) (by omega) (by omega) (by omega))
        have ca3 : w3.cell? ⟨w2.heap.size, 0, none⟩ = some (.func (.func 58) #[] #[.pointer (some ⟨w.heap.size, 0, none⟩), .pointer (some ⟨w1.heap.size, 0, none⟩), .pointer (some ⟨w2.heap.size, 0, none⟩)]) := by rw [Kg3.out.cell]; rfl
        clear hb3 hk3 h3))
  refine (CA.out _ _ _ _ _ _ HE3.out Kl3.out).mono ?_
  rintro e w4 ⟨rfl, b4, k4⟩
  have HB4 := hid (b4.below HB3.out HB3.out.size (by omega))
  have Ka4 := hid (b4.blk Ka3.out (by omega))
  have Kb4 := hid (b4.blk Kb3.out (by omega))
  have Kl4 := hid k4
  have hs4 := b4.size
  clear b4 k4
  go_wp2_with (first
     | (
        refine wpList_store_blk rfl 23 _ _ rfl (w4.heap.size) (X1.map (Value.int .u8)).toArray rfl rfl _ 23 ((Blk.new rfl (byteCells 32 []) _).old _) 32 size_digest zsize HX1.out.size (ints_one _ _) ?_
        intro w5 hb5 hk5
        have h5 := hb5.below (((Below.refl w4.heap.size w4).alloc (Nat.le_refl _) _).alloc (by simp only [World.size_alloc]; omega) _) (by simp only [World.size_alloc]; omega) (Nat.le_refl _)
        have H5 := hid h5
        have Ku5 := hid hk5
        have Kv5 := hid (hb5.blk (Blk.new (n := w4.heap.size + 1) (by simp only [World.size_alloc]) (byteCells 32 []) 23) (by omega))
        clear hb5 hk5 h5)
     | (
        refine wpList_store_blk rfl 23 _ _ rfl (w4.heap.size + 1) (X2.map (Value.int .u8)).toArray rfl rfl _ 23 Kv5.out 32 size_digest zsize HX2.out.size (ints_one _ _) ?_
        intro w6 hb6 hk6
        have h6 := hb6.below H5.out H5.out.size (by omega)
        have HB6 := hid (Below.on HB4.out h6)
        have Ku6 := hid (hb6.blk Ku5.out (by omega))
        have Kv6 := hid hk6
        have Ka6 := hid (Ka4.out.below h6)
        have Kb6 := hid (Kb4.out.below h6)
        have Kl6 := hid (Kl4.out.below h6)
        clear hb6 hk6 h6))
  refine (done_any (w.heap.size + 1 + 1 + 1) L2 _ Kl6.out).mono ?_
  rintro e wz ⟨rfl, hwz⟩
  have hwz := hwz.symm
  subst hwz
  by_cases hz : L2 = 0
  · rw [decide_eq_true hz]
    by_cases hx : X1 = A
    · have q1 := fun W => eqD X1 A HX1.out.len hA.len W
      have q2 := fun W => eqD X2 B HX2.out.len hB.len W
      rw [decide_eq_true hx] at q1
      have HXX := hid hx
      clear hx
      go_wp2_with (first | (refine wpList_load_blk_if (by first | rfl | go_simp) 23 _ rfl (w4.heap.size) rfl _ 23 Ku6.out _ Tryd.underlying23 rfl 32 size_digest HX1.out.size ?_) | (refine wpList_load_blk_if (by first | rfl | go_simp) 23 _ rfl (w.heap.size) rfl _ 23 Ka6.out _ Tryd.underlying23 rfl 32 size_digest hA.size ?_) | (refine wpList_load_blk_if (by first | rfl | go_simp) 23 _ rfl (w4.heap.size + 1) rfl _ 23 Kv6.out _ Tryd.underlying23 rfl 32 size_digest HX2.out.size ?_) | (refine wpList_load_blk_if (by first | rfl | go_simp) 23 _ rfl (w.heap.size + 1) rfl _ 23 Kb6.out _ Tryd.underlying23 rfl 32 size_digest hB.size ?_))
      go_returns
      exact ⟨by first | rfl | simp [hz, HXX.out], HB6.out⟩
    · have q1 := fun W => eqD X1 A HX1.out.len hA.len W
      rw [decide_eq_false hx] at q1
      go_wp2_with (first | (refine wpList_load_blk_if (by first | rfl | go_simp) 23 _ rfl (w4.heap.size) rfl _ 23 Ku6.out _ Tryd.underlying23 rfl 32 size_digest HX1.out.size ?_) | (refine wpList_load_blk_if (by first | rfl | go_simp) 23 _ rfl (w.heap.size) rfl _ 23 Ka6.out _ Tryd.underlying23 rfl 32 size_digest hA.size ?_))
      go_returns
      exact ⟨by first | rfl | simp [hz, hx], HB6.out⟩
  · rw [decide_eq_false hz]
    go_wp2_with (fail)
    go_returns
    exact ⟨by first | rfl | simp [hz], HB6.out⟩
end Go.Proofs.YtkakoiaahgchmaaDoor
namespace Go.Proofs.YtkakoiaahgchmaaDoor
set_option maxRecDepth 100000
open Go.ChangeShapes Go.WideShapes Go.ChangeAt Go.RowKit Go.Shelf
attribute [local go_sem] Oper.semAt_some
theorem quiet_cut_l {op : Oper} {a : Act} {C : World → Prop} {K : Act → Prop} (x y : Operand) (ho : op.op = .slice 24 x (some y) none none) (a0 : Option Addr) (len cap n : Nat) (v : Int) (hx : a.eval x = .slice a0 len cap) (hy : a.eval y = .int .i64 v) (hv : v = n) (hn : n ≤ len)
    (h : K (a.put op.dst (.slice (cutD a0 n cap) (len - n) (cap - n)))) : op.quiet Tryd.prog a C K :=
  ⟨.slice (cutD a0 n cap) (len - n) (cap - n), fun w' _ => by
    subst hv
    have hr := run_cutd_l (P := Tryd.prog) Tryd.underlying24 size_digest a0 len cap (n : Int) w' (by omega) (by omega)
    rw [Int.toNat_natCast] at hr
    have he : Tryd.prog.elem 24 = 23 := by simp [Program.elem, Tryd.underlying24]
    have hs := run_sliceAt_slice (P := Tryd.prog) (w := w') 24 (.slice a0 len cap) (some (.int .i64 n)) none none (by rw [he]; exact Tryd.underlying24)
    rw [hr] at hs
    unfold Oper.quietAt execOp
    simp only [ho, hx, hy, Option.map_none, Option.map_some, Sem.run_bind, Sem.run_pure, Result.andThen_ok, hs]
    simp [Oper.quietUpon], h⟩
end Go.Proofs.YtkakoiaahgchmaaDoor
namespace Go.Proofs.YtkakoiaahgchmaaDoor
set_option maxRecDepth 100000
open Go.ChangeShapes Go.WideShapes Go.ChangeAt Go.RowKit
set_option maxHeartbeats 4000000 in
theorem climber_nil (x : List Int) (w : World) :
    Calls Tryd.prog 36 #[.agg (x.map (Value.int .u8)).toArray, .slice none 0 0] w fun e w' => e = .returned (.tuple #[.func (.func 63) #[] #[.pointer (some ⟨w.heap.size, 0, none⟩), .pointer (some ⟨w.heap.size + 1, 0, none⟩)], .func (.func 64) #[] #[.pointer (some ⟨w.heap.size + 1, 0, none⟩)]]) ∧ Blk w' w.heap.size (x.map (Value.int .u8)).toArray 23 ∧ Blk w' (w.heap.size + 1) #[.slice none 0 0] 31 ∧ w'.heap.size = w.heap.size + 1 + 1 ∧ Below w.heap.size w w' := by
  have b1 := (Below.refl w.heap.size w).alloc (Nat.le_refl _) (.cells (x.map (Value.int .u8)).toArray 23 (0, 0))
  have b2 := b1.alloc b1.size (.cells #[.slice none 0 0] 31 (0, 0))
  have Kx := hid ((Blk.new (w := w) (n := w.heap.size) rfl (x.map (Value.int .u8)).toArray 23).old (.cells #[.slice none 0 0] 31 (0, 0)))
  have Kt := hid (Blk.new (w := (w.alloc (.cells (x.map (Value.int .u8)).toArray 23 (0, 0)))) (n := w.heap.size + 1) (by simp only [World.size_alloc]) #[.slice none 0 0] 31)
  have Hb := hid b2
  have hbz := b2.size
  have Hbs := hid (show w.heap.size + 1 + 1 = ((w.alloc (.cells (x.map (Value.int .u8)).toArray 23 (0, 0))).alloc (.cells #[.slice none 0 0] 31 (0, 0))).heap.size by simp only [World.size_alloc])
  clear b1 b2 
  have ct : ((w.alloc (.cells (x.map (Value.int .u8)).toArray 23 (0, 0))).alloc (.cells #[.slice none 0 0] 31 (0, 0))).cell? ⟨w.heap.size + 1, 0, none⟩ = some (.slice none 0 0) := by rw [Kt.out.cell]; rfl
  go_enter Tryd.func36, Tryd.ntmps36
  go_wp2_with fail
  go_returns
  exact ⟨rfl, Kx.out, Kt.out, by simp only [World.size_alloc], Hb.out⟩
end Go.Proofs.YtkakoiaahgchmaaDoor
namespace Go.Proofs.YtkakoiaahgchmaaDoor
set_option maxRecDepth 100000
open Go.ChangeShapes Go.WideShapes Go.ChangeAt Go.RowKit
set_option maxHeartbeats 4000000 in
theorem climbed_nil (x : List Int) (ya : Option Addr) (yn yc : Nat) (ds : List (List Int)) (ga : Option Addr) (gc : Nat) (bs : List Bool) (w : World) (hx : Dg x) (hD : DigsAt w ya yn yc ds) (hG : BoolsAt w ga yn gc bs) (hyl : yn ≤ 300) (tab : ShaTab w) :
    Calls Tryd.prog 44 #[.agg (x.map (Value.int .u8)).toArray, .slice none 0 0, .slice ya yn yc, .slice ga yn gc] w fun e w' => ∃ v, e = .returned v ∧ ∃ Sx base, w.heap.size ≤ base ∧ OwnR w' Sx base v ([] ++ trailF x (ds.zip bs)).reverse ∧ Below w.heap.size w w' := by
  have b1 := (Below.refl w.heap.size w).alloc (Nat.le_refl _) (.cells (x.map (Value.int .u8)).toArray 23 (0, 0))
  have Kz := hid (Blk.new (w := w) (n := w.heap.size) rfl (x.map (Value.int .u8)).toArray 23)
  have Hb := hid b1
  have hbz := b1.size
  have Hbs := hid (show w.heap.size + 1 = (w.alloc (.cells (x.map (Value.int .u8)).toArray 23 (0, 0))).heap.size by simp only [World.size_alloc])
  have Htab := hid tab
  clear b1 tab 
  have HD := hid hD
  have HG := hid hG
  have HX := hid hx
  have hyn := hD.length
  have hgn := hG.length
  clear hD hG
  go_enter Tryd.func44, Tryd.ntmps44
  go_wp2_with (refine wpList_load_blk rfl 23 _ rfl (w.heap.size) rfl _ 23 Kz.out _ Tryd.underlying23 rfl 32 size_digest hx.size ?_)
  obtain ⟨bx, hbx⟩ : ∃ b, b = w.heap.size + 1 := ⟨_, rfl⟩
  obtain ⟨bt, hbt⟩ : ∃ b, b = w.heap.size + 1 + 1 := ⟨_, rfl⟩
  obtain ⟨base, hbase⟩ : ∃ b, b = w.heap.size + 1 + 1 + 1 := ⟨_, rfl⟩
  refine (climber_nil x _).mono ?_
  rintro e w1 ⟨rfl, kx, kt, hs1, b1⟩
  rw [(show (w.alloc (.cells (x.map (Value.int .u8)).toArray 23 (0, 0))).heap.size = w.heap.size + 1 from Hbs.out.symm)] at kx kt hs1
  rw [(show (w.alloc (.cells (x.map (Value.int .u8)).toArray 23 (0, 0))).heap.size = w.heap.size + 1 from Hbs.out.symm), ← hbt, ← hbx]
  rw [← hbx] at kx
  rw [← hbt] at kt
  have ho := OwnR.nil w1 [bx, bt] base
  have hb1 : base ≤ w1.heap.size := by omega
  have hlt1 : w.heap.size < bx := by omega
  have hlt2 : bx < bt := by omega
  have hlt3 : bt < base := by omega
  clear hbx hbt hbase
  have HB1 := hid (Below.on Hb.out b1)
  have Kx1 := hid kx
  have Kt1 := hid kt
  have HO1 := hid ho
  have hgl : tabLow w.heap.size := ⟨Htab.out.lt, Htab.out.lt0⟩
  clear kx kt ho b1
  go_wp2_with fail
  go_loopw [21] (fun iv wr => ∃ k : Nat, k ≤ yn ∧ iv = .int .i64 k ∧ Blk wr bx ((topF x ((ds.zip bs).take k)).map (Value.int .u8)).toArray 23 ∧ (∃ v, Blk wr bt #[v] 31 ∧ OwnR wr [bx, bt] base v ([] ++ trailF x ((ds.zip bs).take k))) ∧ base ≤ wr.heap.size ∧ Below w.heap.size w wr) (fun iv _ => yn - (intOf iv).toNat)
  case atStart => exact ⟨0, Nat.zero_le _, rfl, Kx1.out, ⟨_, Kt1.out, HO1.out⟩, hb1, HB1.out⟩
  case round =>
    obtain ⟨k, hk, rfl, kx, ⟨v, kt, ho⟩, hbw, bel⟩ := hrel
    have Kxwr := hid kx
    have Ktwr := hid kt
    have HOwr := hid ho
    have HBwr := hid bel
    have hswr := bel.size
    have hbxl := kx.lt
    have hbtl := kt.lt
    clear kx kt ho bel
    by_cases hcj : k < yn
    · skip
      have hcI : (k : Int) < (yn : Int) := by omega
      obtain ⟨y, yo, rfl, hy, hyc⟩ := HD.out.at_ (by omega)
      have hgm := HG.out.mem
      obtain ⟨g, rfl, hg, hgc⟩ : ∃ g, ga = some ⟨g, 0, none⟩ ∧ g < w.heap.size ∧ ∀ j, j < yn → w.cell? ⟨g, j, none⟩ = some (.bool (bs.getD j false)) := by
        rcases hgm with h | h
        · omega
        · exact h
      have HYR := hid (rangeAt_below (hyc k hcj) hy HBwr.out)
      have HGC := hid ((HBwr.out.cell (p := ⟨g, k, none⟩) hg).trans (hgc k hcj))
      have HS := hid (HD.out.get hcj)
      have HTX := hid (topF_snoc x ((ds.zip bs).take k) (ds.getD k []) (bs.getD k false))
      have HRX := hid (trailF_snoc x ((ds.zip bs).take k) (ds.getD k []) (bs.getD k false))
      have HZT := hid (zip_take (ds := ds) (bs := bs) (by omega) (show k < ds.length by omega))
      have htl : (trailF x ((ds.zip bs).take k)).length ≤ 300 := by rw [trailF_length, List.length_take]; omega
      have HXT := hid (Dg.topF HX.out ((ds.zip bs).take k))
      generalize hsk : ds.getD k [] = sk at *
      generalize hbk : bs.getD k false = bk at *
      generalize topF x ((ds.zip bs).take k) = xk at *
      generalize trailF x ((ds.zip bs).take k) = tk at *
      clear hyc hgc hgm hsk hbk
      go_wp2_with (first
         | (refine wpList_index_digs rfl 24 _ _ rfl Tryd.underlying24 size_digest y yo yn yc rfl _ _ rfl k rfl (by omega) ?_)
         | (refine wpList_load_mid rfl 23 _ rfl y (yo + k * 32) rfl _ _ HYR.out Tryd.underlying23 rfl (by rw [List.length_map, HS.out.len]; exact size_digest) ?_)
         | (
            refine wpList_store_blk rfl 23 _ _ rfl (wr.heap.size) (sk.map (Value.int .u8)).toArray rfl rfl _ 23 (Blk.new rfl (byteCells 32 []) _) 32 size_digest zsize HS.out.size (ints_one _ _) ?_
            intro w61 hbw61 hkw61
            have hw61 := hbw61.below ((Below.refl wr.heap.size wr).alloc (Nat.le_refl _) _) (by simp only [World.size_alloc]; omega) (Nat.le_refl _)
            have HBw61 := hid (Below.on HBwr.out hw61)
            have hsw61 := HBw61.out.size
            have Kxw61 := hid (Kxwr.out.below hw61)
            have hlxw61 := Kxwr.out.lt
            have Ksw61 := hid hkw61
            have hfw61 : w.heap.size ≤ wr.heap.size := HBwr.out.size
            have Ktw61 := hid (Ktwr.out.below hw61)
            have HOw61 := hid (HOwr.out.below hw61)
            have hbww61 : base ≤ w61.heap.size := Nat.le_trans hbw hw61.size
            have HGCw61 := hid ((hw61.cell (p := ⟨g, k, none⟩) (Nat.lt_of_lt_of_le hg hswr)).trans HGC.out)
            clear hbw61 hkw61 hw61))
      simp only [Act.put]
      have hlen : ([] ++ tk).length ≤ 1000 := by rw [List.length_append]; simp; omega
      have hgx : tabLow bx := ⟨by have := hgl.1; omega, by have := hgl.2; omega⟩
      have hgt : tabLow bt := ⟨by have := hgl.1; omega, by have := hgl.2; omega⟩
      have hgb : tabLow base := ⟨by have := hgl.1; omega, by have := hgl.2; omega⟩
      cases bk with
      | true =>
        have hfr := HOw61.out.size
        have hfm := HOw61.out.from
        refine FlowB.wp_region_butIn (bx :: bt :: v.ownBlock.toList) (fun wz => Blk wz bx (xk.map (Value.int .u8)).toArray 23 ∧ Blk wz bt #[v] 31 ∧ OwnR wz [bx, bt] base v ([] ++ tk)) 7 [0, 1, 2, 3, 4, 5] [] [(.c 6, [], [])] (by kernel_rfl) (by kernel_rfl) ⟨Kxw61.out, Ktw61.out, HOw61.out⟩ (fun _ _ h hb => ⟨h.1.below hb, h.2.1.below hb, h.2.2.below hb⟩) ?_
        apply Exists.intro
        refine ⟨fun w0 hb0 hF0 => ?_, ?_⟩
        · skip
          have hnS : ∀ n, n ≠ bx → n ≠ bt → (∀ g ∈ v.ownBlock.toList, n ≠ g) → n ∉ bx :: bt :: v.ownBlock.toList := fun n h1 h2 h3 hm => by
            rcases List.mem_cons.1 hm with h | hm
            · exact h1 h
            · rcases List.mem_cons.1 hm with h | hm
              · exact h2 h
              · exact h3 n hm rfl
          have x0 : ∀ w', (∃ x : Ext w0, w' = x.at_) → ∃ T, Blk w' wr.heap.size (sk.map (Value.int .u8)).toArray T := fun w' ⟨x, hx⟩ => ⟨_, hx ▸ (hb0.blk Ksw61.out (hnS _ (by omega) (by omega) (fun g hg => by have := HOwr.out.size g hg; omega))).below x.same⟩
          have y0 : ∀ w', (∃ x : Ext w0, w' = x.at_) → w'.cell? ⟨g, 0 + k * 1, none⟩ = some (.bool true) := fun w' ⟨x, hx⟩ => by
            rw [show 0 + k * 1 = k by omega, hx, x.same.cell (p := ⟨g, k, none⟩) (Nat.lt_of_lt_of_le (Nat.lt_of_lt_of_le hg HBw61.out.size) hb0.size)]
            rw [← HGCw61.out]
            unfold World.cell?
            rw [show w0.heap[g]? = w61.heap[g]? from hb0.block g (Nat.lt_of_lt_of_le hg HBw61.out.size) (hnS _ (by omega) (by omega) (fun q hq => by have := hfm q hq; omega))]
          simp only [pick, List.getElem?_toArray, List.getElem?_cons_succ, List.getElem?_cons_zero, Option.toList_some, List.cons_append, List.nil_append]
          repeat (first | (go_big_quiet_want; refine quiet_load_blk 23 _ rfl wr.heap.size rfl _ x0 _ Tryd.underlying23 rfl 32 size_digest HS.out.size ?_; go_big_quiet_on; simp only [Act.put, List.setIfInBounds_toArray, List.set_cons_zero, List.set_cons_succ]) | (go_big_quiet_want; refine quiet_index_s 1 76 _ _ rfl Tryd.underlying76 size_bool1 g 0 yn gc rfl _ _ rfl k rfl (by omega) ?_; go_big_quiet_on; simp only [Act.put, List.setIfInBounds_toArray, List.set_cons_zero, List.set_cons_succ]) | (go_big_quiet_want; refine quiet_load_one 4 _ rfl ⟨g, 0 + k * 1, none⟩ rfl _ y0 _ Tryd.underlying4 rfl ?_; go_big_quiet_on; simp only [Act.put, List.setIfInBounds_toArray, List.set_cons_zero, List.set_cons_succ]) | go_big_quiet_step (fail))
          exact wpQuiet_nil rfl
        refine FlowB.AlChk.nil ?_
        refine FlowB.Walk.call rfl 63 #[.agg (sk.map (Value.int .u8)).toArray, .bool true, .pointer (some ⟨bx, 0, none⟩), .pointer (some ⟨bt, 0, none⟩)] (fun _ _ => True) (fun _ wz => ∃ v', Blk wz bx ((nodeL sk xk).map (Value.int .u8)).toArray 23 ∧ Blk wz bt #[v'] 31 ∧ OwnR wz [bx, bt] base v' (([] ++ tk) ++ [(nodeX sk xk)])) (fun _ _ _ _ h _ => h) (fun _ _ _ ⟨v', h1, h2, h3⟩ hb => ⟨v', h1.below hb, h2.below hb, h3.below hb⟩) rfl (fun w1 hb1 hF1 hG1 => ⟨by go_simp, ?_⟩) ?_
        · refine (up_r xk sk bx bt base v ([] ++ tk) w1 HXT.out HS.out hG1.1 hG1.2.1 hG1.2.2 (by omega) (by omega) (by omega) (Nat.le_trans hbww61 hb1.size) hlen hgx hgt hgb (tab_butIn (Htab.out.below HBw61.out) hb1 (tab_all hgx hgt hgb hfm))).mono ?_
          rintro e w2 ⟨rfl, v', q1, q2, q3, q4⟩
          exact ⟨_, rfl, q4, trivial, v', q1, q2, q3⟩
        rintro vr w1 hb1 hF1 _
        apply Exists.intro
        refine ⟨fun w3 hb3 hF3 => wpQuiet_nil rfl, ?_⟩
        refine FlowB.AlChk.nil ?_
        refine FlowB.Walk.fin fun w6 h6 _ hG6 => ?_
        simp only [List.drop_succ_cons, List.drop_zero]
        obtain ⟨v', q1, q2, q3⟩ := hG6
        have HB6 := hid (h6.below HBw61.out HBw61.out.size (fun b hb => by
          rcases List.mem_cons.1 hb with h | hb
          · omega
          · rcases List.mem_cons.1 hb with h | hb
            · omega
            · have := hfm b hb; omega))
        have HQ1 := hid q1
        have HQ2 := hid q2
        have HQ3 := hid q3
        have hs6 := Nat.le_trans hbww61 h6.size
        clear h6 q1 q2 q3 hfr hfm
        go_wp2_with fail
        exact ⟨⟨k + 1, by omega, by first | rfl | simp, by rw [HZT.out, HTX.out]; exact HQ1.out, ⟨_, HQ2.out, by rw [HZT.out, HRX.out, ← List.append_assoc]; exact HQ3.out⟩, hs6, HB6.out⟩, by simp [intOf]; omega⟩
      | false =>
        have hfr := HOw61.out.size
        have hfm := HOw61.out.from
        refine FlowB.wp_region_butIn (bx :: bt :: v.ownBlock.toList) (fun wz => Blk wz bx (xk.map (Value.int .u8)).toArray 23 ∧ Blk wz bt #[v] 31 ∧ OwnR wz [bx, bt] base v ([] ++ tk)) 7 [0, 1, 2, 3, 4, 5] [] [(.c 6, [], [])] (by kernel_rfl) (by kernel_rfl) ⟨Kxw61.out, Ktw61.out, HOw61.out⟩ (fun _ _ h hb => ⟨h.1.below hb, h.2.1.below hb, h.2.2.below hb⟩) ?_
        apply Exists.intro
        refine ⟨fun w0 hb0 hF0 => ?_, ?_⟩
        · skip
          have hnS : ∀ n, n ≠ bx → n ≠ bt → (∀ g ∈ v.ownBlock.toList, n ≠ g) → n ∉ bx :: bt :: v.ownBlock.toList := fun n h1 h2 h3 hm => by
            rcases List.mem_cons.1 hm with h | hm
            · exact h1 h
            · rcases List.mem_cons.1 hm with h | hm
              · exact h2 h
              · exact h3 n hm rfl
          have x0 : ∀ w', (∃ x : Ext w0, w' = x.at_) → ∃ T, Blk w' wr.heap.size (sk.map (Value.int .u8)).toArray T := fun w' ⟨x, hx⟩ => ⟨_, hx ▸ (hb0.blk Ksw61.out (hnS _ (by omega) (by omega) (fun g hg => by have := HOwr.out.size g hg; omega))).below x.same⟩
          have y0 : ∀ w', (∃ x : Ext w0, w' = x.at_) → w'.cell? ⟨g, 0 + k * 1, none⟩ = some (.bool false) := fun w' ⟨x, hx⟩ => by
            rw [show 0 + k * 1 = k by omega, hx, x.same.cell (p := ⟨g, k, none⟩) (Nat.lt_of_lt_of_le (Nat.lt_of_lt_of_le hg HBw61.out.size) hb0.size)]
            rw [← HGCw61.out]
            unfold World.cell?
            rw [show w0.heap[g]? = w61.heap[g]? from hb0.block g (Nat.lt_of_lt_of_le hg HBw61.out.size) (hnS _ (by omega) (by omega) (fun q hq => by have := hfm q hq; omega))]
          simp only [pick, List.getElem?_toArray, List.getElem?_cons_succ, List.getElem?_cons_zero, Option.toList_some, List.cons_append, List.nil_append]
          repeat (first | (go_big_quiet_want; refine quiet_load_blk 23 _ rfl wr.heap.size rfl _ x0 _ Tryd.underlying23 rfl 32 size_digest HS.out.size ?_; go_big_quiet_on; simp only [Act.put, List.setIfInBounds_toArray, List.set_cons_zero, List.set_cons_succ]) | (go_big_quiet_want; refine quiet_index_s 1 76 _ _ rfl Tryd.underlying76 size_bool1 g 0 yn gc rfl _ _ rfl k rfl (by omega) ?_; go_big_quiet_on; simp only [Act.put, List.setIfInBounds_toArray, List.set_cons_zero, List.set_cons_succ]) | (go_big_quiet_want; refine quiet_load_one 4 _ rfl ⟨g, 0 + k * 1, none⟩ rfl _ y0 _ Tryd.underlying4 rfl ?_; go_big_quiet_on; simp only [Act.put, List.setIfInBounds_toArray, List.set_cons_zero, List.set_cons_succ]) | go_big_quiet_step (fail))
          exact wpQuiet_nil rfl
        refine FlowB.AlChk.nil ?_
        refine FlowB.Walk.call rfl 63 #[.agg (sk.map (Value.int .u8)).toArray, .bool false, .pointer (some ⟨bx, 0, none⟩), .pointer (some ⟨bt, 0, none⟩)] (fun _ _ => True) (fun _ wz => ∃ v', Blk wz bx ((nodeL xk sk).map (Value.int .u8)).toArray 23 ∧ Blk wz bt #[v'] 31 ∧ OwnR wz [bx, bt] base v' (([] ++ tk) ++ [(nodeX xk sk)])) (fun _ _ _ _ h _ => h) (fun _ _ _ ⟨v', h1, h2, h3⟩ hb => ⟨v', h1.below hb, h2.below hb, h3.below hb⟩) rfl (fun w1 hb1 hF1 hG1 => ⟨by go_simp, ?_⟩) ?_
        · refine (up_l xk sk bx bt base v ([] ++ tk) w1 HXT.out HS.out hG1.1 hG1.2.1 hG1.2.2 (by omega) (by omega) (by omega) (Nat.le_trans hbww61 hb1.size) hlen hgx hgt hgb (tab_butIn (Htab.out.below HBw61.out) hb1 (tab_all hgx hgt hgb hfm))).mono ?_
          rintro e w2 ⟨rfl, v', q1, q2, q3, q4⟩
          exact ⟨_, rfl, q4, trivial, v', q1, q2, q3⟩
        rintro vr w1 hb1 hF1 _
        apply Exists.intro
        refine ⟨fun w3 hb3 hF3 => wpQuiet_nil rfl, ?_⟩
        refine FlowB.AlChk.nil ?_
        refine FlowB.Walk.fin fun w6 h6 _ hG6 => ?_
        simp only [List.drop_succ_cons, List.drop_zero]
        obtain ⟨v', q1, q2, q3⟩ := hG6
        have HB6 := hid (h6.below HBw61.out HBw61.out.size (fun b hb => by
          rcases List.mem_cons.1 hb with h | hb
          · omega
          · rcases List.mem_cons.1 hb with h | hb
            · omega
            · have := hfm b hb; omega))
        have HQ1 := hid q1
        have HQ2 := hid q2
        have HQ3 := hid q3
        have hs6 := Nat.le_trans hbww61 h6.size
        clear h6 q1 q2 q3 hfr hfm
        go_wp2_with fail
        exact ⟨⟨k + 1, by omega, by first | rfl | simp, by rw [HZT.out, HTX.out]; exact HQ1.out, ⟨_, HQ2.out, by rw [HZT.out, HRX.out, ← List.append_assoc]; exact HQ3.out⟩, hs6, HB6.out⟩, by simp [intOf]; omega⟩
    · skip
      have hke : k = yn := by omega
      subst hke
      have hcI : ¬ (k : Int) < (k : Int) := by omega
      rw [show (ds.zip bs).take k = ds.zip bs from List.take_of_length_le (by simp; omega)] at HOwr
      have hll : ([] ++ trailF x (ds.zip bs)).length ≤ 1000 := by rw [List.length_append, trailF_length]; simp; omega
      generalize hTT : [] ++ trailF x (ds.zip bs) = TT at *
      have HTT := hid hTT
      clear hTT
      obtain ⟨a9, c9, hv9, -⟩ := HOwr.out.texts
      subst hv9
      obtain ⟨N9, hN9⟩ : ∃ N, N = TT.length := ⟨_, rfl⟩
      rw [← hN9] at HOwr Ktwr
      have HN9 := hid hN9
      have hl9 := HOwr.out.from
      clear hN9
      go_wp2_with fail
      refine (end_any bx bt base a9 N9 c9 TT _ Ktwr.out HOwr.out (by omega) hll).mono ?_
      rintro e w8 ⟨rfl, o8, r8⟩
      have HO8 := hid (r8.below HBwr.out hswr (fun b hb => by have := hl9 b hb; omega))
      have HP8 := hid o8
      clear o8 r8 hl9
      go_wp2_with fail
      go_returns
      exact ⟨.slice a9 N9 c9, rfl, [bx, bt], base, by omega, by have HR := HP8.out; rw [← HTT.out] at HR; simpa using HR, HO8.out⟩
end Go.Proofs.YtkakoiaahgchmaaDoor
namespace Go.Proofs.YtkakoiaahgchmaaDoor
set_option maxRecDepth 100000
open Go.ChangeShapes Go.WideShapes Go.ChangeAt Go.RowKit
/-- From the top on: does the beginning end on the right? And is something cut off? -/
def gsF : Nat → Nat → Nat → Bool → List Bool × Bool
  | 0, _, _, cut => ([], cut)
  | f + 1, m, n, cut => if m = n then ([], cut) else if m ≤ halfN n then (false :: (gsF f m (halfN n) cut).1, (gsF f m (halfN n) cut).2) else (true :: (gsF f (m - halfN n) (n - halfN n) true).1, (gsF f (m - halfN n) (n - halfN n) true).2)
theorem gsF_same (f m : Nat) (cut : Bool) : gsF f m m cut = ([], cut) := by
  cases f with
  | zero => rfl
  | succ f => simp [gsF]
theorem gsF_fuel : ∀ (f g m n : Nat) (cut : Bool), n ≤ f → n ≤ g → 1 ≤ m → m ≤ n → gsF f m n cut = gsF g m n cut := by
  intro f
  induction f with
  | zero => intro g m n cut h1 _ h3 h4; omega
  | succ f ih =>
    intro g m n cut h1 h2 h3 h4
    cases g with
    | zero => omega
    | succ g =>
      unfold gsF
      by_cases hn : m = n
      · rw [if_pos hn, if_pos hn]
      · rw [if_neg hn, if_neg hn]
        have hh := halfN_lt (n := n) (by omega)
        by_cases hi : m ≤ halfN n
        · rw [if_pos hi, if_pos hi, ih g m (halfN n) cut (by omega) (by omega) (by omega) hi]
        · rw [if_neg hi, if_neg hi, ih g (m - halfN n) (n - halfN n) true (by omega) (by omega) (by omega) (by omega)]
theorem gsF_left {m n : Nat} (cut : Bool) (h0 : 1 ≤ m) (h : m < n) (hi : m ≤ halfN n) : gsF n m n cut = (false :: (gsF (halfN n) m (halfN n) cut).1, (gsF (halfN n) m (halfN n) cut).2) := by
  have hh := halfN_lt (n := n) (by omega)
  obtain ⟨k, rfl⟩ : ∃ k, n = k + 1 := ⟨n - 1, by omega⟩
  rw [gsF, if_neg (by omega), if_pos hi, gsF_fuel k (halfN (k + 1)) m (halfN (k + 1)) cut (by omega) (by omega) h0 hi]
theorem gsF_right {m n : Nat} (cut : Bool) (h : m < n) (hi : ¬ m ≤ halfN n) : gsF n m n cut = (true :: (gsF (n - halfN n) (m - halfN n) (n - halfN n) true).1, (gsF (n - halfN n) (m - halfN n) (n - halfN n) true).2) := by
  have hh := halfN_lt (n := n) (by omega)
  obtain ⟨k, rfl⟩ : ∃ k, n = k + 1 := ⟨n - 1, by omega⟩
  rw [gsF, if_neg (by omega), if_neg hi, gsF_fuel k (k + 1 - halfN (k + 1)) (m - halfN (k + 1)) (k + 1 - halfN (k + 1)) true (by omega) (by omega) (by omega) (by omega)]
def oneIf (c : Bool) : Nat := if c then 1 else 0
def startX (A : List Int) (c : Bool) (ds : List (List Int)) : List Int := if c then ds.getD 0 [] else A
def restX (c : Bool) (ds : List (List Int)) : List (List Int) := if c then ds.drop 1 else ds
theorem restX_length (c : Bool) (ds : List (List Int)) : (restX c ds).length = ds.length - oneIf c := by
  cases c <;> simp [restX, oneIf]
theorem restX_getD (c : Bool) (ds : List (List Int)) (k : Nat) : (restX c ds).getD k [] = ds.getD (k + oneIf c) [] := by
  cases c <;> simp [restX, oneIf, List.getD_eq_getElem?_getD]
theorem groZ_left (A : List Int) (f : Nat) : ∀ (m n : Nat) (cut : Bool) (ds : List (List Int)) (left : Int), n ≤ f → 1 ≤ m → m ≤ n → (groZ f A m n cut ds left).2 = left - (gsF f m n cut).1.length - oneIf (gsF f m n cut).2 := by
  induction f with
  | zero => intro m n cut ds left h1 h2 h3; omega
  | succ f ih =>
    intro m n cut ds left h1 h2 h3
    unfold groZ gsF
    by_cases hn : m = n
    · rw [if_pos hn, if_pos hn]
      cases cut <;> simp [oneIf]
    · rw [if_neg hn, if_neg hn]
      have hh := halfN_lt (n := n) (by omega)
      by_cases hi : m ≤ halfN n
      · rw [if_pos hi, if_pos hi]
        have := ih m (halfN n) cut ds (left - 1) (by omega) (by omega) hi
        simp only [List.length_cons]
        omega
      · rw [if_neg hi, if_neg hi]
        have := ih (m - halfN n) (n - halfN n) true ds (left - 1) (by omega) (by omega) (by omega)
        simp only [List.length_cons]
        omega
theorem groZ_top (A : List Int) (f : Nat) : ∀ (m n : Nat) (cut : Bool) (ds : List (List Int)), n ≤ f → 1 ≤ m → m ≤ n → (gsF f m n cut).1.length + oneIf (gsF f m n cut).2 ≤ ds.length →
    (groZ f A m n cut ds (((gsF f m n cut).1.length + oneIf (gsF f m n cut).2 : Nat) : Int)).1.2 = topF (startX A (gsF f m n cut).2 ds) (((restX (gsF f m n cut).2 ds).take (gsF f m n cut).1.length).zip (gsF f m n cut).1.reverse) := by
  induction f with
  | zero => intro m n cut ds h1 h2 h3; omega
  | succ f ih =>
    intro m n cut ds h1 h2 h3 hl
    by_cases hn : m = n
    · subst hn
      rw [gsF_same] at hl ⊢
      unfold groZ
      rw [if_pos rfl]
      cases cut with
      | false => simp [topF, startX]
      | true =>
        rw [if_pos rfl]
        simp only [oneIf, if_true, List.length_nil]
        rw [takeZ_nat]
        simp [topF, startX]
    · have hh := halfN_lt (n := n) (by omega)
      by_cases hi : m ≤ halfN n
      · rw [show gsF (f + 1) m n cut = (false :: (gsF f m (halfN n) cut).1, (gsF f m (halfN n) cut).2) by rw [gsF, if_neg hn, if_pos hi]] at hl ⊢
        have hi2 := ih m (halfN n) cut ds (by omega) (by omega) hi
        generalize gsF f m (halfN n) cut = g at *
        simp only [List.length_cons] at hl ⊢
        rw [List.reverse_cons, zip_rev_snoc _ (by rw [restX_length]; omega), topF_snoc, groZ, if_neg hn, if_pos hi, show g.1.length + 1 + oneIf g.2 = (g.1.length + oneIf g.2) + 1 by omega, takeZ_nat, restX_getD]
        rw [show (((g.1.length + oneIf g.2) + 1 : Nat) : Int) - 1 = ((g.1.length + oneIf g.2 : Nat) : Int) by omega]
        rw [hi2 (by omega)]
        simp
      · rw [show gsF (f + 1) m n cut = (true :: (gsF f (m - halfN n) (n - halfN n) true).1, (gsF f (m - halfN n) (n - halfN n) true).2) by rw [gsF, if_neg hn, if_neg hi]] at hl ⊢
        have hi2 := ih (m - halfN n) (n - halfN n) true ds (by omega) (by omega) (by omega)
        generalize gsF f (m - halfN n) (n - halfN n) true = g at *
        simp only [List.length_cons] at hl ⊢
        rw [List.reverse_cons, zip_rev_snoc _ (by rw [restX_length]; omega), topF_snoc, groZ, if_neg hn, if_neg hi, show g.1.length + 1 + oneIf g.2 = (g.1.length + oneIf g.2) + 1 by omega, takeZ_nat, restX_getD]
        rw [show (((g.1.length + oneIf g.2) + 1 : Nat) : Int) - 1 = ((g.1.length + oneIf g.2 : Nat) : Int) by omega]
        rw [hi2 (by omega)]
        simp
theorem gsF_true (f : Nat) : ∀ (m n : Nat), (gsF f m n true).2 = true := by
  induction f with
  | zero => intro m n; rfl
  | succ f ih =>
    intro m n
    unfold gsF
    split
    · rfl
    · split
      · exact ih _ _
      · exact ih _ _
theorem groZ_indep (A B : List Int) (f : Nat) : ∀ (m n : Nat) (cut : Bool) (ds : List (List Int)) (left : Int), n ≤ f → 1 ≤ m → m ≤ n → (gsF f m n cut).2 = true → groZ f A m n cut ds left = groZ f B m n cut ds left := by
  induction f with
  | zero => intro m n cut ds left h1 h2 h3; omega
  | succ f ih =>
    intro m n cut ds left h1 h2 h3 hc
    by_cases hn : m = n
    · subst hn
      rw [gsF_same] at hc
      have hc : cut = true := hc
      subst hc
      simp [groZ]
    · have hh := halfN_lt (n := n) (by omega)
      unfold groZ
      rw [if_neg hn, if_neg hn]
      by_cases hi : m ≤ halfN n
      · rw [show gsF (f + 1) m n cut = (false :: (gsF f m (halfN n) cut).1, (gsF f m (halfN n) cut).2) by rw [gsF, if_neg hn, if_pos hi]] at hc
        rw [if_pos hi, if_pos hi, ih m (halfN n) cut ds (left - 1) (by omega) (by omega) hi hc]
      · rw [if_neg hi, if_neg hi, ih (m - halfN n) (n - halfN n) true ds (left - 1) (by omega) (by omega) (by omega) (gsF_true _ _ _)]
theorem trailF_inj : ∀ (bs : List Bool) (d1 d2 : List (List Int)) (x y : List Int), Dg x → Dg y → d1.length = bs.length → d2.length = bs.length → (∀ d ∈ d1, Dg d) → (∀ d ∈ d2, Dg d) → trailF x (d1.zip bs) = trailF y (d2.zip bs) → (bs ≠ [] → x = y) ∧ d1 = d2 := by
  intro bs
  induction bs with
  | nil =>
    intro d1 d2 x y _ _ h1 h2 _ _ _
    rw [List.eq_nil_of_length_eq_zero h1, List.eq_nil_of_length_eq_zero h2]
    exact ⟨fun h => absurd rfl h, rfl⟩
  | cons b bs ih =>
    intro d1 d2 x y hx hy h1 h2 hd1 hd2 ht
    cases d1 with
    | nil => simp at h1
    | cons s1 d1 =>
      cases d2 with
      | nil => simp at h2
      | cons s2 d2 =>
        have D1 : Dg s1 := hd1 s1 (by simp)
        have D2 : Dg s2 := hd2 s2 (by simp)
        have L1 : d1.length = bs.length := by simpa using h1
        have L2 : d2.length = bs.length := by simpa using h2
        cases b with
        | true =>
          simp only [List.zip_cons_cons, trailF, if_true] at ht
          obtain ⟨q1, q2⟩ := List.cons.inj ht
          obtain ⟨rfl, rfl⟩ := nodeX_inj_l D1 D2 q1
          obtain ⟨-, rfl⟩ := ih d1 d2 _ _ (Dg.nodeL _ _) (Dg.nodeL _ _) L1 L2 (fun d hd => hd1 d (by simp [hd])) (fun d hd => hd2 d (by simp [hd])) q2
          exact ⟨fun _ => rfl, rfl⟩
        | false =>
          simp only [List.zip_cons_cons, trailF, Bool.false_eq_true, if_false] at ht
          obtain ⟨q1, q2⟩ := List.cons.inj ht
          obtain ⟨rfl, rfl⟩ := nodeX_inj_l hx hy q1
          obtain ⟨-, rfl⟩ := ih d1 d2 _ _ (Dg.nodeL _ _) (Dg.nodeL _ _) L1 L2 (fun d hd => hd1 d (by simp [hd])) (fun d hd => hd2 d (by simp [hd])) q2
          exact ⟨fun _ => rfl, rfl⟩
/-- Where two trails without a text part. -/
theorem trails_part0 (bs : List Bool) (d1 d2 : List (List Int)) (x y : List Int) (hx : Dg x) (hy : Dg y) (h1 : d1.length = bs.length) (h2 : d2.length = bs.length) (hd1 : ∀ d ∈ d1, Dg d) (hd2 : ∀ d ∈ d2, Dg d) (ht : topF x (d1.zip bs) = topF y (d2.zip bs)) :
    (x = y ∧ d1 = d2) ∨ ∃ k, firstU (trailF x (d1.zip bs)).reverse (trailF y (d2.zip bs)).reverse = some k ∧ sumZ ((trailF x (d1.zip bs)).reverse.getD k []) = sumZ ((trailF y (d2.zip bs)).reverse.getD k []) := by
  by_cases he : trailF x (d1.zip bs) = trailF y (d2.zip bs)
  · obtain ⟨q1, q2⟩ := trailF_inj bs d1 d2 x y hx hy h1 h2 hd1 hd2 he
    refine .inl ⟨?_, q2⟩
    by_cases hb : bs = []
    · subst hb
      simpa [topF] using ht
    · exact q1 hb
  · cases bs with
    | nil => simp [trailF] at he
    | cons b bs =>
      cases d1 with
      | nil => simp at h1
      | cons s1 d1 =>
        cases d2 with
        | nil => simp at h2
        | cons s2 d2 =>
          have L1 : d1.length = bs.length := by simpa using h1
          have L2 : d2.length = bs.length := by simpa using h2
          have H1 : ∀ d ∈ d1, Dg d := fun d hd => hd1 d (by simp [hd])
          have H2 : ∀ d ∈ d2, Dg d := fun d hd => hd2 d (by simp [hd])
          cases b with
          | true =>
            have := trails_part bs d1 d2 (nodeX s1 x) (nodeX s2 y) L1 L2 H1 H2 (by simpa [topF, nodeL_nodeX] using ht)
            simp only [List.zip_cons_cons, trailF, if_true, nodeL_nodeX] at he ⊢
            rcases this with h | h
            · exact absurd (List.reverse_inj.1 h) he
            · exact .inr h
          | false =>
            have := trails_part bs d1 d2 (nodeX x s1) (nodeX y s2) L1 L2 H1 H2 (by simpa [topF, nodeL_nodeX] using ht)
            simp only [List.zip_cons_cons, trailF, Bool.false_eq_true, if_false, nodeL_nodeX] at he ⊢
            rcases this with h | h
            · exact absurd (List.reverse_inj.1 h) he
            · exact .inr h
set_option maxHeartbeats 4000000 in
theorem growSides_any (m n : Nat) (w : World) (hm1 : 1 ≤ m) (hmn : m ≤ n) (hn2 : n ≤ 200) :
    Calls Tryd.prog 46 #[.int .i64 m, .int .i64 n] w fun e w' => ∃ v, e = .returned (.tuple #[v, .bool (gsF n m n false).2]) ∧ OwnV w' w.heap.size 4 v ((gsF n m n false).1.reverse.map Value.bool) ∧ Below w.heap.size w w' := by
  have Hb := hid (Below.refl w.heap.size w)
  obtain ⟨i0, hi0, hz0, hz1, hz2⟩ := info_parts info_bool
  have H23 := hid half23_any
  go_enter Tryd.func46, Tryd.ntmps46
  go_wp2_with fail
  go_loopw [0, 1, 6, 7] (fun mv nv sv cv wr => ∃ (p q : Nat) (c : Bool) (acc : List Bool), 1 ≤ p ∧ p ≤ q ∧ q ≤ n ∧ acc.length + q ≤ n ∧ mv = .int .i64 p ∧ nv = .int .i64 q ∧ cv = .bool c ∧ OwnV wr w.heap.size 4 sv (acc.map Value.bool) ∧ acc ++ (gsF q p q c).1 = (gsF n m n false).1 ∧ (gsF q p q c).2 = (gsF n m n false).2 ∧ Below w.heap.size w wr) (fun _ nv _ _ _ => (intOf nv).toNat)
  case atStart => exact ⟨m, n, false, [], hm1, hmn, Nat.le_refl _, by simp, rfl, rfl, rfl, OwnV.nil _ _ _, rfl, rfl, Hb.out⟩
  case round =>
    obtain ⟨p, q, c, acc, hp1, hpq, hqn, hal, rfl, rfl, rfl, hov, hsd, hsc, bel⟩ := hrel
    have HBwr := hid bel
    have HO := hid hov
    have hswr := bel.size
    clear bel hov
    by_cases hp : p < q
    · skip
      have hpi : (p : Int) < (q : Int) := by omega
      have hh := halfN_lt (n := q) (by omega)
      have HSL := hid (fun h => (gsF_left (m := p) (n := q) c hp1 hp h))
      have HSR := hid (fun h => (gsF_right (m := p) (n := q) c hp h))
      have HSD := hid hsd
      have HSC := hid hsc
      have C23 := hid (fun W : World => H23.out q W (by omega) (by omega))
      clear hsd hsc
      generalize halfN q = K at *
      go_wp2_with fail
      refine (C23.out _).mono ?_
      rintro e w1 ⟨rfl, rfl⟩
      by_cases hq : p ≤ K
      · skip
        cases c with
        | true =>
          have hqi : ¬ (K : Int) < (p : Int) := by omega
          have HK1 := hid (Blk.new (w := w1) (n := w1.heap.size) rfl #[.bool false] 4)
          have HO1 := hid (HO.out.below ((Below.refl _ _).alloc (Nat.le_refl _) (.cells #[.bool false] 4 (0, 0))))
          have HB1 := hid (HBwr.out.alloc HBwr.out.size (.cells #[.bool false] 4 (0, 0)))
          go_wp2_with (
              at_builtin
              refine wpList_append_v rfl _ _ rfl Tryd.underlying76 hi0 hz0 rfl hz1 (by omega) rfl HO1.out rfl HK1.out rfl (by simp; omega) HB1.out.size ?_
              intro v5 w5 own5 b5
              have HO5 := hid own5
              have HB5 := hid (HB1.out.trans b5)
              clear own5 b5)
          exact ⟨⟨p, K, true, acc ++ [false], by omega, by omega, by omega, by simp; omega, by first | rfl | (simp; omega) | simp, by first | rfl | (simp; omega) | simp, rfl, by have := HO5.out; simpa using this, by rw [← HSD.out, HSL.out hq]; simp, by rw [← HSC.out, HSL.out hq], HB5.out⟩, by simp [intOf]; omega⟩
        | false =>
          have hqi : ¬ (K : Int) < (p : Int) := by omega
          have HK1 := hid (Blk.new (w := w1) (n := w1.heap.size) rfl #[.bool false] 4)
          have HO1 := hid (HO.out.below ((Below.refl _ _).alloc (Nat.le_refl _) (.cells #[.bool false] 4 (0, 0))))
          have HB1 := hid (HBwr.out.alloc HBwr.out.size (.cells #[.bool false] 4 (0, 0)))
          go_wp2_with (
              at_builtin
              refine wpList_append_v rfl _ _ rfl Tryd.underlying76 hi0 hz0 rfl hz1 (by omega) rfl HO1.out rfl HK1.out rfl (by simp; omega) HB1.out.size ?_
              intro v5 w5 own5 b5
              have HO5 := hid own5
              have HB5 := hid (HB1.out.trans b5)
              clear own5 b5)
          exact ⟨⟨p, K, false, acc ++ [false], by omega, by omega, by omega, by simp; omega, by first | rfl | (simp; omega) | simp, by first | rfl | (simp; omega) | simp, rfl, by have := HO5.out; simpa using this, by rw [← HSD.out, HSL.out hq]; simp, by rw [← HSC.out, HSL.out hq], HB5.out⟩, by simp [intOf]; omega⟩
      · skip
        cases c with
        | true =>
          have hqi : (K : Int) < (p : Int) := by omega
          obtain ⟨p2, hp2'⟩ : ∃ z, z = p - K := ⟨_, rfl⟩
          obtain ⟨q2, hq2'⟩ : ∃ z, z = q - K := ⟨_, rfl⟩
          have hw1 : wrap64 ((p : Int) - (K : Int)) = (p2 : Int) := by unfold wrap64; omega
          have hw2 : wrap64 ((q : Int) - (K : Int)) = (q2 : Int) := by unfold wrap64; omega
          have HP2 := hid hp2'
          have HQ2 := hid hq2'
          clear hp2' hq2'
          have HK1 := hid (Blk.new (w := w1) (n := w1.heap.size) rfl #[.bool true] 4)
          have HO1 := hid (HO.out.below ((Below.refl _ _).alloc (Nat.le_refl _) (.cells #[.bool true] 4 (0, 0))))
          have HB1 := hid (HBwr.out.alloc HBwr.out.size (.cells #[.bool true] 4 (0, 0)))
          go_wp2_with (
              at_builtin
              refine wpList_append_v rfl _ _ rfl Tryd.underlying76 hi0 hz0 rfl hz1 (by omega) rfl HO1.out rfl HK1.out rfl (by simp; omega) HB1.out.size ?_
              intro v5 w5 own5 b5
              have HO5 := hid own5
              have HB5 := hid (HB1.out.trans b5)
              clear own5 b5)
          have hpp := HP2.out
          have hqq := HQ2.out
          exact ⟨⟨p2, q2, true, acc ++ [true], by omega, by omega, by omega, by simp; omega, by first | rfl | (simp; omega) | simp, by first | rfl | (simp; omega) | simp, rfl, by have := HO5.out; simpa using this, by rw [← HSD.out, HSR.out hq, HP2.out, HQ2.out]; simp, by rw [← HSC.out, HSR.out hq, HP2.out, HQ2.out], HB5.out⟩, by simp [intOf]; omega⟩
        | false =>
          have hqi : (K : Int) < (p : Int) := by omega
          obtain ⟨p2, hp2'⟩ : ∃ z, z = p - K := ⟨_, rfl⟩
          obtain ⟨q2, hq2'⟩ : ∃ z, z = q - K := ⟨_, rfl⟩
          have hw1 : wrap64 ((p : Int) - (K : Int)) = (p2 : Int) := by unfold wrap64; omega
          have hw2 : wrap64 ((q : Int) - (K : Int)) = (q2 : Int) := by unfold wrap64; omega
          have HP2 := hid hp2'
          have HQ2 := hid hq2'
          clear hp2' hq2'
          have HK1 := hid (Blk.new (w := w1) (n := w1.heap.size) rfl #[.bool true] 4)
          have HO1 := hid (HO.out.below ((Below.refl _ _).alloc (Nat.le_refl _) (.cells #[.bool true] 4 (0, 0))))
          have HB1 := hid (HBwr.out.alloc HBwr.out.size (.cells #[.bool true] 4 (0, 0)))
          go_wp2_with (
              at_builtin
              refine wpList_append_v rfl _ _ rfl Tryd.underlying76 hi0 hz0 rfl hz1 (by omega) rfl HO1.out rfl HK1.out rfl (by simp; omega) HB1.out.size ?_
              intro v5 w5 own5 b5
              have HO5 := hid own5
              have HB5 := hid (HB1.out.trans b5)
              clear own5 b5)
          have hpp := HP2.out
          have hqq := HQ2.out
          exact ⟨⟨p2, q2, true, acc ++ [true], by omega, by omega, by omega, by simp; omega, by first | rfl | (simp; omega) | simp, by first | rfl | (simp; omega) | simp, rfl, by have := HO5.out; simpa using this, by rw [← HSD.out, HSR.out hq, HP2.out, HQ2.out]; simp, by rw [← HSC.out, HSR.out hq, HP2.out, HQ2.out], HB5.out⟩, by simp [intOf]; omega⟩
    · skip
      have hpe : p = q := by omega
      subst hpe
      rw [gsF_same] at hsd hsc
      simp only [List.append_nil] at hsd
      have hsc : c = (gsF n m n false).2 := hsc
      subst hsc
      subst hsd
      obtain ⟨a, k, rfl, -⟩ := HO.out.slice
      rw [List.length_map] at HO ⊢
      obtain ⟨N, hN⟩ : ∃ N, N = (gsF n m n false).1.length := ⟨_, rfl⟩
      rw [← hN] at HO ⊢
      have hN1 : N ≤ 200 := by omega
      have HMX := hid (show ((gsF n m n false).1.map Value.bool).length ≤ 1000000000 by rw [List.length_map]; omega)
      clear hN hal
      go_wp2_with fail
      refine (revB_any a N k w.heap.size _ wr HO.out HMX.out).mono ?_
      rintro e2 w1 ⟨rfl, o1, b1⟩
      have HB1 := hid (b1.below HBwr.out HBwr.out.size (fun b hb => by have := HO.out.lt b (by simpa using hb); omega))
      have HO1 := hid o1
      clear b1 o1
      go_wp2_with fail
      go_returns
      exact ⟨_, rfl, by have := HO1.out; simpa using this, HB1.out⟩
end Go.Proofs.YtkakoiaahgchmaaDoor
namespace Go.Proofs.YtkakoiaahgchmaaDoor
set_option maxRecDepth 100000
open Go.ChangeShapes Go.WideShapes Go.ChangeAt Go.RowKit
/-- The trail of a log that grows. -/
def growT (A : List Int) (m n : Nat) (ds : List (List Int)) : List (List Int) := (trailF (startX A (gsF n m n false).2 ds) ((restX (gsF n m n false).2 ds).zip (gsF n m n false).1.reverse)).reverse
theorem restX_dg {c : Bool} {ds : List (List Int)} (h : ∀ d ∈ ds, Dg d) : ∀ d ∈ restX c ds, Dg d := fun d hd => by
  cases c with
  | false => exact h d hd
  | true => exact h d (List.mem_of_mem_drop (show d ∈ ds.drop 1 from hd))
theorem startX_dg {A : List Int} {c : Bool} {ds : List (List Int)} (hA : Dg A) (h : ∀ d ∈ ds, Dg d) (hl : oneIf c ≤ ds.length) : Dg (startX A c ds) := by
  cases c with
  | false => exact hA
  | true => exact Dg.getD h (show 0 < ds.length from hl)
theorem growT_small {A : List Int} {m n : Nat} {ds : List (List Int)} (hA : Dg A) (h : ∀ d ∈ ds, Dg d) (hl : ds.length = (gsF n m n false).1.length + oneIf (gsF n m n false).2) : ∀ t ∈ growT A m n ds, t.length = 65 := fun t ht => by
  unfold growT at ht
  exact trailF_len _ _ (startX_dg hA h (by omega)) (fun y hy => restX_dg h _ (List.of_mem_zip (a := y.1) (b := y.2) hy).1) t (List.mem_reverse.1 ht)
/-- Does a log grow so? -/
def isGrow (A : List Int) (m : Int) (B : List Int) (n : Int) (ds : List (List Int)) : Bool :=
  decide (1 ≤ m ∧ m ≤ n ∧ n ≤ 200) && (decide ((groZ n.toNat A m.toNat n.toNat false ds ds.length).2 = 0) && decide ((groZ n.toNat A m.toNat n.toNat false ds ds.length).1.1 = A) && decide ((groZ n.toNat A m.toNat n.toNat false ds ds.length).1.2 = B))
theorem isGrow_spec {A B : List Int} {m n : Int} {ds : List (List Int)} (h : isGrow A m B n ds = true) : ∃ M N : Nat, m = M ∧ n = N ∧ 1 ≤ M ∧ M ≤ N ∧ N ≤ 200 ∧ ds.length = (gsF N M N false).1.length + oneIf (gsF N M N false).2 ∧ (groZ N A M N false ds ds.length).1.1 = A ∧ topF (startX A (gsF N M N false).2 ds) ((restX (gsF N M N false).2 ds).zip (gsF N M N false).1.reverse) = B := by
  unfold isGrow at h
  simp only [Bool.and_eq_true, decide_eq_true_eq] at h
  obtain ⟨⟨h1, h2, h3⟩, ⟨h4, h5⟩, h6⟩ := h
  have hl := groZ_left A n.toNat m.toNat n.toNat false ds ds.length (Nat.le_refl _) (by omega) (by omega)
  have hle : ds.length = (gsF n.toNat m.toNat n.toNat false).1.length + oneIf (gsF n.toNat m.toNat n.toNat false).2 := by omega
  have ht := groZ_top A n.toNat m.toNat n.toNat false ds (Nat.le_refl _) (by omega) (by omega) (by omega)
  rw [← hle, h6, List.take_of_length_le (by rw [restX_length]; omega)] at ht
  exact ⟨m.toNat, n.toNat, by omega, by omega, by omega, by omega, by omega, hle, h5, ht.symm⟩
theorem grows_is (A B : List Int) (m n : Int) (ya : Option Addr) (yn yc : Nat) (ds : List (List Int)) (w : World) (hA : Dg A) (hB : Dg B) (hW : DigsAt w ya yn yc ds) (hyn : yn ≤ 1000000) (tab : ShaTab w) :
    Calls Tryd.prog 31 #[.agg (A.map (Value.int .u8)).toArray, .int .i64 m, .agg (B.map (Value.int .u8)).toArray, .int .i64 n, .slice ya yn yc] w fun e w' => e = .returned (.bool (isGrow A m B n ds)) ∧ Below w.heap.size w w' := by
  have hyl := hW.length
  unfold isGrow
  by_cases hb : 1 ≤ m ∧ m ≤ n ∧ n ≤ 200
  · obtain ⟨N, rfl⟩ := Int.eq_ofNat_of_zero_le (show 0 ≤ n by omega)
    obtain ⟨M, rfl⟩ := Int.eq_ofNat_of_zero_le (show 0 ≤ m by omega)
    have hg := grows_good A B M N ya yn yc ds w hA hB (by omega) (by omega) (by omega) hW hyn tab
    rw [decide_eq_true hb, Bool.true_and, hyl]
    exact hg
  · rw [decide_eq_false hb, Bool.false_and]
    exact grows_bad A B m n ya yn yc w hA hB (by omega)
theorem growT_part {A B R : List Int} {m n : Nat} {d1 d2 : List (List Int)} (hA : Dg A) (hB : Dg B) (h1m : 1 ≤ m) (hmn : m ≤ n) (h1 : d1.length = (gsF n m n false).1.length + oneIf (gsF n m n false).2) (h2 : d2.length = (gsF n m n false).1.length + oneIf (gsF n m n false).2) (hd1 : ∀ d ∈ d1, Dg d) (hd2 : ∀ d ∈ d2, Dg d)
    (g1 : (groZ n A m n false d1 d1.length).1.1 = A) (g2 : (groZ n B m n false d2 d2.length).1.1 = B)
    (t1 : topF (startX A (gsF n m n false).2 d1) ((restX (gsF n m n false).2 d1).zip (gsF n m n false).1.reverse) = R) (t2 : topF (startX B (gsF n m n false).2 d2) ((restX (gsF n m n false).2 d2).zip (gsF n m n false).1.reverse) = R) (hn : A ≠ B) :
    ∃ k, firstU (growT A m n d1) (growT B m n d2) = some k ∧ sumZ ((growT A m n d1).getD k []) = sumZ ((growT B m n d2).getD k []) := by
  have hi := groZ_indep A B n m n false d1 d1.length (Nat.le_refl _) h1m hmn
  unfold growT
  generalize gsF n m n false = g at *
  rcases trails_part0 g.1.reverse (restX g.2 d1) (restX g.2 d2) _ _ (startX_dg hA hd1 (by omega)) (startX_dg hB hd2 (by omega)) (by rw [restX_length, List.length_reverse]; omega) (by rw [restX_length, List.length_reverse]; omega) (restX_dg hd1) (restX_dg hd2) (t1.trans t2.symm) with ⟨q1, q2⟩ | h
  · exfalso
    cases hc : g.2 with
    | false =>
      rw [hc] at q1
      exact hn q1
    | true =>
      rw [hc] at q1 q2 h1 h2
      have e : d1 = d2 := by
        cases d1 with
        | nil => simp [oneIf] at h1
        | cons x d1 =>
          cases d2 with
          | nil => simp [oneIf] at h2
          | cons y d2 =>
            have q1 : x = y := by simpa [startX] using q1
            have q2 : d1 = d2 := by simpa [restX] using q2
            rw [q1, q2]
      subst e
      exact hn (g1.symm.trans ((congrArg (fun z => z.1.1) (hi hc)).trans g2))
  · exact h
set_option maxHeartbeats 4000000 in
theorem growTrail_plain (A : List Int) (m n : Nat) (ya : Option Addr) (yn yc : Nat) (ds : List (List Int)) (w : World) (hA : Dg A) (hm1 : 1 ≤ m) (hmn : m ≤ n) (hn2 : n ≤ 200) (hW : DigsAt w ya yn yc ds) (hyn : yn ≤ 300) (hl : ds.length = (gsF n m n false).1.length + oneIf (gsF n m n false).2) (tab : ShaTab w) (hcut : (gsF n m n false).2 = false) :
    Calls Tryd.prog 15 #[.agg (A.map (Value.int .u8)).toArray, .int .i64 m, .int .i64 n, .slice ya yn yc] w fun e w' => ∃ v, e = .returned v ∧ ∃ Sx base, w.heap.size ≤ base ∧ OwnR w' Sx base v (growT A m n ds) ∧ Below w.heap.size w w' := by
  have b1 := (Below.refl w.heap.size w).alloc (Nat.le_refl _) (.cells (A.map (Value.int .u8)).toArray 23 (0, 0))
  have b2 := b1.alloc b1.size (.cells (byteCells 32 []) 23 (0, 0))
  have Kz := hid ((Blk.new (w := w) (n := w.heap.size) rfl (A.map (Value.int .u8)).toArray 23).old (.cells (byteCells 32 []) 23 (0, 0)))
  have Kx := hid (Blk.new (w := (w.alloc (.cells (A.map (Value.int .u8)).toArray 23 (0, 0)))) (n := w.heap.size + 1) (by simp only [World.size_alloc]) (byteCells 32 []) 23)
  have Hb := hid b2
  have hbz := b2.size
  have Hbs := hid (show w.heap.size + 1 + 1 = ((w.alloc (.cells (A.map (Value.int .u8)).toArray 23 (0, 0))).alloc (.cells (byteCells 32 []) 23 (0, 0))).heap.size by simp only [World.size_alloc])
  have Htab := hid tab
  clear b1 b2 tab 
  have Kz1 := hid (Blk.new (w := w) (n := w.heap.size) rfl (A.map (Value.int .u8)).toArray 23)
  have HW := hid hW
  have hyl := hW.length
  have h0 : ¬ (m : Int) < 1 := by omega
  have h1 : ¬ (n : Int) < (m : Int) := by omega
  have h2 : ¬ (200 : Int) < n := by omega
  have GS := hid (fun W : World => growSides_any m n W hm1 hmn hn2)
  rw [hcut] at GS hl
  have hrl : (gsF n m n false).1.reverse.length = yn := by rw [List.length_reverse]; simp only [oneIf, Bool.false_eq_true, if_false] at hl; omega
  clear hW
  go_enter Tryd.func15, Tryd.ntmps15
  go_wp2_with (first
     | (refine wpList_load_blk rfl 23 _ rfl (w.heap.size) rfl _ 23 Kz1.out _ Tryd.underlying23 rfl 32 size_digest hA.size ?_)
     | (
        refine wpList_store_blk rfl 23 _ _ rfl (w.heap.size + 1) (A.map (Value.int .u8)).toArray rfl rfl _ 23 Kx.out 32 size_digest zsize hA.size (ints_one _ _) ?_
        intro w1 hbw1 hkw1
        have HBw1 := hid (hbw1.below Hb.out Hb.out.size (by omega))
        have hsw1 := HBw1.out.size
        have Kzw1 := hid (hbw1.blk Kz.out (by have := Kz.out.lt; omega))
        have Kxw1 := hid hkw1
        clear hbw1 hkw1))
  refine (GS.out _).mono ?_
  rintro e w3 ⟨v1, rfl, o1, b1⟩
  obtain ⟨ga, gc, rfl, hg1⟩ := BoolsAt.of_own o1
  rw [hrl] at hg1 ⊢
  have HG := hid hg1
  have HBw3 := hid (Below.on HBw1.out b1)
  have hsw3 := HBw3.out.size
  have Kzw3 := hid (Kzw1.out.below b1)
  have Kxw3 := hid (Kxw1.out.below b1)
  clear o1 b1 hg1
  go_wp2_with (refine wpList_load_blk rfl 23 _ rfl (w.heap.size + 1) rfl _ 23 Kxw3.out _ Tryd.underlying23 rfl 32 size_digest hA.size ?_)
  refine (climbed_nil A ya yn yc ds ga gc (gsF n m n false).1.reverse w3 hA (HW.out.below HBw3.out) HG.out (by omega) (Htab.out.below HBw3.out)).mono ?_
  rintro e w9 ⟨v9, rfl, Sx, base, q1, q2, q3⟩
  have HO9 := hid q2
  have HB9 := hid (Below.on HBw3.out q3)
  have h19 := Nat.le_trans HBw3.out.size q1
  clear q1 q2 q3
  go_wp2_with fail
  go_returns
  exact ⟨_, rfl, Sx, base, h19, by have := HO9.out; unfold growT; rw [hcut]; simpa [startX, restX] using this, HB9.out⟩
set_option maxHeartbeats 4000000 in
theorem growTrail_cut (A : List Int) (m n : Nat) (ya : Option Addr) (yn yc : Nat) (ds : List (List Int)) (w : World) (hA : Dg A) (hm1 : 1 ≤ m) (hmn : m ≤ n) (hn2 : n ≤ 200) (hW : DigsAt w ya yn yc ds) (hyn : yn ≤ 300) (hl : ds.length = (gsF n m n false).1.length + oneIf (gsF n m n false).2) (tab : ShaTab w) (hcut : (gsF n m n false).2 = true) :
    Calls Tryd.prog 15 #[.agg (A.map (Value.int .u8)).toArray, .int .i64 m, .int .i64 n, .slice ya yn yc] w fun e w' => ∃ v, e = .returned v ∧ ∃ Sx base, w.heap.size ≤ base ∧ OwnR w' Sx base v (growT A m n ds) ∧ Below w.heap.size w w' := by
  have b1 := (Below.refl w.heap.size w).alloc (Nat.le_refl _) (.cells (A.map (Value.int .u8)).toArray 23 (0, 0))
  have b2 := b1.alloc b1.size (.cells (byteCells 32 []) 23 (0, 0))
  have Kz := hid ((Blk.new (w := w) (n := w.heap.size) rfl (A.map (Value.int .u8)).toArray 23).old (.cells (byteCells 32 []) 23 (0, 0)))
  have Kx := hid (Blk.new (w := (w.alloc (.cells (A.map (Value.int .u8)).toArray 23 (0, 0)))) (n := w.heap.size + 1) (by simp only [World.size_alloc]) (byteCells 32 []) 23)
  have Hb := hid b2
  have hbz := b2.size
  have Hbs := hid (show w.heap.size + 1 + 1 = ((w.alloc (.cells (A.map (Value.int .u8)).toArray 23 (0, 0))).alloc (.cells (byteCells 32 []) 23 (0, 0))).heap.size by simp only [World.size_alloc])
  have Htab := hid tab
  clear b1 b2 tab 
  have Kz1 := hid (Blk.new (w := w) (n := w.heap.size) rfl (A.map (Value.int .u8)).toArray 23)
  have HW := hid hW
  have hyl := hW.length
  have h0 : ¬ (m : Int) < 1 := by omega
  have h1 : ¬ (n : Int) < (m : Int) := by omega
  have h2 : ¬ (200 : Int) < n := by omega
  have GS := hid (fun W : World => growSides_any m n W hm1 hmn hn2)
  rw [hcut] at GS hl
  have hrl : (gsF n m n false).1.reverse.length = yn - 1 := by rw [List.length_reverse]; simp only [oneIf, if_true] at hl; omega
  have hy1 : 1 ≤ yn := by simp only [oneIf, if_true] at hl; omega
  have hy0 : ¬ (yn : Int) = 0 := by omega
  obtain ⟨g0, go, rfl, hg0, hgc⟩ := hW.at_ (by omega)
  have Hc0 := hid (hgc 0 (by omega))
  have HC := hid (hW.cut 1 yn (by omega) (Nat.le_refl _))
  have HSd := hid (hW.get (show 0 < yn by omega))
  clear hgc
  clear hW
  go_enter Tryd.func15, Tryd.ntmps15
  go_wp2_with (first
     | (refine wpList_load_blk rfl 23 _ rfl (w.heap.size) rfl _ 23 Kz1.out _ Tryd.underlying23 rfl 32 size_digest hA.size ?_)
     | (
        refine wpList_store_blk rfl 23 _ _ rfl (w.heap.size + 1) (A.map (Value.int .u8)).toArray rfl rfl _ 23 Kx.out 32 size_digest zsize hA.size (ints_one _ _) ?_
        intro w1 hbw1 hkw1
        have HBw1 := hid (hbw1.below Hb.out Hb.out.size (by omega))
        have hsw1 := HBw1.out.size
        have Kzw1 := hid (hbw1.blk Kz.out (by have := Kz.out.lt; omega))
        have Kxw1 := hid hkw1
        clear hbw1 hkw1))
  refine (GS.out _).mono ?_
  rintro e w3 ⟨v1, rfl, o1, b1⟩
  obtain ⟨ga, gc, rfl, hg1⟩ := BoolsAt.of_own o1
  have HGN := hid (fun (g : Nat) (hg : ga = some ⟨g, 0, none⟩) => show w.heap.size + 1 < g from by
    obtain ⟨a', c', e', hh, -⟩ := o1.slice
    injection e' with e1 e2 e3
    subst e1
    obtain ⟨g', e4, hg'⟩ := hh _ hg
    cases e4
    have := Kxw1.out.lt
    omega)
  rw [hrl] at hg1 ⊢
  have HG := hid hg1
  have HBw3 := hid (Below.on HBw1.out b1)
  have hsw3 := HBw3.out.size
  have Kzw3 := hid (Kzw1.out.below b1)
  have Kxw3 := hid (Kxw1.out.below b1)
  clear o1 b1 hg1
  go_wp2_with fail
  generalize hS0 : ds.getD 0 [] = S0 at *
  have hwx : w.heap.size + 1 < w3.heap.size := Kxw3.out.lt
  refine FlowB.wp_region_butIn [w.heap.size + 1] (fun wz => Blk wz (w.heap.size + 1) (A.map (Value.int .u8)).toArray 23) 6 [0, 1, 2, 3, 4] [] [(.c 5, [], [])] (by kernel_rfl) (by kernel_rfl) Kxw3.out (fun _ _ h hb => h.below hb) ?_
  apply Exists.intro
  refine ⟨fun w0 hb0 hF0 => ?_, ?_⟩
  · skip
    have yr : ∀ w', (∃ x : Ext w0, w' = x.at_) → w'.rangeAt g0 (go + 0 * 32) (S0.map (Value.int .u8)) := fun w' ⟨x, hx⟩ => by
      rw [hx]
      exact rangeAt_below (w := w0) (fun j v hv => by
        have h1 := HBw3.out
        rw [show w0.cell? ⟨g0, go + 0 * 32 + j, none⟩ = w.cell? ⟨g0, go + 0 * 32 + j, none⟩ from (hb0.below HBw3.out h1.size (by intro b hb; simp only [List.mem_singleton] at hb; omega)).cell (p := ⟨g0, go + 0 * 32 + j, none⟩) hg0]
        exact Hc0.out j v hv) (by have := hb0.size; have := HBw3.out.size; omega) x.same
    simp only [pick, List.getElem?_toArray, List.getElem?_cons_succ, List.getElem?_cons_zero, Option.toList_some, List.cons_append, List.nil_append]
    repeat (first | (go_big_quiet_want; refine quiet_index_digs 24 _ _ rfl Tryd.underlying24 size_digest g0 go yn yc rfl _ _ rfl 0 rfl (by omega) ?_; go_big_quiet_on; simp only [Act.put, List.setIfInBounds_toArray, List.set_cons_zero, List.set_cons_succ]) | (go_big_quiet_want; refine quiet_load_mid 23 _ rfl g0 (go + 0 * 32) rfl _ yr _ Tryd.underlying23 rfl (by rw [List.length_map, HSd.out.len]; exact size_digest) ?_; go_big_quiet_on; simp only [Act.put, List.setIfInBounds_toArray, List.set_cons_zero, List.set_cons_succ]) | (go_big_quiet_want; refine quiet_cut_l _ _ rfl (some ⟨g0, go, none⟩) yn yc 1 _ rfl rfl rfl (by omega) ?_; go_big_quiet_on; simp only [Act.put, List.setIfInBounds_toArray, List.set_cons_zero, List.set_cons_succ]) | go_big_quiet_step (fail))
    exact wpQuiet_nil rfl
  refine FlowB.AlChk.nil ?_
  refine FlowB.Walk.skips rfl (fun wz => Blk wz (w.heap.size + 1) (S0.map (Value.int .u8)).toArray 23) (fun _ _ h hb => h.below hb) rfl (fun w1 hb1 hF1 hG1 => ?_) ?_
  · exact FlowB.store_skips 23 _ _ rfl (w.heap.size + 1) (S0.map (Value.int .u8)).toArray rfl rfl _ 23 hG1 32 size_digest hA.size HSd.out.size (ints_one _ _) (by simp) (fun w2 h2 h3 => h3)
  intro w1 hb1 hF1
  apply Exists.intro
  refine ⟨fun w2 hb2 hF2 => wpQuiet_nil rfl, ?_⟩
  refine FlowB.AlChk.nil ?_
  refine FlowB.Walk.fin fun w4 h4 _ hG4 => ?_
  simp only [List.drop_succ_cons, List.drop_zero]
  have HBw4 := hid (h4.below HBw3.out HBw3.out.size (by intro b hb; simp only [List.mem_singleton] at hb; omega))
  have hsw4 := HBw4.out.size
  have HG4 := hid (show BoolsAt w4 ga (yn - 1) gc (gsF n m n false).1.reverse from by
    obtain ⟨q1, q2, q3 | ⟨g, rfl, q4, q5⟩⟩ := HG.out
    · exact ⟨q1, q2, .inl q3⟩
    · refine ⟨q1, q2, .inr ⟨g, rfl, Nat.lt_of_lt_of_le q4 h4.size, fun j hj => ?_⟩⟩
      rw [← q5 j hj]
      unfold World.cell?
      rw [show w4.heap[g]? = w3.heap[g]? from h4.block g q4 (by simp only [List.mem_singleton]; have := HGN.out g rfl; omega)])
  have Kxw4 := hid hG4
  clear h4 hG4 hb1 hF1
  go_wp2_with (refine wpList_load_blk rfl 23 _ rfl (w.heap.size + 1) rfl _ 23 Kxw4.out _ Tryd.underlying23 rfl 32 size_digest HSd.out.size ?_)
  refine (climbed_nil S0 (cutD (some ⟨g0, go, none⟩) 1 yc) (yn - 1) (yc - 1) ((ds.drop 1).take (yn - 1)) ga gc (gsF n m n false).1.reverse w4 HSd.out (HC.out.below HBw4.out) HG4.out (by omega) (Htab.out.below HBw4.out)).mono ?_
  rintro e w9 ⟨v9, rfl, Sx, base, q1, q2, q3⟩
  have HO9 := hid q2
  have HB9 := hid (Below.on HBw4.out q3)
  have h19 := Nat.le_trans HBw4.out.size q1
  clear q1 q2 q3
  go_wp2_with fail
  go_returns
  exact ⟨_, rfl, Sx, base, h19, by have := HO9.out; unfold growT; rw [hcut]; rw [List.take_of_length_le (by simp; omega)] at this; simpa [startX, restX, hS0, ← List.getD_eq_getElem?_getD] using this, HB9.out⟩
end Go.Proofs.YtkakoiaahgchmaaDoor
namespace Go.Proofs.YtkakoiaahgchmaaDoor
set_option maxRecDepth 100000
open Go.ChangeShapes Go.WideShapes Go.ChangeAt Go.RowKit
def TextsV (ts : List (List Int)) (v : Value) (w : World) : Prop := ∃ a n c, v = .slice a n c ∧ TextsAt w a n c ts
theorem TextsV.below {ts : List (List Int)} {v : Value} {w w' : World} (h : TextsV ts v w) (hb : Below w.heap.size w w') : TextsV ts v w' := by
  obtain ⟨a, n, c, h1, h2⟩ := h
  exact ⟨a, n, c, h1, h2.below hb⟩
def PairV (X Y : List Int) (v : Value) (w : World) : Prop := ∃ x y, v = .tuple #[x, y, .bool true] ∧ TextV X x w ∧ TextV Y y w
theorem PairV.below {X Y : List Int} {v : Value} {w w' : World} (h : PairV X Y v w) (hb : Below w.heap.size w w') : PairV X Y v w' := by
  obtain ⟨x, y, h1, h2, h3⟩ := h
  exact ⟨x, y, h1, h2.below hb, h3.below hb⟩
theorem growTrail_any (A : List Int) (m n : Nat) (ya : Option Addr) (yn yc : Nat) (ds : List (List Int)) (w : World) (hA : Dg A) (hm1 : 1 ≤ m) (hmn : m ≤ n) (hn2 : n ≤ 200) (hW : DigsAt w ya yn yc ds) (hyn : yn ≤ 300) (hl : ds.length = (gsF n m n false).1.length + oneIf (gsF n m n false).2) (tab : ShaTab w) :
    Calls Tryd.prog 15 #[.agg (A.map (Value.int .u8)).toArray, .int .i64 m, .int .i64 n, .slice ya yn yc] w fun e w' => ∃ v, e = .returned v ∧ Below w.heap.size w w' ∧ TextsV (growT A m n ds) v w' := by
  cases hc : (gsF n m n false).2 with
  | false =>
    refine (growTrail_plain A m n ya yn yc ds w hA hm1 hmn hn2 hW hyn hl tab hc).mono ?_
    rintro e w' ⟨v, rfl, S, base, -, o, b⟩
    obtain ⟨a, c, rfl, t⟩ := o.texts
    exact ⟨_, rfl, b, a, _, c, rfl, t⟩
  | true =>
    refine (growTrail_cut A m n ya yn yc ds w hA hm1 hmn hn2 hW hyn hl tab hc).mono ?_
    rintro e w' ⟨v, rfl, S, base, -, o, b⟩
    obtain ⟨a, c, rfl, t⟩ := o.texts
    exact ⟨_, rfl, b, a, _, c, rfl, t⟩
set_option maxHeartbeats 4000000 in
theorem logs_same (r : List Int) (n i : Int) (a b : List Int) (ya : Option Addr) (yn yc : Nat) (ds : List (List Int)) (za : Option Addr) (zn zc : Nat) (es : List (List Int)) (w : World) (hr : Dg r) (ha : Dg a) (hb : Dg b) (hY : DigsAt w ya yn yc ds) (hW : DigsAt w za zn zc es) (tab : ShaTab w) (hb3 : yn ≤ 40) (hb4 : zn ≤ 40) (hq : a = b) :
    Calls Tryd.prog 30 #[.agg (r.map (Value.int .u8)).toArray, .int .i64 n, .int .i64 i, .agg (a.map (Value.int .u8)).toArray, .agg (b.map (Value.int .u8)).toArray, .slice ya yn yc, .slice za zn zc] w fun e w' => e = .returned (.tuple #[.slice none 0 0, .slice none 0 0, .bool false]) ∧ Below w.heap.size w w' := by
  have b1 := (Below.refl w.heap.size w).alloc (Nat.le_refl _) (.cells (r.map (Value.int .u8)).toArray 23 (0, 0))
  have b2 := b1.alloc b1.size (.cells (a.map (Value.int .u8)).toArray 23 (0, 0))
  have b3 := b2.alloc b2.size (.cells (b.map (Value.int .u8)).toArray 23 (0, 0))
  have Kr := hid (((Blk.new (w := w) (n := w.heap.size) rfl (r.map (Value.int .u8)).toArray 23).old (.cells (a.map (Value.int .u8)).toArray 23 (0, 0))).old (.cells (b.map (Value.int .u8)).toArray 23 (0, 0)))
  have Ka := hid ((Blk.new (w := (w.alloc (.cells (r.map (Value.int .u8)).toArray 23 (0, 0)))) (n := w.heap.size + 1) (by simp only [World.size_alloc]) (a.map (Value.int .u8)).toArray 23).old (.cells (b.map (Value.int .u8)).toArray 23 (0, 0)))
  have Kb := hid (Blk.new (w := ((w.alloc (.cells (r.map (Value.int .u8)).toArray 23 (0, 0))).alloc (.cells (a.map (Value.int .u8)).toArray 23 (0, 0)))) (n := w.heap.size + 1 + 1) (by simp only [World.size_alloc]) (b.map (Value.int .u8)).toArray 23)
  have Hb := hid b3
  have hbz := b3.size
  have Hbs := hid (show w.heap.size + 1 + 1 + 1 = (((w.alloc (.cells (r.map (Value.int .u8)).toArray 23 (0, 0))).alloc (.cells (a.map (Value.int .u8)).toArray 23 (0, 0))).alloc (.cells (b.map (Value.int .u8)).toArray 23 (0, 0))).heap.size by simp only [World.size_alloc])
  have Htab := hid tab
  clear b1 b2 b3 tab 
  have HY := hid hY
  have HW := hid hW
  have I1 := hid (fun (W : World) (h2 : DigsAt W ya yn yc ds) (h3 : ShaTab W) => grows_is a r i n ya yn yc ds W ha hr h2 (by omega) h3)
  have I2 := hid (fun (W : World) (h2 : DigsAt W za zn zc es) (h3 : ShaTab W) => grows_is b r i n za zn zc es W hb hr h2 (by omega) h3)
  have qe := fun W : World => eqD a b ha.len hb.len W
  simp only [decide_eq_true hq] at qe
  clear hq
  clear hY hW
  go_enter Tryd.func30, Tryd.ntmps30
  go_wp2_with (first
     | (refine wpList_load_blk rfl 23 _ rfl (w.heap.size + 1) rfl _ 23 Ka.out _ Tryd.underlying23 rfl 32 size_digest ha.size ?_)
     | (refine wpList_load_blk rfl 23 _ rfl (w.heap.size + 1 + 1) rfl _ 23 Kb.out _ Tryd.underlying23 rfl 32 size_digest hb.size ?_))
  go_returns
  exact ⟨rfl, Hb.out⟩
set_option maxHeartbeats 4000000 in
theorem logs_first (r : List Int) (n i : Int) (a b : List Int) (ya : Option Addr) (yn yc : Nat) (ds : List (List Int)) (za : Option Addr) (zn zc : Nat) (es : List (List Int)) (w : World) (hr : Dg r) (ha : Dg a) (hb : Dg b) (hY : DigsAt w ya yn yc ds) (hW : DigsAt w za zn zc es) (tab : ShaTab w) (hb3 : yn ≤ 40) (hb4 : zn ≤ 40) (hq : ¬ a = b) (h1 : isGrow a i r n ds = false) :
    Calls Tryd.prog 30 #[.agg (r.map (Value.int .u8)).toArray, .int .i64 n, .int .i64 i, .agg (a.map (Value.int .u8)).toArray, .agg (b.map (Value.int .u8)).toArray, .slice ya yn yc, .slice za zn zc] w fun e w' => e = .returned (.tuple #[.slice none 0 0, .slice none 0 0, .bool false]) ∧ Below w.heap.size w w' := by
  have b1 := (Below.refl w.heap.size w).alloc (Nat.le_refl _) (.cells (r.map (Value.int .u8)).toArray 23 (0, 0))
  have b2 := b1.alloc b1.size (.cells (a.map (Value.int .u8)).toArray 23 (0, 0))
  have b3 := b2.alloc b2.size (.cells (b.map (Value.int .u8)).toArray 23 (0, 0))
  have Kr := hid (((Blk.new (w := w) (n := w.heap.size) rfl (r.map (Value.int .u8)).toArray 23).old (.cells (a.map (Value.int .u8)).toArray 23 (0, 0))).old (.cells (b.map (Value.int .u8)).toArray 23 (0, 0)))
  have Ka := hid ((Blk.new (w := (w.alloc (.cells (r.map (Value.int .u8)).toArray 23 (0, 0)))) (n := w.heap.size + 1) (by simp only [World.size_alloc]) (a.map (Value.int .u8)).toArray 23).old (.cells (b.map (Value.int .u8)).toArray 23 (0, 0)))
  have Kb := hid (Blk.new (w := ((w.alloc (.cells (r.map (Value.int .u8)).toArray 23 (0, 0))).alloc (.cells (a.map (Value.int .u8)).toArray 23 (0, 0)))) (n := w.heap.size + 1 + 1) (by simp only [World.size_alloc]) (b.map (Value.int .u8)).toArray 23)
  have Hb := hid b3
  have hbz := b3.size
  have Hbs := hid (show w.heap.size + 1 + 1 + 1 = (((w.alloc (.cells (r.map (Value.int .u8)).toArray 23 (0, 0))).alloc (.cells (a.map (Value.int .u8)).toArray 23 (0, 0))).alloc (.cells (b.map (Value.int .u8)).toArray 23 (0, 0))).heap.size by simp only [World.size_alloc])
  have Htab := hid tab
  clear b1 b2 b3 tab 
  have HY := hid hY
  have HW := hid hW
  have I1 := hid (fun (W : World) (h2 : DigsAt W ya yn yc ds) (h3 : ShaTab W) => grows_is a r i n ya yn yc ds W ha hr h2 (by omega) h3)
  have I2 := hid (fun (W : World) (h2 : DigsAt W za zn zc es) (h3 : ShaTab W) => grows_is b r i n za zn zc es W hb hr h2 (by omega) h3)
  have qe := fun W : World => eqD a b ha.len hb.len W
  simp only [decide_eq_false hq] at qe
  rw [h1] at I1
  clear hY hW
  go_enter Tryd.func30, Tryd.ntmps30
  go_wp2_with (first
     | (refine wpList_load_blk rfl 23 _ rfl (w.heap.size + 1) rfl _ 23 Ka.out _ Tryd.underlying23 rfl 32 size_digest ha.size ?_)
     | (refine wpList_load_blk rfl 23 _ rfl (w.heap.size + 1 + 1) rfl _ 23 Kb.out _ Tryd.underlying23 rfl 32 size_digest hb.size ?_)
     | (refine wpList_load_blk_if (by first | rfl | go_simp) 23 _ rfl (w.heap.size + 1) rfl _ 23 Ka.out _ Tryd.underlying23 rfl 32 size_digest ha.size ?_)
     | (refine wpList_load_blk_if (by first | rfl | go_simp) 23 _ rfl (w.heap.size) rfl _ 23 Kr.out _ Tryd.underlying23 rfl 32 size_digest hr.size ?_))
  refine (I1.out _ (HY.out.below Hb.out) (Htab.out.below Hb.out)).mono ?_
  rintro e w1 ⟨rfl, bw1⟩
  have HBw1 := hid (Below.on Hb.out bw1)
  have hsw1 := HBw1.out.size
  have Krw1 := hid (Kr.out.below bw1)
  have Kaw1 := hid (Ka.out.below bw1)
  have Kbw1 := hid (Kb.out.below bw1)
  clear bw1
  go_wp2_with fail
  go_returns
  exact ⟨rfl, HBw1.out⟩
set_option maxHeartbeats 4000000 in
theorem logs_second (r : List Int) (n i : Int) (a b : List Int) (ya : Option Addr) (yn yc : Nat) (ds : List (List Int)) (za : Option Addr) (zn zc : Nat) (es : List (List Int)) (w : World) (hr : Dg r) (ha : Dg a) (hb : Dg b) (hY : DigsAt w ya yn yc ds) (hW : DigsAt w za zn zc es) (tab : ShaTab w) (hb3 : yn ≤ 40) (hb4 : zn ≤ 40) (hq : ¬ a = b) (h1 : isGrow a i r n ds = true) (h2 : isGrow b i r n es = false) :
    Calls Tryd.prog 30 #[.agg (r.map (Value.int .u8)).toArray, .int .i64 n, .int .i64 i, .agg (a.map (Value.int .u8)).toArray, .agg (b.map (Value.int .u8)).toArray, .slice ya yn yc, .slice za zn zc] w fun e w' => e = .returned (.tuple #[.slice none 0 0, .slice none 0 0, .bool false]) ∧ Below w.heap.size w w' := by
  have b1 := (Below.refl w.heap.size w).alloc (Nat.le_refl _) (.cells (r.map (Value.int .u8)).toArray 23 (0, 0))
  have b2 := b1.alloc b1.size (.cells (a.map (Value.int .u8)).toArray 23 (0, 0))
  have b3 := b2.alloc b2.size (.cells (b.map (Value.int .u8)).toArray 23 (0, 0))
  have Kr := hid (((Blk.new (w := w) (n := w.heap.size) rfl (r.map (Value.int .u8)).toArray 23).old (.cells (a.map (Value.int .u8)).toArray 23 (0, 0))).old (.cells (b.map (Value.int .u8)).toArray 23 (0, 0)))
  have Ka := hid ((Blk.new (w := (w.alloc (.cells (r.map (Value.int .u8)).toArray 23 (0, 0)))) (n := w.heap.size + 1) (by simp only [World.size_alloc]) (a.map (Value.int .u8)).toArray 23).old (.cells (b.map (Value.int .u8)).toArray 23 (0, 0)))
  have Kb := hid (Blk.new (w := ((w.alloc (.cells (r.map (Value.int .u8)).toArray 23 (0, 0))).alloc (.cells (a.map (Value.int .u8)).toArray 23 (0, 0)))) (n := w.heap.size + 1 + 1) (by simp only [World.size_alloc]) (b.map (Value.int .u8)).toArray 23)
  have Hb := hid b3
  have hbz := b3.size
  have Hbs := hid (show w.heap.size + 1 + 1 + 1 = (((w.alloc (.cells (r.map (Value.int .u8)).toArray 23 (0, 0))).alloc (.cells (a.map (Value.int .u8)).toArray 23 (0, 0))).alloc (.cells (b.map (Value.int .u8)).toArray 23 (0, 0))).heap.size by simp only [World.size_alloc])
  have Htab := hid tab
  clear b1 b2 b3 tab 
  have HY := hid hY
  have HW := hid hW
  have I1 := hid (fun (W : World) (h2 : DigsAt W ya yn yc ds) (h3 : ShaTab W) => grows_is a r i n ya yn yc ds W ha hr h2 (by omega) h3)
  have I2 := hid (fun (W : World) (h2 : DigsAt W za zn zc es) (h3 : ShaTab W) => grows_is b r i n za zn zc es W hb hr h2 (by omega) h3)
  have qe := fun W : World => eqD a b ha.len hb.len W
  simp only [decide_eq_false hq] at qe
  rw [h1] at I1
  rw [h2] at I2
  clear hY hW
  go_enter Tryd.func30, Tryd.ntmps30
  go_wp2_with (first
     | (refine wpList_load_blk rfl 23 _ rfl (w.heap.size + 1) rfl _ 23 Ka.out _ Tryd.underlying23 rfl 32 size_digest ha.size ?_)
     | (refine wpList_load_blk rfl 23 _ rfl (w.heap.size + 1 + 1) rfl _ 23 Kb.out _ Tryd.underlying23 rfl 32 size_digest hb.size ?_)
     | (refine wpList_load_blk_if (by first | rfl | go_simp) 23 _ rfl (w.heap.size + 1) rfl _ 23 Ka.out _ Tryd.underlying23 rfl 32 size_digest ha.size ?_)
     | (refine wpList_load_blk_if (by first | rfl | go_simp) 23 _ rfl (w.heap.size) rfl _ 23 Kr.out _ Tryd.underlying23 rfl 32 size_digest hr.size ?_))
  refine (I1.out _ (HY.out.below Hb.out) (Htab.out.below Hb.out)).mono ?_
  rintro e w1 ⟨rfl, bw1⟩
  have HBw1 := hid (Below.on Hb.out bw1)
  have hsw1 := HBw1.out.size
  have Krw1 := hid (Kr.out.below bw1)
  have Kaw1 := hid (Ka.out.below bw1)
  have Kbw1 := hid (Kb.out.below bw1)
  clear bw1
  go_wp2_with (first
     | (refine wpList_load_blk_if (by first | rfl | go_simp) 23 _ rfl (w.heap.size + 1 + 1) rfl _ 23 Kbw1.out _ Tryd.underlying23 rfl 32 size_digest hb.size ?_)
     | (refine wpList_load_blk_if (by first | rfl | go_simp) 23 _ rfl (w.heap.size) rfl _ 23 Krw1.out _ Tryd.underlying23 rfl 32 size_digest hr.size ?_))
  refine (I2.out _ (HW.out.below HBw1.out) (Htab.out.below HBw1.out)).mono ?_
  rintro e w2 ⟨rfl, bw2⟩
  have HBw2 := hid (Below.on HBw1.out bw2)
  have hsw2 := HBw2.out.size
  have Krw2 := hid (Krw1.out.below bw2)
  have Kaw2 := hid (Kaw1.out.below bw2)
  have Kbw2 := hid (Kbw1.out.below bw2)
  clear bw2
  go_wp2_with fail
  go_returns
  exact ⟨rfl, HBw2.out⟩
set_option maxHeartbeats 4000000 in
theorem logs_both (r : List Int) (n i : Int) (a b : List Int) (ya : Option Addr) (yn yc : Nat) (ds : List (List Int)) (za : Option Addr) (zn zc : Nat) (es : List (List Int)) (w : World) (hr : Dg r) (ha : Dg a) (hb : Dg b) (hY : DigsAt w ya yn yc ds) (hW : DigsAt w za zn zc es) (tab : ShaTab w) (hb3 : yn ≤ 40) (hb4 : zn ≤ 40) (hq : ¬ a = b) (h1 : isGrow a i r n ds = true) (h2 : isGrow b i r n es = true) :
    Calls Tryd.prog 30 #[.agg (r.map (Value.int .u8)).toArray, .int .i64 n, .int .i64 i, .agg (a.map (Value.int .u8)).toArray, .agg (b.map (Value.int .u8)).toArray, .slice ya yn yc, .slice za zn zc] w fun e w' => ∃ x y X Y, e = .returned (.tuple #[x, y, .bool true]) ∧ TextV X x w' ∧ TextV Y y w' ∧ X.length ≤ 65 ∧ Y.length ≤ 65 ∧ X ≠ Y ∧ sumZ X = sumZ Y ∧ Below w.heap.size w w' := by
  have b1 := (Below.refl w.heap.size w).alloc (Nat.le_refl _) (.cells (r.map (Value.int .u8)).toArray 23 (0, 0))
  have b2 := b1.alloc b1.size (.cells (a.map (Value.int .u8)).toArray 23 (0, 0))
  have b3 := b2.alloc b2.size (.cells (b.map (Value.int .u8)).toArray 23 (0, 0))
  have Kr := hid (((Blk.new (w := w) (n := w.heap.size) rfl (r.map (Value.int .u8)).toArray 23).old (.cells (a.map (Value.int .u8)).toArray 23 (0, 0))).old (.cells (b.map (Value.int .u8)).toArray 23 (0, 0)))
  have Ka := hid ((Blk.new (w := (w.alloc (.cells (r.map (Value.int .u8)).toArray 23 (0, 0)))) (n := w.heap.size + 1) (by simp only [World.size_alloc]) (a.map (Value.int .u8)).toArray 23).old (.cells (b.map (Value.int .u8)).toArray 23 (0, 0)))
  have Kb := hid (Blk.new (w := ((w.alloc (.cells (r.map (Value.int .u8)).toArray 23 (0, 0))).alloc (.cells (a.map (Value.int .u8)).toArray 23 (0, 0)))) (n := w.heap.size + 1 + 1) (by simp only [World.size_alloc]) (b.map (Value.int .u8)).toArray 23)
  have Hb := hid b3
  have hbz := b3.size
  have Hbs := hid (show w.heap.size + 1 + 1 + 1 = (((w.alloc (.cells (r.map (Value.int .u8)).toArray 23 (0, 0))).alloc (.cells (a.map (Value.int .u8)).toArray 23 (0, 0))).alloc (.cells (b.map (Value.int .u8)).toArray 23 (0, 0))).heap.size by simp only [World.size_alloc])
  have Htab := hid tab
  clear b1 b2 b3 tab 
  have HY := hid hY
  have HW := hid hW
  have I1 := hid (fun (W : World) (h2 : DigsAt W ya yn yc ds) (h3 : ShaTab W) => grows_is a r i n ya yn yc ds W ha hr h2 (by omega) h3)
  have I2 := hid (fun (W : World) (h2 : DigsAt W za zn zc es) (h3 : ShaTab W) => grows_is b r i n za zn zc es W hb hr h2 (by omega) h3)
  have qe := fun W : World => eqD a b ha.len hb.len W
  simp only [decide_eq_false hq] at qe
  rw [h1] at I1
  rw [h2] at I2
  obtain ⟨M, N, rfl, rfl, q1, q2, q3, q4, q5, q6⟩ := isGrow_spec h1
  obtain ⟨M', N', e1, e2, -, -, -, q7, q8, q9⟩ := isGrow_spec h2
  obtain rfl : M' = M := by omega
  obtain rfl : N' = N := by omega
  obtain ⟨k, hk, hks⟩ := growT_part ha hb q1 q2 q4 q7 hY.each hW.each q5 q8 q6 q9 hq
  have hs1 := growT_small ha hY.each q4
  have hs2 := growT_small hb hW.each q7
  have hka := firstU_at hk
  have T1 := hid (fun (W : World) (h2 : DigsAt W ya yn yc ds) (h3 : ShaTab W) => growTrail_any a M' N' ya yn yc ds W ha q1 q2 q3 h2 (by omega) q4 h3)
  have T2 := hid (fun (W : World) (h2 : DigsAt W za zn zc es) (h3 : ShaTab W) => growTrail_any b M' N' za zn zc es W hb q1 q2 q3 h2 (by omega) q7 h3)
  have HL1 := hid (hs1 _ (show (growT a M' N' ds).getD k [] ∈ growT a M' N' ds by rw [List.getD_eq_getElem?_getD, List.getElem?_eq_getElem hka.1]; exact List.getElem_mem _))
  have HL2 := hid (hs2 _ (show (growT b M' N' es).getD k [] ∈ growT b M' N' es by rw [List.getD_eq_getElem?_getD, List.getElem?_eq_getElem hka.2.1]; exact List.getElem_mem _))
  have HNE := hid hka.2.2.2
  have HKS := hid hks
  have PS := hid (fun (a1 a2 : Option Addr) (n1 n2 c1 c2 : Nat) (W : World) (h1 : TextsAt W a1 n1 c1 (growT a M' N' ds)) (h2 : TextsAt W a2 n2 c2 (growT b M' N' es)) => part_some a1 a2 n1 n2 c1 c2 _ _ W h1 h2 (fun t ht => by have := hs1 t ht; omega) (fun t ht => by have := hs2 t ht; omega) hk)
  clear h1 h2 q1 q2 q3 q4 q5 q6 q7 q8 q9 e1 e2 hk hks hs1 hs2 hka
  generalize growT a M' N' ds = A at *
  generalize growT b M' N' es = B at *
  clear hY hW
  go_enter Tryd.func30, Tryd.ntmps30
  go_wp2_with (first
     | (refine wpList_load_blk rfl 23 _ rfl (w.heap.size + 1) rfl _ 23 Ka.out _ Tryd.underlying23 rfl 32 size_digest ha.size ?_)
     | (refine wpList_load_blk rfl 23 _ rfl (w.heap.size + 1 + 1) rfl _ 23 Kb.out _ Tryd.underlying23 rfl 32 size_digest hb.size ?_)
     | (refine wpList_load_blk_if (by first | rfl | go_simp) 23 _ rfl (w.heap.size + 1) rfl _ 23 Ka.out _ Tryd.underlying23 rfl 32 size_digest ha.size ?_)
     | (refine wpList_load_blk_if (by first | rfl | go_simp) 23 _ rfl (w.heap.size) rfl _ 23 Kr.out _ Tryd.underlying23 rfl 32 size_digest hr.size ?_))
  refine (I1.out _ (HY.out.below Hb.out) (Htab.out.below Hb.out)).mono ?_
  rintro e w1 ⟨rfl, bw1⟩
  have HBw1 := hid (Below.on Hb.out bw1)
  have hsw1 := HBw1.out.size
  have Krw1 := hid (Kr.out.below bw1)
  have Kaw1 := hid (Ka.out.below bw1)
  have Kbw1 := hid (Kb.out.below bw1)
  clear bw1
  go_wp2_with (first
     | (refine wpList_load_blk_if (by first | rfl | go_simp) 23 _ rfl (w.heap.size + 1 + 1) rfl _ 23 Kbw1.out _ Tryd.underlying23 rfl 32 size_digest hb.size ?_)
     | (refine wpList_load_blk_if (by first | rfl | go_simp) 23 _ rfl (w.heap.size) rfl _ 23 Krw1.out _ Tryd.underlying23 rfl 32 size_digest hr.size ?_))
  refine (I2.out _ (HW.out.below HBw1.out) (Htab.out.below HBw1.out)).mono ?_
  rintro e w2 ⟨rfl, bw2⟩
  have HBw2 := hid (Below.on HBw1.out bw2)
  have hsw2 := HBw2.out.size
  have Krw2 := hid (Krw1.out.below bw2)
  have Kaw2 := hid (Kaw1.out.below bw2)
  have Kbw2 := hid (Kbw1.out.below bw2)
  clear bw2
  go_wp2_with fail
  refine wp_region_flow 14 [0, 1, 2, 3, 5, 6, 7, 8] [] [(.c 4, [], []), (.c 9, [], []), (.c 10, [11, 12, 13], [])] (by kernel_rfl) (by kernel_rfl) ?_
  apply Exists.intro
  refine ⟨fun w0 hb0 hF0 => ?_, ?_⟩
  · skip
    have x0 : ∀ w', (∃ x : Ext w0, w' = x.at_) → ∃ T, Blk w' (w.heap.size + 1) (a.map (Value.int .u8)).toArray T := fun w' ⟨x, hx⟩ => ⟨_, hx ▸ (Kaw2.out.below hb0).below x.same⟩
    have x1 : ∀ w', (∃ x : Ext w0, w' = x.at_) → ∃ T, Blk w' (w.heap.size + 1 + 1) (b.map (Value.int .u8)).toArray T := fun w' ⟨x, hx⟩ => ⟨_, hx ▸ (Kbw2.out.below hb0).below x.same⟩
    simp only [pick, List.getElem?_toArray, List.getElem?_cons_succ, List.getElem?_cons_zero, Option.toList_some, List.cons_append, List.nil_append]
    repeat (first | (go_big_quiet_want; refine quiet_load_blk 23 _ rfl (w.heap.size + 1) rfl _ x0 _ Tryd.underlying23 rfl 32 size_digest ha.size ?_; go_big_quiet_on; simp only [Act.put, List.setIfInBounds_toArray, List.set_cons_zero, List.set_cons_succ]) | (go_big_quiet_want; refine quiet_load_blk 23 _ rfl (w.heap.size + 1 + 1) rfl _ x1 _ Tryd.underlying23 rfl 32 size_digest hb.size ?_; go_big_quiet_on; simp only [Act.put, List.setIfInBounds_toArray, List.set_cons_zero, List.set_cons_succ]) | go_big_quiet_step (fail))
    exact wpQuiet_nil rfl
  refine AlChk.nil ?_
  refine Walk.call rfl 15 #[.agg (a.map (Value.int .u8)).toArray, .int .i64 (M' : Nat), .int .i64 (N' : Nat), .slice ya yn yc] (TextsV A) (fun v w' w'' h k => h.below k) rfl (fun w1 hb1 hF1 => ⟨by go_simp, ?_⟩) ?_
  · skip
    have bw := Below.on HBw2.out hb1
    exact T1.out _ (HY.out.below bw) (Htab.out.below bw)
  rintro v0 w1 hb1 hF1 ⟨pa, pn, pc, rfl, _⟩
  apply Exists.intro
  refine ⟨fun w0 hb0 hF0 => ?_, ?_⟩
  · skip
    exact wpQuiet_nil rfl
  refine AlChk.nil ?_
  refine Walk.call rfl 15 #[.agg (b.map (Value.int .u8)).toArray, .int .i64 (M' : Nat), .int .i64 (N' : Nat), .slice za zn zc] (TextsV B) (fun v w' w'' h k => h.below k) rfl (fun w1 hb1 hF1 => ⟨by go_simp, ?_⟩) ?_
  · skip
    have bw := Below.on HBw2.out hb1
    exact T2.out _ (HW.out.below bw) (Htab.out.below bw)
  rintro v1 w1 hb1 hF1 ⟨qa, qn, qc, rfl, _⟩
  apply Exists.intro
  refine ⟨fun w0 hb0 hF0 => ?_, ?_⟩
  · skip
    exact wpQuiet_nil rfl
  refine AlChk.nil ?_
  refine Walk.call rfl 19 #[.slice pa pn pc, .slice qa qn qc] (PairV (A.getD k []) (B.getD k [])) (fun v w' w'' h k => h.below k) rfl (fun w1 hb1 hF1 => ⟨by go_simp, ?_⟩) ?_
  · skip
    obtain ⟨a', n', c', he, ht⟩ := hF1.1.2
    cases he
    obtain ⟨a', n', c', he, hu⟩ := hF1.2
    cases he
    refine (PS.out _ _ _ _ _ _ _ ht hu).mono ?_
    rintro e w' ⟨x, y, rfl, r1, r2, b3⟩
    exact ⟨_, rfl, b3, x, y, rfl, r1, r2⟩
  rintro v2 w1 hb1 hF1 ⟨px, py, rfl, _⟩
  apply Exists.intro
  refine ⟨fun w0 hb0 hF0 => ?_, ?_⟩
  · skip
    simp only [pick, List.getElem?_toArray, List.getElem?_cons_succ, List.getElem?_cons_zero, Option.toList_some, List.cons_append, List.nil_append, Act.put, List.setIfInBounds_toArray, List.set_cons_zero, List.set_cons_succ]
    repeat (first | go_big_quiet_step (fail))
    exact wpQuiet_nil rfl
  refine AlChk.nil ?_
  refine Walk.fin fun w3 hw3 hFw3 _ => ?_
  simp only [List.drop_succ_cons, List.drop_zero]
  have HFw3 := hid hFw3
  have HBw3 := hid (Below.on HBw2.out hw3)
  have hsw3 := HBw3.out.size
  have Krw3 := hid (Krw2.out.below hw3)
  have Kaw3 := hid (Kaw2.out.below hw3)
  have Kbw3 := hid (Kbw2.out.below hw3)
  clear hw3 hFw3
  go_wp2_with fail
  obtain ⟨x9, y9, he9, r1, r2⟩ := HFw3.out.2
  cases he9
  go_returns
  exact ⟨_, _, _, _, rfl, r1, r2, Nat.le_of_eq HL1.out, Nat.le_of_eq HL2.out, HNE.out, HKS.out, HBw3.out⟩
set_option maxHeartbeats 4000000 in
theorem logs_none (r : List Int) (n i : Int) (a b : List Int) (ya : Option Addr) (yn yc : Nat) (ds : List (List Int)) (za : Option Addr) (zn zc : Nat) (es : List (List Int)) (w : World) (hr : Dg r) (ha : Dg a) (hb : Dg b) (hY : DigsAt w ya yn yc ds) (hW : DigsAt w za zn zc es) (tab : ShaTab w) (hb3 : yn ≤ 40) (hb4 : zn ≤ 40) (hn : ¬ (isGrow a i r n ds = true ∧ isGrow b i r n es = true ∧ a ≠ b)) :
    Calls Tryd.prog 30 #[.agg (r.map (Value.int .u8)).toArray, .int .i64 n, .int .i64 i, .agg (a.map (Value.int .u8)).toArray, .agg (b.map (Value.int .u8)).toArray, .slice ya yn yc, .slice za zn zc] w fun e w' => e = .returned (.tuple #[.slice none 0 0, .slice none 0 0, .bool false]) ∧ Below w.heap.size w w' := by
  by_cases hq : a = b
  · exact logs_same r n i a b ya yn yc ds za zn zc es w hr ha hb hY hW tab hb3 hb4 hq
  · cases h1 : isGrow a i r n ds with
    | false => exact logs_first r n i a b ya yn yc ds za zn zc es w hr ha hb hY hW tab hb3 hb4 hq h1
    | true =>
      cases h2 : isGrow b i r n es with
      | false => exact logs_second r n i a b ya yn yc ds za zn zc es w hr ha hb hY hW tab hb3 hb4 hq h1 h2
      | true => exact absurd ⟨h1, h2, hq⟩ hn
set_option maxHeartbeats 4000000 in
theorem exlogs_far0 (r : List Int) (n i : Int) (a b : List Int) (ya : Option Addr) (yn yc : Nat) (ds : List (List Int)) (za : Option Addr) (zn zc : Nat) (es : List (List Int)) (w : World) (_hr : Dg r) (_ha : Dg a) (_hb : Dg b) (_hY : DigsAt w ya yn yc ds) (_hW : DigsAt w za zn zc es) (tab : ShaTab w)  (h0 : 40 < yn) :
    Calls Tryd.prog 8 #[.agg (r.map (Value.int .u8)).toArray, .int .i64 n, .int .i64 i, .agg (a.map (Value.int .u8)).toArray, .agg (b.map (Value.int .u8)).toArray, .slice ya yn yc, .slice za zn zc] w fun e w' => e = .returned (.bool true) ∧ Below w.heap.size w w' := by
  have b1 := (Below.refl w.heap.size w).alloc (Nat.le_refl _) (.cells (r.map (Value.int .u8)).toArray 23 (0, 0))
  have b2 := b1.alloc b1.size (.cells (a.map (Value.int .u8)).toArray 23 (0, 0))
  have b3 := b2.alloc b2.size (.cells (b.map (Value.int .u8)).toArray 23 (0, 0))
  have Kr := hid (((Blk.new (w := w) (n := w.heap.size) rfl (r.map (Value.int .u8)).toArray 23).old (.cells (a.map (Value.int .u8)).toArray 23 (0, 0))).old (.cells (b.map (Value.int .u8)).toArray 23 (0, 0)))
  have Ka := hid ((Blk.new (w := (w.alloc (.cells (r.map (Value.int .u8)).toArray 23 (0, 0)))) (n := w.heap.size + 1) (by simp only [World.size_alloc]) (a.map (Value.int .u8)).toArray 23).old (.cells (b.map (Value.int .u8)).toArray 23 (0, 0)))
  have Kb := hid (Blk.new (w := ((w.alloc (.cells (r.map (Value.int .u8)).toArray 23 (0, 0))).alloc (.cells (a.map (Value.int .u8)).toArray 23 (0, 0)))) (n := w.heap.size + 1 + 1) (by simp only [World.size_alloc]) (b.map (Value.int .u8)).toArray 23)
  have Hb := hid b3
  have hbz := b3.size
  have Hbs := hid (show w.heap.size + 1 + 1 + 1 = (((w.alloc (.cells (r.map (Value.int .u8)).toArray 23 (0, 0))).alloc (.cells (a.map (Value.int .u8)).toArray 23 (0, 0))).alloc (.cells (b.map (Value.int .u8)).toArray 23 (0, 0))).heap.size by simp only [World.size_alloc])
  have Htab := hid tab
  clear b1 b2 b3 tab 
  have hck : (40 : Int) < (yn : Int) := by omega
  go_enter Tryd.func8, Tryd.ntmps8
  go_wp2_with fail
  refine (knows23 _ (Htab.out.below Hb.out)).mono ?_
  rintro e w1 ⟨rfl, bw1⟩
  have HBw1 := hid (Below.on Hb.out bw1)
  have hsw1 := HBw1.out.size
  have Krw1 := hid (Kr.out.below bw1)
  have Kaw1 := hid (Ka.out.below bw1)
  have Kbw1 := hid (Kb.out.below bw1)
  clear bw1
  go_wp2_with fail
  go_returns
  exact ⟨by first | rfl | simp, HBw1.out⟩
set_option maxHeartbeats 4000000 in
theorem exlogs_far1 (r : List Int) (n i : Int) (a b : List Int) (ya : Option Addr) (yn yc : Nat) (ds : List (List Int)) (za : Option Addr) (zn zc : Nat) (es : List (List Int)) (w : World) (_hr : Dg r) (_ha : Dg a) (_hb : Dg b) (_hY : DigsAt w ya yn yc ds) (_hW : DigsAt w za zn zc es) (tab : ShaTab w) (h0 : yn ≤ 40) (h1 : 40 < zn) :
    Calls Tryd.prog 8 #[.agg (r.map (Value.int .u8)).toArray, .int .i64 n, .int .i64 i, .agg (a.map (Value.int .u8)).toArray, .agg (b.map (Value.int .u8)).toArray, .slice ya yn yc, .slice za zn zc] w fun e w' => e = .returned (.bool true) ∧ Below w.heap.size w w' := by
  have b1 := (Below.refl w.heap.size w).alloc (Nat.le_refl _) (.cells (r.map (Value.int .u8)).toArray 23 (0, 0))
  have b2 := b1.alloc b1.size (.cells (a.map (Value.int .u8)).toArray 23 (0, 0))
  have b3 := b2.alloc b2.size (.cells (b.map (Value.int .u8)).toArray 23 (0, 0))
  have Kr := hid (((Blk.new (w := w) (n := w.heap.size) rfl (r.map (Value.int .u8)).toArray 23).old (.cells (a.map (Value.int .u8)).toArray 23 (0, 0))).old (.cells (b.map (Value.int .u8)).toArray 23 (0, 0)))
  have Ka := hid ((Blk.new (w := (w.alloc (.cells (r.map (Value.int .u8)).toArray 23 (0, 0)))) (n := w.heap.size + 1) (by simp only [World.size_alloc]) (a.map (Value.int .u8)).toArray 23).old (.cells (b.map (Value.int .u8)).toArray 23 (0, 0)))
  have Kb := hid (Blk.new (w := ((w.alloc (.cells (r.map (Value.int .u8)).toArray 23 (0, 0))).alloc (.cells (a.map (Value.int .u8)).toArray 23 (0, 0)))) (n := w.heap.size + 1 + 1) (by simp only [World.size_alloc]) (b.map (Value.int .u8)).toArray 23)
  have Hb := hid b3
  have hbz := b3.size
  have Hbs := hid (show w.heap.size + 1 + 1 + 1 = (((w.alloc (.cells (r.map (Value.int .u8)).toArray 23 (0, 0))).alloc (.cells (a.map (Value.int .u8)).toArray 23 (0, 0))).alloc (.cells (b.map (Value.int .u8)).toArray 23 (0, 0))).heap.size by simp only [World.size_alloc])
  have Htab := hid tab
  clear b1 b2 b3 tab 
  have hck : ¬ (40 : Int) < (yn : Int) := by omega
  have hcl : (40 : Int) < (zn : Int) := by omega
  go_enter Tryd.func8, Tryd.ntmps8
  go_wp2_with fail
  refine (knows23 _ (Htab.out.below Hb.out)).mono ?_
  rintro e w1 ⟨rfl, bw1⟩
  have HBw1 := hid (Below.on Hb.out bw1)
  have hsw1 := HBw1.out.size
  have Krw1 := hid (Kr.out.below bw1)
  have Kaw1 := hid (Ka.out.below bw1)
  have Kbw1 := hid (Kb.out.below bw1)
  clear bw1
  go_wp2_with fail
  go_returns
  exact ⟨by first | rfl | simp, HBw1.out⟩
set_option maxHeartbeats 4000000 in
theorem exlogs_good (r : List Int) (n i : Int) (a b : List Int) (ya : Option Addr) (yn yc : Nat) (ds : List (List Int)) (za : Option Addr) (zn zc : Nat) (es : List (List Int)) (w : World) (hr : Dg r) (ha : Dg a) (hb : Dg b) (hY : DigsAt w ya yn yc ds) (hW : DigsAt w za zn zc es) (tab : ShaTab w) (hb3 : yn ≤ 40) (hb4 : zn ≤ 40) (h1 : isGrow a i r n ds = true) (h2 : isGrow b i r n es = true) (hne : ¬ a = b) :
    Calls Tryd.prog 8 #[.agg (r.map (Value.int .u8)).toArray, .int .i64 n, .int .i64 i, .agg (a.map (Value.int .u8)).toArray, .agg (b.map (Value.int .u8)).toArray, .slice ya yn yc, .slice za zn zc] w fun e w' => e = .returned (.bool true) ∧ Below w.heap.size w w' := by
  have b1 := (Below.refl w.heap.size w).alloc (Nat.le_refl _) (.cells (r.map (Value.int .u8)).toArray 23 (0, 0))
  have b2 := b1.alloc b1.size (.cells (a.map (Value.int .u8)).toArray 23 (0, 0))
  have b3 := b2.alloc b2.size (.cells (b.map (Value.int .u8)).toArray 23 (0, 0))
  have Kr := hid (((Blk.new (w := w) (n := w.heap.size) rfl (r.map (Value.int .u8)).toArray 23).old (.cells (a.map (Value.int .u8)).toArray 23 (0, 0))).old (.cells (b.map (Value.int .u8)).toArray 23 (0, 0)))
  have Ka := hid ((Blk.new (w := (w.alloc (.cells (r.map (Value.int .u8)).toArray 23 (0, 0)))) (n := w.heap.size + 1) (by simp only [World.size_alloc]) (a.map (Value.int .u8)).toArray 23).old (.cells (b.map (Value.int .u8)).toArray 23 (0, 0)))
  have Kb := hid (Blk.new (w := ((w.alloc (.cells (r.map (Value.int .u8)).toArray 23 (0, 0))).alloc (.cells (a.map (Value.int .u8)).toArray 23 (0, 0)))) (n := w.heap.size + 1 + 1) (by simp only [World.size_alloc]) (b.map (Value.int .u8)).toArray 23)
  have Hb := hid b3
  have hbz := b3.size
  have Hbs := hid (show w.heap.size + 1 + 1 + 1 = (((w.alloc (.cells (r.map (Value.int .u8)).toArray 23 (0, 0))).alloc (.cells (a.map (Value.int .u8)).toArray 23 (0, 0))).alloc (.cells (b.map (Value.int .u8)).toArray 23 (0, 0))).heap.size by simp only [World.size_alloc])
  have Htab := hid tab
  clear b1 b2 b3 tab 
  have HY := hid hY
  have HW := hid hW
  have I1 := hid (fun (W : World) (h2 : DigsAt W ya yn yc ds) (h3 : ShaTab W) => grows_is a r i n ya yn yc ds W ha hr h2 (by omega) h3)
  have I2 := hid (fun (W : World) (h2 : DigsAt W za zn zc es) (h3 : ShaTab W) => grows_is b r i n za zn zc es W hb hr h2 (by omega) h3)
  have hck : ¬ (40 : Int) < (yn : Int) := by omega
  have hcl : ¬ (40 : Int) < (zn : Int) := by omega
  have qn := fun W : World => neD a b ha.len hb.len W
  simp only [decide_eq_false hne, Bool.not_false] at qn
  have VV := hid (fun (W : World) (h5 : DigsAt W ya yn yc ds) (h6 : DigsAt W za zn zc es) (h7 : ShaTab W) => logs_both r n i a b ya yn yc ds za zn zc es W hr ha hb h5 h6 h7 hb3 hb4 hne h1 h2)
  rw [h1] at I1
  rw [h2] at I2
  clear hY hW
  go_enter Tryd.func8, Tryd.ntmps8
  go_wp2_with (first
     | (refine wpList_load_blk rfl 23 _ rfl (w.heap.size) rfl _ 23 Kr.out _ Tryd.underlying23 rfl 32 size_digest hr.size ?_)
     | (refine wpList_load_blk rfl 23 _ rfl (w.heap.size + 1) rfl _ 23 Ka.out _ Tryd.underlying23 rfl 32 size_digest ha.size ?_)
     | (refine wpList_load_blk rfl 23 _ rfl (w.heap.size + 1 + 1) rfl _ 23 Kb.out _ Tryd.underlying23 rfl 32 size_digest hb.size ?_))
  refine (VV.out _ (HY.out.below Hb.out) (HW.out.below Hb.out) (Htab.out.below Hb.out)).mono ?_
  rintro e w1 ⟨u1, v1, X, Y, rfl, ⟨p5, m5, q5, rfl, hu5⟩, ⟨p6, m6, q6, rfl, hv5⟩, l1, l2, nxy, sxy, b1⟩
  have HU5 := hid hu5
  have HV5 := hid hv5
  have HL1 := hid l1
  have HL2 := hid l2
  have HNE := hid nxy
  have HSX := hid sxy
  have HBw1 := hid (Below.on Hb.out b1)
  have hsw1 := HBw1.out.size
  have Krw1 := hid (Kr.out.below b1)
  have Kaw1 := hid (Ka.out.below b1)
  have Kbw1 := hid (Kb.out.below b1)
  clear b1 hu5 hv5 l1 l2 nxy sxy
  go_wp2_with (first
     | (refine wpList_load_blk rfl 23 _ rfl (w.heap.size) rfl _ 23 Krw1.out _ Tryd.underlying23 rfl 32 size_digest hr.size ?_)
     | (refine wpList_load_blk rfl 23 _ rfl (w.heap.size + 1) rfl _ 23 Kaw1.out _ Tryd.underlying23 rfl 32 size_digest ha.size ?_))
  refine (I1.out _ (HY.out.below HBw1.out) (Htab.out.below HBw1.out)).mono ?_
  rintro e w2 ⟨rfl, bw2⟩
  have hbc2 := hid bw2
  have HBw2 := hid (Below.on HBw1.out bw2)
  have hsw2 := HBw2.out.size
  have Krw2 := hid (Krw1.out.below bw2)
  have Kaw2 := hid (Kaw1.out.below bw2)
  have Kbw2 := hid (Kbw1.out.below bw2)
  clear bw2
  go_wp2_with (first
     | (refine wpList_load_blk_if (by first | rfl | go_simp) 23 _ rfl (w.heap.size + 1 + 1) rfl _ 23 Kbw2.out _ Tryd.underlying23 rfl 32 size_digest hb.size ?_)
     | (refine wpList_load_blk_if (by first | rfl | go_simp) 23 _ rfl (w.heap.size) rfl _ 23 Krw2.out _ Tryd.underlying23 rfl 32 size_digest hr.size ?_))
  refine (I2.out _ (HW.out.below HBw2.out) (Htab.out.below HBw2.out)).mono ?_
  rintro e w3 ⟨rfl, bw3⟩
  have hbc3 := Below.on hbc2.out bw3
  have HBw3 := hid (Below.on HBw2.out bw3)
  have hsw3 := HBw3.out.size
  have Krw3 := hid (Krw2.out.below bw3)
  have Kaw3 := hid (Kaw2.out.below bw3)
  have Kbw3 := hid (Kbw2.out.below bw3)
  clear bw3
  go_wp2_with (first
     | (refine wpList_load_blk_if (by first | rfl | go_simp) 23 _ rfl (w.heap.size + 1) rfl _ 23 Kaw3.out _ Tryd.underlying23 rfl 32 size_digest ha.size ?_)
     | (refine wpList_load_blk_if (by first | rfl | go_simp) 23 _ rfl (w.heap.size + 1 + 1) rfl _ 23 Kbw3.out _ Tryd.underlying23 rfl 32 size_digest hb.size ?_))
  have hu6 := HU5.out.below hbc3
  have hv6 := HV5.out.below hbc3
  have hlu := hu6.length
  have hlv := hv6.length
  have HL1 := HL1.out
  have HL2 := HL2.out
  refine (found_yes p5 p6 m5 m6 q5 q6 X Y _ hu6 hv6 (by omega) (by omega) HNE.out HSX.out).mono ?_
  rintro e w7 ⟨rfl, b7⟩
  have HBw7 := hid (Below.on HBw3.out b7)
  have hsw7 := HBw7.out.size
  have Krw7 := hid (Krw3.out.below b7)
  have Kaw7 := hid (Kaw3.out.below b7)
  have Kbw7 := hid (Kbw3.out.below b7)
  clear b7 hu6 hv6
  go_wp2_with fail
  refine (knows23 _ (Htab.out.below HBw7.out)).mono ?_
  rintro e w8 ⟨rfl, bw8⟩
  have HBw8 := hid (Below.on HBw7.out bw8)
  have hsw8 := HBw8.out.size
  have Krw8 := hid (Krw7.out.below bw8)
  have Kaw8 := hid (Kaw7.out.below bw8)
  have Kbw8 := hid (Kbw7.out.below bw8)
  clear bw8
  go_wp2_with fail
  go_returns
  exact ⟨by first | rfl | simp, HBw8.out⟩
set_option maxHeartbeats 4000000 in
theorem exlogs_same (r : List Int) (n i : Int) (a b : List Int) (ya : Option Addr) (yn yc : Nat) (ds : List (List Int)) (za : Option Addr) (zn zc : Nat) (es : List (List Int)) (w : World) (hr : Dg r) (ha : Dg a) (hb : Dg b) (hY : DigsAt w ya yn yc ds) (hW : DigsAt w za zn zc es) (tab : ShaTab w) (hb3 : yn ≤ 40) (hb4 : zn ≤ 40) (h1 : isGrow a i r n ds = true) (h2 : isGrow b i r n es = true) (he : a = b) :
    Calls Tryd.prog 8 #[.agg (r.map (Value.int .u8)).toArray, .int .i64 n, .int .i64 i, .agg (a.map (Value.int .u8)).toArray, .agg (b.map (Value.int .u8)).toArray, .slice ya yn yc, .slice za zn zc] w fun e w' => e = .returned (.bool true) ∧ Below w.heap.size w w' := by
  have b1 := (Below.refl w.heap.size w).alloc (Nat.le_refl _) (.cells (r.map (Value.int .u8)).toArray 23 (0, 0))
  have b2 := b1.alloc b1.size (.cells (a.map (Value.int .u8)).toArray 23 (0, 0))
  have b3 := b2.alloc b2.size (.cells (b.map (Value.int .u8)).toArray 23 (0, 0))
  have Kr := hid (((Blk.new (w := w) (n := w.heap.size) rfl (r.map (Value.int .u8)).toArray 23).old (.cells (a.map (Value.int .u8)).toArray 23 (0, 0))).old (.cells (b.map (Value.int .u8)).toArray 23 (0, 0)))
  have Ka := hid ((Blk.new (w := (w.alloc (.cells (r.map (Value.int .u8)).toArray 23 (0, 0)))) (n := w.heap.size + 1) (by simp only [World.size_alloc]) (a.map (Value.int .u8)).toArray 23).old (.cells (b.map (Value.int .u8)).toArray 23 (0, 0)))
  have Kb := hid (Blk.new (w := ((w.alloc (.cells (r.map (Value.int .u8)).toArray 23 (0, 0))).alloc (.cells (a.map (Value.int .u8)).toArray 23 (0, 0)))) (n := w.heap.size + 1 + 1) (by simp only [World.size_alloc]) (b.map (Value.int .u8)).toArray 23)
  have Hb := hid b3
  have hbz := b3.size
  have Hbs := hid (show w.heap.size + 1 + 1 + 1 = (((w.alloc (.cells (r.map (Value.int .u8)).toArray 23 (0, 0))).alloc (.cells (a.map (Value.int .u8)).toArray 23 (0, 0))).alloc (.cells (b.map (Value.int .u8)).toArray 23 (0, 0))).heap.size by simp only [World.size_alloc])
  have Htab := hid tab
  clear b1 b2 b3 tab 
  have HY := hid hY
  have HW := hid hW
  have I1 := hid (fun (W : World) (h2 : DigsAt W ya yn yc ds) (h3 : ShaTab W) => grows_is a r i n ya yn yc ds W ha hr h2 (by omega) h3)
  have I2 := hid (fun (W : World) (h2 : DigsAt W za zn zc es) (h3 : ShaTab W) => grows_is b r i n za zn zc es W hb hr h2 (by omega) h3)
  have hck : ¬ (40 : Int) < (yn : Int) := by omega
  have hcl : ¬ (40 : Int) < (zn : Int) := by omega
  have qn := fun W : World => neD a b ha.len hb.len W
  simp only [decide_eq_true he, Bool.not_true] at qn
  have VV := hid (fun (W : World) (h5 : DigsAt W ya yn yc ds) (h6 : DigsAt W za zn zc es) (h7 : ShaTab W) => logs_none r n i a b ya yn yc ds za zn zc es W hr ha hb h5 h6 h7 hb3 hb4 (fun hh => hh.2.2 he))
  rw [h1] at I1
  rw [h2] at I2
  clear hY hW he
  go_enter Tryd.func8, Tryd.ntmps8
  go_wp2_with (first
     | (refine wpList_load_blk rfl 23 _ rfl (w.heap.size) rfl _ 23 Kr.out _ Tryd.underlying23 rfl 32 size_digest hr.size ?_)
     | (refine wpList_load_blk rfl 23 _ rfl (w.heap.size + 1) rfl _ 23 Ka.out _ Tryd.underlying23 rfl 32 size_digest ha.size ?_)
     | (refine wpList_load_blk rfl 23 _ rfl (w.heap.size + 1 + 1) rfl _ 23 Kb.out _ Tryd.underlying23 rfl 32 size_digest hb.size ?_))
  refine (VV.out _ (HY.out.below Hb.out) (HW.out.below Hb.out) (Htab.out.below Hb.out)).mono ?_
  rintro e w1 ⟨rfl, bw1⟩
  have HBw1 := hid (Below.on Hb.out bw1)
  have hsw1 := HBw1.out.size
  have Krw1 := hid (Kr.out.below bw1)
  have Kaw1 := hid (Ka.out.below bw1)
  have Kbw1 := hid (Kb.out.below bw1)
  clear bw1
  go_wp2_with (first
     | (refine wpList_load_blk rfl 23 _ rfl (w.heap.size) rfl _ 23 Krw1.out _ Tryd.underlying23 rfl 32 size_digest hr.size ?_)
     | (refine wpList_load_blk rfl 23 _ rfl (w.heap.size + 1) rfl _ 23 Kaw1.out _ Tryd.underlying23 rfl 32 size_digest ha.size ?_))
  refine (I1.out _ (HY.out.below HBw1.out) (Htab.out.below HBw1.out)).mono ?_
  rintro e w2 ⟨rfl, bw2⟩
  have HBw2 := hid (Below.on HBw1.out bw2)
  have hsw2 := HBw2.out.size
  have Krw2 := hid (Krw1.out.below bw2)
  have Kaw2 := hid (Kaw1.out.below bw2)
  have Kbw2 := hid (Kbw1.out.below bw2)
  clear bw2
  go_wp2_with (first
     | (refine wpList_load_blk_if (by first | rfl | go_simp) 23 _ rfl (w.heap.size + 1 + 1) rfl _ 23 Kbw2.out _ Tryd.underlying23 rfl 32 size_digest hb.size ?_)
     | (refine wpList_load_blk_if (by first | rfl | go_simp) 23 _ rfl (w.heap.size) rfl _ 23 Krw2.out _ Tryd.underlying23 rfl 32 size_digest hr.size ?_))
  refine (I2.out _ (HW.out.below HBw2.out) (Htab.out.below HBw2.out)).mono ?_
  rintro e w3 ⟨rfl, bw3⟩
  have HBw3 := hid (Below.on HBw2.out bw3)
  have hsw3 := HBw3.out.size
  have Krw3 := hid (Krw2.out.below bw3)
  have Kaw3 := hid (Kaw2.out.below bw3)
  have Kbw3 := hid (Kbw2.out.below bw3)
  clear bw3
  go_wp2_with (first
     | (refine wpList_load_blk_if (by first | rfl | go_simp) 23 _ rfl (w.heap.size + 1) rfl _ 23 Kaw3.out _ Tryd.underlying23 rfl 32 size_digest ha.size ?_)
     | (refine wpList_load_blk_if (by first | rfl | go_simp) 23 _ rfl (w.heap.size + 1 + 1) rfl _ 23 Kbw3.out _ Tryd.underlying23 rfl 32 size_digest hb.size ?_))
  refine (lnone_yes _).mono ?_
  rintro e w4 ⟨rfl, bw4⟩
  have HBw4 := hid (Below.on HBw3.out bw4)
  have hsw4 := HBw4.out.size
  have Krw4 := hid (Krw3.out.below bw4)
  have Kaw4 := hid (Kaw3.out.below bw4)
  have Kbw4 := hid (Kbw3.out.below bw4)
  clear bw4
  go_wp2_with fail
  refine (knows23 _ (Htab.out.below HBw4.out)).mono ?_
  rintro e w5 ⟨rfl, bw5⟩
  have HBw5 := hid (Below.on HBw4.out bw5)
  have hsw5 := HBw5.out.size
  have Krw5 := hid (Krw4.out.below bw5)
  have Kaw5 := hid (Kaw4.out.below bw5)
  have Kbw5 := hid (Kbw4.out.below bw5)
  clear bw5
  go_wp2_with fail
  go_returns
  exact ⟨by first | rfl | simp, HBw5.out⟩
set_option maxHeartbeats 4000000 in
theorem exlogs_second (r : List Int) (n i : Int) (a b : List Int) (ya : Option Addr) (yn yc : Nat) (ds : List (List Int)) (za : Option Addr) (zn zc : Nat) (es : List (List Int)) (w : World) (hr : Dg r) (ha : Dg a) (hb : Dg b) (hY : DigsAt w ya yn yc ds) (hW : DigsAt w za zn zc es) (tab : ShaTab w) (hb3 : yn ≤ 40) (hb4 : zn ≤ 40) (h1 : isGrow a i r n ds = true) (h2 : isGrow b i r n es = false) :
    Calls Tryd.prog 8 #[.agg (r.map (Value.int .u8)).toArray, .int .i64 n, .int .i64 i, .agg (a.map (Value.int .u8)).toArray, .agg (b.map (Value.int .u8)).toArray, .slice ya yn yc, .slice za zn zc] w fun e w' => e = .returned (.bool true) ∧ Below w.heap.size w w' := by
  have b1 := (Below.refl w.heap.size w).alloc (Nat.le_refl _) (.cells (r.map (Value.int .u8)).toArray 23 (0, 0))
  have b2 := b1.alloc b1.size (.cells (a.map (Value.int .u8)).toArray 23 (0, 0))
  have b3 := b2.alloc b2.size (.cells (b.map (Value.int .u8)).toArray 23 (0, 0))
  have Kr := hid (((Blk.new (w := w) (n := w.heap.size) rfl (r.map (Value.int .u8)).toArray 23).old (.cells (a.map (Value.int .u8)).toArray 23 (0, 0))).old (.cells (b.map (Value.int .u8)).toArray 23 (0, 0)))
  have Ka := hid ((Blk.new (w := (w.alloc (.cells (r.map (Value.int .u8)).toArray 23 (0, 0)))) (n := w.heap.size + 1) (by simp only [World.size_alloc]) (a.map (Value.int .u8)).toArray 23).old (.cells (b.map (Value.int .u8)).toArray 23 (0, 0)))
  have Kb := hid (Blk.new (w := ((w.alloc (.cells (r.map (Value.int .u8)).toArray 23 (0, 0))).alloc (.cells (a.map (Value.int .u8)).toArray 23 (0, 0)))) (n := w.heap.size + 1 + 1) (by simp only [World.size_alloc]) (b.map (Value.int .u8)).toArray 23)
  have Hb := hid b3
  have hbz := b3.size
  have Hbs := hid (show w.heap.size + 1 + 1 + 1 = (((w.alloc (.cells (r.map (Value.int .u8)).toArray 23 (0, 0))).alloc (.cells (a.map (Value.int .u8)).toArray 23 (0, 0))).alloc (.cells (b.map (Value.int .u8)).toArray 23 (0, 0))).heap.size by simp only [World.size_alloc])
  have Htab := hid tab
  clear b1 b2 b3 tab 
  have HY := hid hY
  have HW := hid hW
  have I1 := hid (fun (W : World) (h2 : DigsAt W ya yn yc ds) (h3 : ShaTab W) => grows_is a r i n ya yn yc ds W ha hr h2 (by omega) h3)
  have I2 := hid (fun (W : World) (h2 : DigsAt W za zn zc es) (h3 : ShaTab W) => grows_is b r i n za zn zc es W hb hr h2 (by omega) h3)
  have hck : ¬ (40 : Int) < (yn : Int) := by omega
  have hcl : ¬ (40 : Int) < (zn : Int) := by omega
  have VV := hid (fun (W : World) (h5 : DigsAt W ya yn yc ds) (h6 : DigsAt W za zn zc es) (h7 : ShaTab W) => logs_none r n i a b ya yn yc ds za zn zc es W hr ha hb h5 h6 h7 hb3 hb4 (fun hh => absurd (hh.2.1.symm.trans h2) (by simp)))
  rw [h1] at I1
  rw [h2] at I2
  clear hY hW
  go_enter Tryd.func8, Tryd.ntmps8
  go_wp2_with (first
     | (refine wpList_load_blk rfl 23 _ rfl (w.heap.size) rfl _ 23 Kr.out _ Tryd.underlying23 rfl 32 size_digest hr.size ?_)
     | (refine wpList_load_blk rfl 23 _ rfl (w.heap.size + 1) rfl _ 23 Ka.out _ Tryd.underlying23 rfl 32 size_digest ha.size ?_)
     | (refine wpList_load_blk rfl 23 _ rfl (w.heap.size + 1 + 1) rfl _ 23 Kb.out _ Tryd.underlying23 rfl 32 size_digest hb.size ?_))
  refine (VV.out _ (HY.out.below Hb.out) (HW.out.below Hb.out) (Htab.out.below Hb.out)).mono ?_
  rintro e w1 ⟨rfl, bw1⟩
  have HBw1 := hid (Below.on Hb.out bw1)
  have hsw1 := HBw1.out.size
  have Krw1 := hid (Kr.out.below bw1)
  have Kaw1 := hid (Ka.out.below bw1)
  have Kbw1 := hid (Kb.out.below bw1)
  clear bw1
  go_wp2_with (first
     | (refine wpList_load_blk rfl 23 _ rfl (w.heap.size) rfl _ 23 Krw1.out _ Tryd.underlying23 rfl 32 size_digest hr.size ?_)
     | (refine wpList_load_blk rfl 23 _ rfl (w.heap.size + 1) rfl _ 23 Kaw1.out _ Tryd.underlying23 rfl 32 size_digest ha.size ?_))
  refine (I1.out _ (HY.out.below HBw1.out) (Htab.out.below HBw1.out)).mono ?_
  rintro e w2 ⟨rfl, bw2⟩
  have HBw2 := hid (Below.on HBw1.out bw2)
  have hsw2 := HBw2.out.size
  have Krw2 := hid (Krw1.out.below bw2)
  have Kaw2 := hid (Kaw1.out.below bw2)
  have Kbw2 := hid (Kbw1.out.below bw2)
  clear bw2
  go_wp2_with (first
     | (refine wpList_load_blk_if (by first | rfl | go_simp) 23 _ rfl (w.heap.size + 1 + 1) rfl _ 23 Kbw2.out _ Tryd.underlying23 rfl 32 size_digest hb.size ?_)
     | (refine wpList_load_blk_if (by first | rfl | go_simp) 23 _ rfl (w.heap.size) rfl _ 23 Krw2.out _ Tryd.underlying23 rfl 32 size_digest hr.size ?_))
  refine (I2.out _ (HW.out.below HBw2.out) (Htab.out.below HBw2.out)).mono ?_
  rintro e w3 ⟨rfl, bw3⟩
  have HBw3 := hid (Below.on HBw2.out bw3)
  have hsw3 := HBw3.out.size
  have Krw3 := hid (Krw2.out.below bw3)
  have Kaw3 := hid (Kaw2.out.below bw3)
  have Kbw3 := hid (Kbw2.out.below bw3)
  clear bw3
  go_wp2_with fail
  refine (lnone_yes _).mono ?_
  rintro e w4 ⟨rfl, bw4⟩
  have HBw4 := hid (Below.on HBw3.out bw4)
  have hsw4 := HBw4.out.size
  have Krw4 := hid (Krw3.out.below bw4)
  have Kaw4 := hid (Kaw3.out.below bw4)
  have Kbw4 := hid (Kbw3.out.below bw4)
  clear bw4
  go_wp2_with fail
  refine (knows23 _ (Htab.out.below HBw4.out)).mono ?_
  rintro e w5 ⟨rfl, bw5⟩
  have HBw5 := hid (Below.on HBw4.out bw5)
  have hsw5 := HBw5.out.size
  have Krw5 := hid (Krw4.out.below bw5)
  have Kaw5 := hid (Kaw4.out.below bw5)
  have Kbw5 := hid (Kbw4.out.below bw5)
  clear bw5
  go_wp2_with fail
  go_returns
  exact ⟨by first | rfl | simp, HBw5.out⟩
set_option maxHeartbeats 4000000 in
theorem exlogs_first (r : List Int) (n i : Int) (a b : List Int) (ya : Option Addr) (yn yc : Nat) (ds : List (List Int)) (za : Option Addr) (zn zc : Nat) (es : List (List Int)) (w : World) (hr : Dg r) (ha : Dg a) (hb : Dg b) (hY : DigsAt w ya yn yc ds) (hW : DigsAt w za zn zc es) (tab : ShaTab w) (hb3 : yn ≤ 40) (hb4 : zn ≤ 40) (h1 : isGrow a i r n ds = false) :
    Calls Tryd.prog 8 #[.agg (r.map (Value.int .u8)).toArray, .int .i64 n, .int .i64 i, .agg (a.map (Value.int .u8)).toArray, .agg (b.map (Value.int .u8)).toArray, .slice ya yn yc, .slice za zn zc] w fun e w' => e = .returned (.bool true) ∧ Below w.heap.size w w' := by
  have b1 := (Below.refl w.heap.size w).alloc (Nat.le_refl _) (.cells (r.map (Value.int .u8)).toArray 23 (0, 0))
  have b2 := b1.alloc b1.size (.cells (a.map (Value.int .u8)).toArray 23 (0, 0))
  have b3 := b2.alloc b2.size (.cells (b.map (Value.int .u8)).toArray 23 (0, 0))
  have Kr := hid (((Blk.new (w := w) (n := w.heap.size) rfl (r.map (Value.int .u8)).toArray 23).old (.cells (a.map (Value.int .u8)).toArray 23 (0, 0))).old (.cells (b.map (Value.int .u8)).toArray 23 (0, 0)))
  have Ka := hid ((Blk.new (w := (w.alloc (.cells (r.map (Value.int .u8)).toArray 23 (0, 0)))) (n := w.heap.size + 1) (by simp only [World.size_alloc]) (a.map (Value.int .u8)).toArray 23).old (.cells (b.map (Value.int .u8)).toArray 23 (0, 0)))
  have Kb := hid (Blk.new (w := ((w.alloc (.cells (r.map (Value.int .u8)).toArray 23 (0, 0))).alloc (.cells (a.map (Value.int .u8)).toArray 23 (0, 0)))) (n := w.heap.size + 1 + 1) (by simp only [World.size_alloc]) (b.map (Value.int .u8)).toArray 23)
  have Hb := hid b3
  have hbz := b3.size
  have Hbs := hid (show w.heap.size + 1 + 1 + 1 = (((w.alloc (.cells (r.map (Value.int .u8)).toArray 23 (0, 0))).alloc (.cells (a.map (Value.int .u8)).toArray 23 (0, 0))).alloc (.cells (b.map (Value.int .u8)).toArray 23 (0, 0))).heap.size by simp only [World.size_alloc])
  have Htab := hid tab
  clear b1 b2 b3 tab 
  have HY := hid hY
  have HW := hid hW
  have I1 := hid (fun (W : World) (h2 : DigsAt W ya yn yc ds) (h3 : ShaTab W) => grows_is a r i n ya yn yc ds W ha hr h2 (by omega) h3)
  have I2 := hid (fun (W : World) (h2 : DigsAt W za zn zc es) (h3 : ShaTab W) => grows_is b r i n za zn zc es W hb hr h2 (by omega) h3)
  have hck : ¬ (40 : Int) < (yn : Int) := by omega
  have hcl : ¬ (40 : Int) < (zn : Int) := by omega
  have VV := hid (fun (W : World) (h5 : DigsAt W ya yn yc ds) (h6 : DigsAt W za zn zc es) (h7 : ShaTab W) => logs_none r n i a b ya yn yc ds za zn zc es W hr ha hb h5 h6 h7 hb3 hb4 (fun hh => absurd (hh.1.symm.trans h1) (by simp)))
  rw [h1] at I1
  clear hY hW
  go_enter Tryd.func8, Tryd.ntmps8
  go_wp2_with (first
     | (refine wpList_load_blk rfl 23 _ rfl (w.heap.size) rfl _ 23 Kr.out _ Tryd.underlying23 rfl 32 size_digest hr.size ?_)
     | (refine wpList_load_blk rfl 23 _ rfl (w.heap.size + 1) rfl _ 23 Ka.out _ Tryd.underlying23 rfl 32 size_digest ha.size ?_)
     | (refine wpList_load_blk rfl 23 _ rfl (w.heap.size + 1 + 1) rfl _ 23 Kb.out _ Tryd.underlying23 rfl 32 size_digest hb.size ?_))
  refine (VV.out _ (HY.out.below Hb.out) (HW.out.below Hb.out) (Htab.out.below Hb.out)).mono ?_
  rintro e w1 ⟨rfl, bw1⟩
  have HBw1 := hid (Below.on Hb.out bw1)
  have hsw1 := HBw1.out.size
  have Krw1 := hid (Kr.out.below bw1)
  have Kaw1 := hid (Ka.out.below bw1)
  have Kbw1 := hid (Kb.out.below bw1)
  clear bw1
  go_wp2_with (first
     | (refine wpList_load_blk rfl 23 _ rfl (w.heap.size) rfl _ 23 Krw1.out _ Tryd.underlying23 rfl 32 size_digest hr.size ?_)
     | (refine wpList_load_blk rfl 23 _ rfl (w.heap.size + 1) rfl _ 23 Kaw1.out _ Tryd.underlying23 rfl 32 size_digest ha.size ?_))
  refine (I1.out _ (HY.out.below HBw1.out) (Htab.out.below HBw1.out)).mono ?_
  rintro e w2 ⟨rfl, bw2⟩
  have HBw2 := hid (Below.on HBw1.out bw2)
  have hsw2 := HBw2.out.size
  have Krw2 := hid (Krw1.out.below bw2)
  have Kaw2 := hid (Kaw1.out.below bw2)
  have Kbw2 := hid (Kbw1.out.below bw2)
  clear bw2
  go_wp2_with fail
  refine (lnone_yes _).mono ?_
  rintro e w3 ⟨rfl, bw3⟩
  have HBw3 := hid (Below.on HBw2.out bw3)
  have hsw3 := HBw3.out.size
  have Krw3 := hid (Krw2.out.below bw3)
  have Kaw3 := hid (Kaw2.out.below bw3)
  have Kbw3 := hid (Kbw2.out.below bw3)
  clear bw3
  go_wp2_with fail
  refine (knows23 _ (Htab.out.below HBw3.out)).mono ?_
  rintro e w4 ⟨rfl, bw4⟩
  have HBw4 := hid (Below.on HBw3.out bw4)
  have hsw4 := HBw4.out.size
  have Krw4 := hid (Krw3.out.below bw4)
  have Kaw4 := hid (Kaw3.out.below bw4)
  have Kbw4 := hid (Kbw3.out.below bw4)
  clear bw4
  go_wp2_with fail
  go_returns
  exact ⟨by first | rfl | simp, HBw4.out⟩
set_option maxHeartbeats 4000000 in
theorem extractLogs_any (r : List Int) (n i : Int) (a b : List Int) (ya : Option Addr) (yn yc : Nat) (ds : List (List Int)) (za : Option Addr) (zn zc : Nat) (es : List (List Int)) (w : World) (hr : Dg r) (ha : Dg a) (hb : Dg b) (hY : DigsAt w ya yn yc ds) (hW : DigsAt w za zn zc es) (tab : ShaTab w)  :
    Calls Tryd.prog 8 #[.agg (r.map (Value.int .u8)).toArray, .int .i64 n, .int .i64 i, .agg (a.map (Value.int .u8)).toArray, .agg (b.map (Value.int .u8)).toArray, .slice ya yn yc, .slice za zn zc] w fun e w' => e = .returned (.bool true) ∧ Below w.heap.size w w' := by
  rcases Nat.lt_or_ge 40 yn with h | h2
  · exact exlogs_far0 r n i a b ya yn yc ds za zn zc es w hr ha hb hY hW tab h
  rcases Nat.lt_or_ge 40 zn with h | h3
  · exact exlogs_far1 r n i a b ya yn yc ds za zn zc es w hr ha hb hY hW tab h2 h
  cases q1 : isGrow a i r n ds with
  | false => exact exlogs_first r n i a b ya yn yc ds za zn zc es w hr ha hb hY hW tab h2 h3 q1
  | true =>
    cases q2 : isGrow b i r n es with
    | false => exact exlogs_second r n i a b ya yn yc ds za zn zc es w hr ha hb hY hW tab h2 h3 q1 q2
    | true =>
      by_cases he : a = b
      · exact exlogs_same r n i a b ya yn yc ds za zn zc es w hr ha hb hY hW tab h2 h3 q1 q2 he
      · exact exlogs_good r n i a b ya yn yc ds za zn zc es w hr ha hb hY hW tab h2 h3 q1 q2 he
end Go.Proofs.YtkakoiaahgchmaaDoor
