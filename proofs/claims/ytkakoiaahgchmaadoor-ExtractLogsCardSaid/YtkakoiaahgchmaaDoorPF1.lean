/-
  Put together, as far as wanted: ELMFrame ELNDigs ELLogA ELLogB ELLogH ELLogI ELLogJ ExI ExO ExP ExQ ExR.
-/
import Derived.Test.YtkakoiaahgchmaaDoorPE3
import Derived.Deep.Quiet
import Derived.StillTail
import Derived.Below
import Derived.WalkKit
import Derived.ProofKit
import Derived.OpenShut
import Derived.WalkSpells
import Derived.WalkLawsBesides
import Derived.Handy
import Derived.Outline
import Derived.Deep.QuietTactic
import Derived.BigQuiet
import Derived.ChangeKeysEq
import Derived.Deep.MidRow
import Derived.Laws.BytesArg
import Derived.Deep.Slices
import Derived.ChangeSame
import Derived.Deep.Matrix
import Derived.OwnWalk
import Derived.Maps.AppendAt
import Derived.Lib.AppendZerosOnto
import Derived.Laws.BitsAllLaws
import Derived.Laws.CopyOwn
import Derived.Lib.SliceRun
import Derived.Lib.Bytes
import Derived.Lib.SlBytesConst
import Derived.HandedShaped
import Derived.Carry
import Derived.LaidMore
import Derived.Stop.Joined
import Derived.SevenTiedAt
import Derived.Lib.LaidTab
import Derived.Stop.LaidErr
import Derived.Lib.Tables
import Derived.RangeFuncFrom
import Derived.RangeFuncNested
import Derived.RangeFuncBound
import Derived.RangeFuncCalls
import Derived.RangeFuncLeaves
import Derived.Shelf.Abstract
import Derived.Shelf.RegionOpen
import Derived.OwnWalkIn
import Derived.TacticsInMore
import Derived.LoopNIn
import Derived.LoopIn
import Derived.DeepKeys4
import Derived.WideKeyEntry
import Derived.Deep.SlicePairs
import Derived.Lib.BitFns
import Derived.Shelf.SlicesE.Reverse
import Derived.OrdersHeld
namespace Go.Proofs.YtkakoiaahgchmaaDoor
set_option maxRecDepth 100000
open Go.ChangeShapes Go.WideShapes Go.ChangeAt Go.RowKit
section
variable {H : Type} {enc : TypeId × Value → H} {P : Program}
end
end Go.Proofs.YtkakoiaahgchmaaDoor
namespace Go.Proofs.YtkakoiaahgchmaaDoor
set_option maxRecDepth 100000
open Go.ChangeShapes Go.WideShapes Go.ChangeAt Go.RowKit
theorem trodAll_seven {H : Type} {enc : TypeId × Value → H} {P : Program} {w : World} {base : Nat} {spare : Nat → Bool} {held : Bool} {t0 t1 t2 t3 t4 t5 t6 : TypeId} {args : Array Value} {ds : List (DataW H)} {ps : List MemPlace} (h : DataW.TrodAll enc P w base spare held [t0, t1, t2, t3, t4, t5, t6] args.toList ds ps) :
    ∃ v0 v1 v2 v3 v4 v5 v6 d0 d1 d2 d3 d4 d5 d6 p0 p1 p2 p3 p4 p5 p6, args = #[v0, v1, v2, v3, v4, v5, v6] ∧ ds = [d0, d1, d2, d3, d4, d5, d6] ∧ ps = p0 ++ p1 ++ p2 ++ p3 ++ p4 ++ p5 ++ p6 ∧ DataW.Trod enc P w base spare held t0 v0 d0 p0 ∧ DataW.Trod enc P w base spare held t1 v1 d1 p1 ∧ DataW.Trod enc P w base spare held t2 v2 d2 p2 ∧ DataW.Trod enc P w base spare held t3 v3 d3 p3 ∧ DataW.Trod enc P w base spare held t4 v4 d4 p4 ∧ DataW.Trod enc P w base spare held t5 v5 d5 p5 ∧ DataW.Trod enc P w base spare held t6 v6 d6 p6 := by
  obtain ⟨v0, vs0, d0, ds0, p0, q0, hargs, rfl, rfl, hd0, h0⟩ := trodAll_cons h
  obtain ⟨v1, vs1, d1, ds1, p1, q1, rfl, rfl, rfl, hd1, h1⟩ := trodAll_cons h0
  obtain ⟨v2, vs2, d2, ds2, p2, q2, rfl, rfl, rfl, hd2, h2⟩ := trodAll_cons h1
  obtain ⟨v3, vs3, d3, ds3, p3, q3, rfl, rfl, rfl, hd3, h3⟩ := trodAll_cons h2
  obtain ⟨v4, vs4, d4, ds4, p4, q4, rfl, rfl, rfl, hd4, h4⟩ := trodAll_cons h3
  obtain ⟨v5, vs5, d5, ds5, p5, q5, rfl, rfl, rfl, hd5, h5⟩ := trodAll_cons h4
  obtain ⟨v6, vs6, d6, ds6, p6, q6, rfl, rfl, rfl, hd6, h6⟩ := trodAll_cons h5
  obtain ⟨rfl, rfl, rfl⟩ := trodAll_nil h6
  exact ⟨v0, v1, v2, v3, v4, v5, v6, d0, d1, d2, d3, d4, d5, d6, p0, p1, p2, p3, p4, p5, p6, by cases args; simp_all, rfl, by simp, hd0, hd1, hd2, hd3, hd4, hd5, hd6⟩
end Go.Proofs.YtkakoiaahgchmaaDoor
namespace Go.Proofs.YtkakoiaahgchmaaDoor
set_option maxRecDepth 100000
open Go.ChangeShapes Go.WideShapes Go.ChangeAt Go.RowKit
end Go.Proofs.YtkakoiaahgchmaaDoor
namespace Go.Proofs.YtkakoiaahgchmaaDoor
set_option maxRecDepth 100000
open Go.ChangeShapes Go.WideShapes Go.ChangeAt Go.RowKit
theorem DigsAt.below {w w' : World} {a : Option Addr} {len cap : Nat} {ds : List (List Int)} (h : DigsAt w a len cap ds) (hb : Below w.heap.size w w') : DigsAt w' a len cap ds := by
  obtain ⟨h1, h2, h3, h4, h | ⟨x, o, s, rfl, hc⟩⟩ := h
  · exact ⟨h1, h2, h3, h4, .inl h⟩
  · refine ⟨h1, h2, h3, h4, .inr ⟨x, o, s, rfl, fun j hj => ?_⟩⟩
    obtain ⟨q0, q1, q2⟩ := hc j hj
    exact ⟨q0, Nat.lt_of_lt_of_le q1 hb.size, rangeAt_below q2 q1 hb⟩
theorem digest_cells {H : Type} {enc : TypeId × Value → H} {P : Program} {W : World} {base : Nat} {spare : Nat → Bool} {held : Bool} {n : Nat} {e q : TypeId} {cs : List Value} {x : DataW H × List MemPlace} (he : P.underlying e = some (.array 32 q)) (hq : P.underlying q = some (.int .u8))
    (ce : P.cellsOf e = 32) (cq : P.cellsOf q = 1) (h : DataW.trod enc P W base spare held n e cs = some x) : ∃ d : List Int, Dg d ∧ cs = d.map (Value.int .u8) := by
  obtain ⟨ys, m, _, _, hl, hyl, hel⟩ := DataW.trod_array he h
  rw [ce] at hl
  have key : ∀ (j : Nat), j < 32 → ∃ x : Int, cs[j]? = some (.int .u8 x) ∧ (Lit.int .u8 x).wf = true := by
    intro j hj
    have h1 := hel j hj
    have hjl : j < cs.length := by omega
    rw [cq, Nat.mul_one] at h1
    obtain ⟨y, hy⟩ : ∃ y, ys[j]? = some y := ⟨_, List.getElem?_eq_getElem (by omega)⟩
    rw [hy] at h1
    have e1 : (cs.drop j).take 1 = [cs[j]] := by
      rw [List.drop_eq_getElem_cons hjl, List.take_succ_cons, List.take_zero]
    rw [e1] at h1
    obtain ⟨a, e0, _, wa⟩ := DataW.trod_int hq h1
    simp only [List.cons.injEq, and_true] at e0
    exact ⟨a, by rw [List.getElem?_eq_getElem hjl, e0], wa⟩
  refine ⟨cs.map fun v => match v with | .int _ x => x | _ => 0, ⟨by simp; omega, ?_⟩, ?_⟩
  · intro x hx
    simp only [List.mem_map] at hx
    obtain ⟨v, hv, rfl⟩ := hx
    obtain ⟨j, hj, rfl⟩ := List.getElem_of_mem hv
    obtain ⟨x, hx, hw⟩ := key j (by omega)
    rw [List.getElem?_eq_getElem hj] at hx
    rw [Option.some.inj hx]
    exact wf_u8 hw
  · apply List.ext_getElem?
    intro j
    rcases Nat.lt_or_ge j 32 with hj | hj
    · obtain ⟨x, hx, _⟩ := key j hj
      simp [hx]
    · rw [List.getElem?_eq_none (by omega), List.getElem?_eq_none (by simp; omega)]
/-- Digests that come in. -/
theorem open_digs {H : Type} {enc : TypeId × Value → H} {P : Program} {W : World} {base : Nat} {t e q : TypeId} {v : Value} {d : DataW H} {p : List MemPlace} (hu : P.underlying t = some (.slice e)) (he : P.underlying e = some (.array 32 q)) (hq : P.underlying q = some (.int .u8))
    (ce : P.cellsOf e = 32) (cq : P.cellsOf q = 1) (hv : Value.okWide P W .any base t v) (h : DataW.Trod enc P W 0 (fun _ => true) true t v d p) :
    ∃ (a : Option Addr) (len cap : Nat) (ds : List (List Int)), v = .slice a len cap ∧ DigsAt W a len cap ds := by
  obtain ⟨a, len, cap, rfl⟩ := okWide_slice hu hv
  obtain ⟨fuel, hf⟩ := h
  rcases Go.Deep.open_slice hu hf with ⟨hcs, _⟩ | ⟨x, l, c, m, n, D, Pl, hcs, _, hl, hm, hmm, _, hall⟩
  · simp [Value.cells] at hcs
    obtain ⟨rfl, rfl, rfl⟩ := hcs
    exact ⟨none, 0, 0, [], rfl, DigsAt.nil W⟩
  · simp [Value.cells] at hcs
    obtain ⟨rfl, rfl, rfl⟩ := hcs
    obtain ⟨b, off, s⟩ := x
    simp only [if_true] at hmm
    have hall' : ∀ i, i < cap → ∃ dd : List Int, Dg dd ∧ W.cells? 0 ((⟨b, off, s⟩ : Addr).add (i * 32)) 32 = some (dd.map (Value.int .u8)) := fun i hi => by
      obtain ⟨cs', h1, h2⟩ := hall i (by omega)
      rw [ce] at h1
      obtain ⟨dd, h3, rfl⟩ := digest_cells he hq ce cq h2
      exact ⟨dd, h3, h1⟩
    let f : Nat → List Int := fun i => if h : i < cap then Classical.choose (hall' i h) else []
    have hf : ∀ i, i < cap → Dg (f i) ∧ W.cells? 0 ((⟨b, off, s⟩ : Addr).add (i * 32)) 32 = some ((f i).map (Value.int .u8)) := fun i hi => by
      simp only [f, hi, dif_pos]
      exact Classical.choose_spec (hall' i hi)
    refine ⟨_, len, cap, (List.range len).map f, rfl, ⟨by simp, hl, by unfold maxLen at hm; omega, fun d hd => ?_, .inr ⟨b, off, s, rfl, fun i hi => ?_⟩⟩⟩
    · simp only [List.mem_map, List.mem_range] at hd
      obtain ⟨i, hi, rfl⟩ := hd
      exact (hf i (by omega)).1
    · have hc := (World.cells?_some (hf i (by omega)).2).2.2
      have h0 := (World.cells?_some (hf 0 (by omega)).2).2.2 0 (by omega)
      have hl0 := (hf 0 (by omega)).1.len
      have hli := (hf i (by omega)).1.len
      rw [List.getElem?_map, List.getElem?_eq_getElem (by omega)] at h0
      have hs : s = none := by
        have := World.cell?_spot h0
        simpa [Addr.add] using this
      subst hs
      have hx : b < W.heap.size := by
        rw [Addr.add_mid, Addr.add_mid] at h0
        exact World.block_lt_of_cell? W _ h0
      refine ⟨rfl, hx, fun k v hv => ?_⟩
      have e : ((List.range len).map f).getD i [] = f i := by simp [hi]
      rw [e] at hv
      have hk : k < 32 := by
        have := (List.getElem?_eq_some_iff.1 hv).1
        simp only [List.length_map, hli] at this
        exact this
      have := hc k hk
      rw [Addr.add_mid, Addr.add_mid] at this
      rw [this]
      exact hv
section
variable {P : Program} {w : World} {base : Nat} {t e : TypeId} {i : TypeInfo} {v z : Value} {ds : List (List Int)}
end
section
variable {P : Program} {ops : Array Oper} {rest : List Oper} {op : Oper} {a : Act} {w : World} {Q : Exit → Act → World → Prop} {t e : TypeId}
end
end Go.Proofs.YtkakoiaahgchmaaDoor
namespace Go.Proofs.YtkakoiaahgchmaaDoor
set_option maxRecDepth 100000
open Go.ChangeShapes Go.WideShapes Go.ChangeAt Go.RowKit
theorem halfN_lt {n : Nat} (h : 2 ≤ n) : 1 ≤ halfN n ∧ halfN n < n := by
  have h1 := Nat.log2_self_le (n := n - 1) (by omega)
  have h2 := Nat.pow_pos (n := Nat.log2 (n - 1)) (show 0 < 2 by omega)
  unfold halfN
  omega
end Go.Proofs.YtkakoiaahgchmaaDoor
namespace Go.Proofs.YtkakoiaahgchmaaDoor
set_option maxRecDepth 100000
open Go.ChangeShapes Go.WideShapes Go.ChangeAt Go.RowKit
section
variable {P : Program} {ops : Array Oper} {rest : List Oper} {op : Oper} {a : Act} {w : World} {Q : Exit → Act → World → Prop} {t e : TypeId}
end
section
variable {P : Program} {ops : Array Oper} {rest : List Oper} {op : Oper} {a : Act} {w : World} {Q : Exit → Act → World → Prop}
theorem wpList_index_len8 (hgd : op.guard = none) (t : TypeId) (s : ByteArray) (x : Operand) (ho : op.op = .index t (.const (.string s)) x) (hs : s = Lib.len8tab) (ht : P.underlying t = some .string) (k : IntKind) (i : Int) (hx : a.eval x = .int k i) (h0 : 0 ≤ i) (h1 : i ≤ 255)
    (h : wpList P ops Q rest (a.put op.dst (.int .u8 (Lib.len8 i))) w) : wpList P ops Q (op :: rest) a w :=
  wpList_plain hgd fun K hK => by
    subst hs
    unfold Oper.wp execOp
    have hc : a.eval (.const (.string Lib.len8tab)) = .string Lib.len8tab := rfl
    simp only [ho, hx, hc, Sem.run_bind, Sem.run_pure, Result.andThen_ok, Lib.run_index_len8tab w t k i ht h0 h1, Oper.upon_value]
    exact hK _ _ h
end
theorem len8_log (x : Nat) (hx : x < 256) : Lib.len8 (x : Int) = (if x = 0 then 0 else (Nat.log2 x : Int) + 1) :=
  (by decide +kernel : ∀ i : Fin 256, Lib.len8 ((i.val : Nat) : Int) = (if i.val = 0 then 0 else (Nat.log2 i.val : Int) + 1)) ⟨x, hx⟩
set_option maxHeartbeats 4000000 in
theorem len64_any (x : Int) (w : World) (h0 : 0 ≤ x) (h1 : x ≤ 255) : Calls Tryd.prog 85 #[.int .u64 x] w fun e w' => e = .returned (.int .i64 (Lib.len8 x)) ∧ w' = w := by
  have h2 : ¬ (4294967296 ≤ x) := by omega
  have h3 : ¬ (65536 ≤ x) := by omega
  have h4 : ¬ (256 ≤ x) := by omega
  have h5 : x % 256 = x := by omega
  have h6 : wrap64 (Lib.len8 x) = Lib.len8 x := by
    obtain ⟨n, rfl⟩ := Int.eq_ofNat_of_zero_le h0
    have hn : n < 256 := by omega
    have hl : Nat.log2 n ≤ 7 := (by decide +kernel : ∀ i : Fin 256, Nat.log2 i.val ≤ 7) ⟨n, hn⟩
    rw [len8_log n hn]
    unfold wrap64
    split <;> omega
  go_enter Tryd.func85, Tryd.ntmps85
  go_wp2_with (refine wpList_index_len8 rfl _ _ _ rfl (by kernel_rfl) Tryd.underlying9 .u8 x rfl (by omega) (by omega) ?_)
  go_ret
  exact ⟨by first | rfl | (rw [h6]; rfl) | (rw [h6, h6]; rfl), rfl⟩
set_option maxHeartbeats 4000000 in
theorem len_any (x : Int) (w : World) (h0 : 0 ≤ x) (h1 : x ≤ 255) : Calls Tryd.prog 77 #[.int .u64 x] w fun e w' => e = .returned (.int .i64 (Lib.len8 x)) ∧ w' = w := by
  go_enter Tryd.func77, Tryd.ntmps77
  go_wp2_with (go_at_call 85; refine (len64_any x _ h0 h1).mono ?_; rintro e w' ⟨rfl, rfl⟩)
  go_ret
  exact ⟨rfl, rfl⟩
theorem log2_half {n : Nat} (h : 2 ≤ n) (h2 : n ≤ 256) : ∃ k : Nat, k ≤ 7 ∧ Lib.len8 ((n : Int) - 1) = (k : Int) + 1 ∧ halfN n = 2 ^ k := by
  refine ⟨Nat.log2 (n - 1), (by decide +kernel : ∀ i : Fin 256, Nat.log2 i.val ≤ 7) ⟨n - 1, by omega⟩, ?_, rfl⟩
  have := len8_log (n - 1) (by omega)
  rw [if_neg (by omega)] at this
  rw [← this]
  congr 1
  omega
theorem wrap_pow7 {n : Nat} (h : n ≤ 7) : wrap64 ((2 : Int) ^ n) = ((2 ^ n : Nat) : Int) := (by decide +kernel : ∀ i : Fin 8, wrap64 ((2 : Int) ^ i.val) = ((2 ^ i.val : Nat) : Int)) ⟨n, by omega⟩
set_option maxHeartbeats 4000000 in
theorem lohalf_any (n : Nat) (w : World) (h : 2 ≤ n) (h2 : n ≤ 256) : Calls Tryd.prog 56 #[.int .i64 n] w fun e w' => e = .returned (.int .i64 (halfN n : Int)) ∧ w' = w := by
  obtain ⟨k, hk, hl, hn⟩ := log2_half h h2
  rw [hn]
  have CL := hid (fun W : World => len_any ((n : Int) - 1) W (by omega) (by omega))
  rw [hl] at CL
  have hw := wrap_pow7 hk
  have hw1 : wrap64 ((n : Int) - 1) = (n : Int) - 1 := by unfold wrap64; omega
  have hw2 : wrap64 ((k : Int) + 1 - 1) = (k : Int) := by unfold wrap64; omega
  have hk1 : (k : Int) + 1 - 1 = k := by omega
  have hw3 : wrap64 (k : Int) = (k : Int) := by unfold wrap64; omega
  have hc : ((n : Int) - 1) % 18446744073709551616 = (n : Int) - 1 := by omega
  go_enter Tryd.func56, Tryd.ntmps56
  go_wp2_with (go_at_call 77; refine (CL.out _).mono ?_; rintro e w' ⟨rfl, rfl⟩)
  go_ret
  exact ⟨by first | rfl | (rw [← hw]; rfl), rfl⟩
end Go.Proofs.YtkakoiaahgchmaaDoor
namespace Go.Proofs.YtkakoiaahgchmaaDoor
set_option maxRecDepth 100000
open Go.ChangeShapes Go.WideShapes Go.ChangeAt Go.RowKit
section
variable {P : Program} {ops : Array Oper} {rest : List Oper} {op : Oper} {a : Act} {w : World} {Q : Exit → Act → World → Prop}
end
theorem size_int : (Tryd.prog.info? 3).map (·.size) = some 1 := by kernel_rfl
theorem Dg.take {ds : List (List Int)} {left : Int} (h : ∀ d ∈ ds, Dg d) (hl : left ≤ ds.length) : Dg (takeZ ds left) := by
  unfold takeZ
  split
  · exact Dg.zero
  · exact Dg.getD h (by omega)
set_option maxHeartbeats 4000000 in
theorem take_none (bl bw : Nat) (left : Int) (ya : Option Addr) (yn yc : Nat) (w : World) (hne : bl ≠ bw) (kl : Blk w bl #[.int .i64 left] 3) (kw : Blk w bw #[.slice ya yn yc] 24) (hlo : -1000 ≤ left) (h0 : left - 1 < 0) :
    Calls Tryd.prog 75 #[.pointer (some ⟨bl, 0, none⟩), .pointer (some ⟨bw, 0, none⟩)] w fun e w' => e = .returned (.agg (zD.map (Value.int .u8)).toArray) ∧ But bl w w' ∧ Blk w' bl #[.int .i64 (left - 1)] 3 := by
  have hw1 : wrap64 (left - 1) = left - 1 := by unfold wrap64; omega
  have b1 := (Below.refl w.heap.size w).alloc (Nat.le_refl _) (.cells (byteCells 32 []) 23 (0, 0))
  have Kr := hid (Blk.new (w := w) (n := w.heap.size) rfl (byteCells 32 []) 23)
  have Hb := hid b1
  have hbz := b1.size
  have Hbs := hid (show w.heap.size + 1 = (w.alloc (.cells (byteCells 32 []) 23 (0, 0))).heap.size by simp only [World.size_alloc])
  clear b1 
  have Kl := hid (kl.below Hb.out)
  have Kw := hid (kw.below Hb.out)
  have hlt0 := kl.lt
  have hlt1 := kw.lt
  clear kl kw
  have cl : (w.alloc (.cells #[.int .u8 0, .int .u8 0, .int .u8 0, .int .u8 0, .int .u8 0, .int .u8 0, .int .u8 0, .int .u8 0, .int .u8 0, .int .u8 0, .int .u8 0, .int .u8 0, .int .u8 0, .int .u8 0, .int .u8 0, .int .u8 0, .int .u8 0, .int .u8 0, .int .u8 0, .int .u8 0, .int .u8 0, .int .u8 0, .int .u8 0, .int .u8 0, .int .u8 0, .int .u8 0, .int .u8 0, .int .u8 0, .int .u8 0, .int .u8 0, .int .u8 0, .int .u8 0] 23 (0, 0))).cell? ⟨bl, 0, none⟩ = some (.int .i64 left) := (show (w.alloc (.cells (byteCells 32 []) 23 (0, 0))).cell? ⟨bl, 0, none⟩ = some (.int .i64 left) by rw [Kl.out.cell]; rfl)
  go_enter Tryd.func75, Tryd.ntmps75
  go_wp2_with (first
     | (
        refine wpList_store_cell rfl 3 _ _ rfl bl 0 (.int .i64 (left - 1)) rfl rfl rfl rfl #[.int .i64 left] 3 Kl.out (by simp) size_int ?_
        intro w1 hb1 hk1
        have HB1 := hid hb1
        have Kl1 := hid (show Blk w1 bl #[.int .i64 (left - 1)] 3 from hk1)
        have Kr1 := hid (hb1.blk Kr.out (by omega))
        have Kw1 := hid (hb1.blk Kw.out (fun e => hne e.symm))
        have cl1 : w1.cell? ⟨bl, 0, none⟩ = some (.int .i64 (left - 1)) := by rw [Kl1.out.cell]; rfl
        have cw1 : w1.cell? ⟨bw, 0, none⟩ = some (.slice ya yn yc) := by rw [Kw1.out.cell]; rfl
        clear hb1 hk1)
     | (
        refine wpList_store_blk rfl 23 _ _ rfl (w.heap.size) (zD.map (Value.int .u8)).toArray rfl rfl _ 23 Kr1.out 32 size_digest zsize Dg.zero.size (ints_one _ _) ?_
        intro w9 hb9 hk9
        have HB9 := hid hb9
        have HK9 := hid hk9
        have Kl9 := hid (hb9.blk Kl1.out (by omega))
        clear hb9 hk9))
  exact bodyPost_ret (v := .agg (zD.map (Value.int .u8)).toArray) (results_blk Tryd.results75 _ (w.heap.size) rfl _ 23 HK9.out _ Tryd.underlying23 rfl 32 size_digest Dg.zero.size) rfl ⟨rfl, But.fresh (But.trans (But.of Hb.out) HB1.out) HB9.out (Nat.le_refl _), Kl9.out⟩
set_option maxHeartbeats 4000000 in
theorem take_some (bl bw : Nat) (x o q yn yc : Nat) (X : List Int) (w : World) (hne : bl ≠ bw) (kl : Blk w bl #[.int .i64 ((q : Int) + 1)] 3) (kw : Blk w bw #[.slice (some ⟨x, o, none⟩) yn yc] 24) (hq : q ≤ 1000000) (hqn : q < yn) (hx : x < w.heap.size) (hxl : x ≠ bl) (hc : w.rangeAt x (o + q * 32) (X.map (Value.int .u8))) (hX : Dg X) :
    Calls Tryd.prog 75 #[.pointer (some ⟨bl, 0, none⟩), .pointer (some ⟨bw, 0, none⟩)] w fun e w' => e = .returned (.agg (X.map (Value.int .u8)).toArray) ∧ But bl w w' ∧ Blk w' bl #[.int .i64 q] 3 := by
  have hw1 : wrap64 (q : Int) = (q : Int) := by unfold wrap64; omega
  have h0 : ¬ ((q : Int) < 0) := by omega
  have HX := hid hX
  have Hc := hid hc
  clear hc hX
  have b1 := (Below.refl w.heap.size w).alloc (Nat.le_refl _) (.cells (byteCells 32 []) 23 (0, 0))
  have Kr := hid (Blk.new (w := w) (n := w.heap.size) rfl (byteCells 32 []) 23)
  have Hb := hid b1
  have hbz := b1.size
  have Hbs := hid (show w.heap.size + 1 = (w.alloc (.cells (byteCells 32 []) 23 (0, 0))).heap.size by simp only [World.size_alloc])
  clear b1 
  have Kl := hid (kl.below Hb.out)
  have Kw := hid (kw.below Hb.out)
  have hlt0 := kl.lt
  have hlt1 := kw.lt
  clear kl kw
  have cl : (w.alloc (.cells #[.int .u8 0, .int .u8 0, .int .u8 0, .int .u8 0, .int .u8 0, .int .u8 0, .int .u8 0, .int .u8 0, .int .u8 0, .int .u8 0, .int .u8 0, .int .u8 0, .int .u8 0, .int .u8 0, .int .u8 0, .int .u8 0, .int .u8 0, .int .u8 0, .int .u8 0, .int .u8 0, .int .u8 0, .int .u8 0, .int .u8 0, .int .u8 0, .int .u8 0, .int .u8 0, .int .u8 0, .int .u8 0, .int .u8 0, .int .u8 0, .int .u8 0, .int .u8 0] 23 (0, 0))).cell? ⟨bl, 0, none⟩ = some (.int .i64 ((q : Int) + 1)) := (show (w.alloc (.cells (byteCells 32 []) 23 (0, 0))).cell? ⟨bl, 0, none⟩ = some (.int .i64 ((q : Int) + 1)) by rw [Kl.out.cell]; rfl)
  go_enter Tryd.func75, Tryd.ntmps75
  go_wp2_with (first
     | (
        refine wpList_store_cell rfl 3 _ _ rfl bl 0 (.int .i64 q) rfl rfl rfl rfl #[.int .i64 ((q : Int) + 1)] 3 Kl.out (by simp) size_int ?_
        intro w1 hb1 hk1
        have HB1 := hid hb1
        have Kl1 := hid (show Blk w1 bl #[.int .i64 q] 3 from hk1)
        have Kr1 := hid (hb1.blk Kr.out (by omega))
        have Kw1 := hid (hb1.blk Kw.out (fun e => hne e.symm))
        have cl1 : w1.cell? ⟨bl, 0, none⟩ = some (.int .i64 q) := by rw [Kl1.out.cell]; rfl
        have cw1 : w1.cell? ⟨bw, 0, none⟩ = some (.slice (some ⟨x, o, none⟩) yn yc) := by rw [Kw1.out.cell]; rfl
        have Hcx : Hid (w1.rangeAt x (o + q * 32) (X.map (Value.int .u8))) := hid (fun j v hv => by
          rw [hb1.cell (by rw [World.size_alloc]; omega) hxl]
          exact (Hb.out.cell (p := ⟨x, o + q * 32 + j, none⟩) hx).trans (Hc.out j v hv))
        clear hb1 hk1)
     | (refine wpList_index_digs rfl 24 _ _ rfl Tryd.underlying24 size_digest x o yn yc rfl _ _ rfl q (by omega) (by omega) ?_)
     | (refine wpList_load_mid rfl 23 _ rfl x (o + q * 32) rfl _ _ Hcx.out Tryd.underlying23 rfl (by rw [List.length_map, HX.out.len]; exact size_digest) ?_)
     | (
        refine wpList_store_blk rfl 23 _ _ rfl (w.heap.size) (X.map (Value.int .u8)).toArray rfl rfl _ 23 Kr1.out 32 size_digest zsize HX.out.size (ints_one _ _) ?_
        intro w9 hb9 hk9
        have HB9 := hid hb9
        have HK9 := hid hk9
        have Kl9 := hid (hb9.blk Kl1.out (by omega))
        clear hb9 hk9))
  exact bodyPost_ret (v := .agg (X.map (Value.int .u8)).toArray) (results_blk Tryd.results75 _ (w.heap.size) rfl _ 23 HK9.out _ Tryd.underlying23 rfl 32 size_digest HX.out.size) rfl ⟨rfl, But.fresh (But.trans (But.of Hb.out) HB1.out) HB9.out (Nat.le_refl _), Kl9.out⟩
set_option maxHeartbeats 4000000 in
theorem done_any (bl : Nat) (left : Int) (w : World) (kl : Blk w bl #[.int .i64 left] 3) :
    Calls Tryd.prog 76 #[.pointer (some ⟨bl, 0, none⟩)] w fun e w' => e = .returned (.bool (decide (left = 0))) ∧ w' = w := by
  have cl : w.cell? ⟨bl, 0, none⟩ = some (.int .i64 left) := by rw [kl.cell]; rfl
  go_enter Tryd.func76, Tryd.ntmps76
  go_wp2_with fail
  go_ret
  exact ⟨rfl, rfl⟩
set_option maxHeartbeats 4000000 in
theorem taker_any (ya : Option Addr) (yn yc : Nat) (w : World) :
    Calls Tryd.prog 54 #[.slice ya yn yc] w fun e w' => e = .returned (.tuple #[.func (.func 75) #[] #[.pointer (some ⟨w.heap.size + 1, 0, none⟩), .pointer (some ⟨w.heap.size, 0, none⟩)], .func (.func 76) #[] #[.pointer (some ⟨w.heap.size + 1, 0, none⟩)]]) ∧ Below w.heap.size w w' ∧ Blk w' (w.heap.size + 1) #[.int .i64 yn] 3 ∧ Blk w' w.heap.size #[.slice ya yn yc] 24 := by
  have b1 := (Below.refl w.heap.size w).alloc (Nat.le_refl _) (.cells #[.slice ya yn yc] 24 (0, 0))
  have Kw := hid (Blk.new (w := w) (n := w.heap.size) rfl #[.slice ya yn yc] 24)
  have Hb := hid b1
  have hbz := b1.size
  have Hbs := hid (show w.heap.size + 1 = (w.alloc (.cells #[.slice ya yn yc] 24 (0, 0))).heap.size by simp only [World.size_alloc])
  clear b1 
  go_enter Tryd.func54, Tryd.ntmps54
  have cw : (w.alloc (.cells #[.slice ya yn yc] 24 (0, 0))).cell? ⟨w.heap.size, 0, none⟩ = some (.slice ya yn yc) := by rw [Kw.out.cell]; rfl
  go_wp2_with fail
  go_returns
  exact ⟨rfl, Hb.out.alloc Hb.out.size _, Blk.new (w := (w.alloc (.cells #[.slice ya yn yc] 24 (0, 0)))) (n := w.heap.size + 1) (by simp only [World.size_alloc]) _ _, Kw.out.old _⟩
theorem Dg.head {d : List Int} (h : Dg d) : (d.map (Value.int .u8))[0]? = some (.int .u8 (d.getD 0 0)) := by
  have hl := h.len
  match d, hl with
  | x :: d, _ => rfl
  | [], hl => simp at hl
theorem blk_not {w : World} {bl x o : Nat} {left : Int} {v : Value} (kl : Blk w bl #[.int .i64 left] 3) (hc : w.cell? ⟨x, o, none⟩ = some v) (hv : ∀ n, v ≠ .int .i64 n) : x ≠ bl := fun e => by
  subst e
  rw [kl.cell] at hc
  match o, hc with
  | 0, hc => exact hv left (by simpa using hc.symm)
  | o + 1, hc => simp at hc
theorem HEnv.but {w w' : World} {bb bt ba bl bw : Nat} {ta : Option Addr} {tn tc : Nat} {m : List Int} {ya : Option Addr} {yn yc : Nat} {ds : List (List Int)} {left : Int} (h : HEnv w bb bt ba bl bw ta tn tc m ya yn yc ds) (kl : Blk w bl #[.int .i64 left] 3) (hb : But bl w w') : HEnv w' bb bt ba bl bw ta tn tc m ya yn yc ds := by
  obtain ⟨kb, kt, ka, kw, ht, hw, tab, nb, nt, na, nw⟩ := h
  refine ⟨hb.blk kb nb, hb.blk kt nt, hb.blk ka na, hb.blk kw nw, ?_, ?_, ?_, nb, nt, na, nw⟩
  · obtain ⟨h1, h2, h3, h4, h5 | ⟨x, o, s, rfl, hc⟩⟩ := ht
    · exact ⟨h1, h2, h3, h4, .inl h5⟩
    · refine ⟨h1, h2, h3, h4, .inr ⟨x, o, s, rfl, fun j hj => ?_⟩⟩
      obtain ⟨q0, q1, q2⟩ := hc j hj
      have hne := blk_not kl q2 (fun n e => by cases e)
      exact ⟨q0, Nat.lt_of_lt_of_le q1 hb.size, (hb.cell q1 hne).trans q2⟩
  · obtain ⟨h1, h2, h3, h4, h5 | ⟨x, o, s, rfl, hc⟩⟩ := hw
    · exact ⟨h1, h2, h3, h4, .inl h5⟩
    · refine ⟨h1, h2, h3, h4, .inr ⟨x, o, s, rfl, fun j hj => ?_⟩⟩
      obtain ⟨q0, q1, q2⟩ := hc j hj
      have hd := Dg.getD h4 (j := j) (by omega)
      have hne : x ≠ bl := blk_not kl (q2 0 (.int .u8 ((ds.getD j []).getD 0 0)) hd.head) (fun n e => by cases e)
      exact ⟨q0, Nat.lt_of_lt_of_le q1 hb.size, fun k v hv => (hb.cell q1 hne).trans (q2 k v hv)⟩
  · exact tab.but hb (fun e => blk_not kl (tab.keys 0 (by omega)) (fun n e => by cases e) e.symm) (fun e => blk_not kl tab.start.1 (fun n e => by cases e) e.symm)
theorem Dg.upZ {X : List Int} (hX : Dg X) (f : Nat) : ∀ n i ds left, Dg (upZ f X n i ds left).1 := by
  induction f with
  | zero => intro n i ds left; exact hX
  | succ f ih =>
    intro n i ds left
    unfold Go.Proofs.YtkakoiaahgchmaaDoor.upZ
    split
    · exact hX
    · split
      · exact Dg.nodeL _ _
      · exact Dg.nodeL _ _
set_option maxHeartbeats 4000000 in
theorem take_any {w : World} {bb bt ba bl bw : Nat} {ta : Option Addr} {tn tc : Nat} {m : List Int} {ya : Option Addr} {yn yc : Nat} {ds : List (List Int)} {left : Int} (h : HEnv w bb bt ba bl bw ta tn tc m ya yn yc ds) (kl : Blk w bl #[.int .i64 left] 3) (hlo : -1000 ≤ left) (hhi : left ≤ yn) (hyn : yn ≤ 1000000) :
    Calls Tryd.prog 75 #[.pointer (some ⟨bl, 0, none⟩), .pointer (some ⟨bw, 0, none⟩)] w fun e w' => e = .returned (.agg ((takeZ ds left).map (Value.int .u8)).toArray) ∧ But bl w w' ∧ Blk w' bl #[.int .i64 (left - 1)] 3 := by
  unfold takeZ
  by_cases h0 : left - 1 < 0
  · rw [if_pos h0]
    exact take_none bl bw left ya yn yc w h.nw.symm kl h.kw hlo h0
  · rw [if_neg h0]
    obtain ⟨q, hq⟩ := Int.eq_ofNat_of_zero_le (show 0 ≤ left - 1 by omega)
    obtain rfl : left = (q : Int) + 1 := by omega
    obtain ⟨x, o, hxa, hx, hc⟩ := h.way.at_ (by omega)
    have hd := h.way.get (j := q) (by omega)
    have hkw := h.kw
    subst hxa
    have hne : x ≠ bl := blk_not kl (hc q (by omega) 0 (.int .u8 ((ds.getD q []).getD 0 0)) hd.head) (fun n e => by cases e)
    have := take_some bl bw x o q yn yc (ds.getD q []) w h.nw.symm kl hkw (by omega) (by omega) hx hne (hc q (by omega)) hd
    rw [show (q : Int) + 1 - 1 = (q : Int) by omega, Int.toNat_natCast]
    exact this
end Go.Proofs.YtkakoiaahgchmaaDoor
namespace Go.Proofs.YtkakoiaahgchmaaDoor
set_option maxRecDepth 100000
open Go.ChangeShapes Go.WideShapes Go.ChangeAt Go.RowKit
theorem but_of_in {b : Nat} {w w' : World} (h : FlowB.ButIn [b] w w') : But b w w' := ⟨h.os, h.tape, h.output, h.size, fun k hk hne => h.block k hk (by simpa using hne)⟩
set_option maxHeartbeats 4000000 in
theorem above_one (i left : Int) (bb bt ba bl bw : Nat) (ta : Option Addr) (tn tc : Nat) (m : List Int) (ya : Option Addr) (yn yc : Nat) (ds : List (List Int)) (w : World) (he : HEnv w bb bt ba bl bw ta tn tc m ya yn yc ds) (kl : Blk w bl #[.int .i64 left] 3) (htn : tn ≤ 1000000) :
    Calls Tryd.prog 55 #[.int .i64 1, .int .i64 i, .pointer (some ⟨bb, 0, none⟩), .pointer (some ⟨bt, 0, none⟩), .pointer (some ⟨ba, 0, none⟩)] w fun e w' => e = .returned (.agg ((leafL m).map (Value.int .u8)).toArray) ∧ But bl w w' ∧ Blk w' bl #[.int .i64 left] 3 := by
  have hllt := kl.lt
  have CL := hid (fun (W : World) (h : TextAt W ta tn tc m) (t : ShaTab W) => loleaf_any ta tn tc m W h (by omega) t)
  have HX := hid (Dg.leafL m)
  generalize leafL m = X at *
  have b1 := (Below.refl w.heap.size w).alloc (Nat.le_refl _) (.cells (byteCells 32 []) 23 (0, 0))
  have Kr := hid (Blk.new (w := w) (n := w.heap.size) rfl (byteCells 32 []) 23)
  have Hb := hid b1
  have hbz := b1.size
  have Hbs := hid (show w.heap.size + 1 = (w.alloc (.cells (byteCells 32 []) 23 (0, 0))).heap.size by simp only [World.size_alloc])
  clear b1 
  have HE := hid (he.but kl (But.of Hb.out))
  have Kl := hid (kl.below Hb.out)
  have cb : (w.alloc (.cells #[.int .u8 0, .int .u8 0, .int .u8 0, .int .u8 0, .int .u8 0, .int .u8 0, .int .u8 0, .int .u8 0, .int .u8 0, .int .u8 0, .int .u8 0, .int .u8 0, .int .u8 0, .int .u8 0, .int .u8 0, .int .u8 0, .int .u8 0, .int .u8 0, .int .u8 0, .int .u8 0, .int .u8 0, .int .u8 0, .int .u8 0, .int .u8 0, .int .u8 0, .int .u8 0, .int .u8 0, .int .u8 0, .int .u8 0, .int .u8 0, .int .u8 0, .int .u8 0] 23 (0, 0))).cell? ⟨bb, 0, none⟩ = some (.slice ta tn tc) := (show (w.alloc (.cells (byteCells 32 []) 23 (0, 0))).cell? ⟨bb, 0, none⟩ = some (.slice ta tn tc) by rw [HE.out.kb.cell]; rfl)
  clear he kl
  go_enter Tryd.func55, Tryd.ntmps55
  go_wp2_with fail
  refine (CL.out _ HE.out.text HE.out.tab).mono ?_
  rintro e w5 ⟨rfl, b5⟩
  have Kr5 := hid (Kr.out.below b5)
  have Kl5 := hid (Kl.out.below b5)
  have HB5 := hid (Below.on Hb.out b5)
  clear b5
  go_wp2_with (
        refine wpList_store_blk rfl 23 _ _ rfl (w.heap.size) (X.map (Value.int .u8)).toArray rfl rfl _ 23 Kr5.out 32 size_digest zsize HX.out.size (ints_one _ _) ?_
        intro w9 hb9 hk9
        have HB9 := hid hb9
        have HK9 := hid hk9
        have Kl9 := hid (hb9.blk Kl5.out (by omega))
        clear hb9 hk9)
  exact bodyPost_ret (v := .agg (X.map (Value.int .u8)).toArray) (results_blk Tryd.results55 _ (w.heap.size) rfl _ 23 HK9.out _ Tryd.underlying23 rfl 32 size_digest HX.out.size) rfl ⟨rfl, But.fresh (But.of HB5.out) HB9.out (Nat.le_refl _), Kl9.out⟩
set_option maxHeartbeats 4000000 in
theorem above_l (n i k : Nat) (left : Int) (bb bt ba bl bw : Nat) (ta : Option Addr) (tn tc : Nat) (m : List Int) (ya : Option Addr) (yn yc : Nat) (ds : List (List Int)) (w : World) (he : HEnv w bb bt ba bl bw ta tn tc m ya yn yc ds) (kl : Blk w bl #[.int .i64 left] 3) (hn : 2 ≤ n) (hn2 : n ≤ 200) (_hin : i < n) (hkk : halfN n = k) (hlo : -1000 ≤ left) (hhi : left ≤ yn) (hyn : yn ≤ 1000000) (hik : i < k)
    (R1 : List Int) (L2 : Int) (hR : Dg R1) (ca : ∀ W : World, HEnv W bb bt ba bl bw ta tn tc m ya yn yc ds → Blk W bl #[.int .i64 (left - 1)] 3 → Calls Tryd.prog 55 #[.int .i64 (k : Int), .int .i64 (i : Int), .pointer (some ⟨bb, 0, none⟩), .pointer (some ⟨bt, 0, none⟩), .pointer (some ⟨ba, 0, none⟩)] W fun e w' => e = .returned (.agg (R1.map (Value.int .u8)).toArray) ∧ But bl W w' ∧ Blk w' bl #[.int .i64 L2] 3) :
    Calls Tryd.prog 55 #[.int .i64 n, .int .i64 i, .pointer (some ⟨bb, 0, none⟩), .pointer (some ⟨bt, 0, none⟩), .pointer (some ⟨ba, 0, none⟩)] w fun e w' => e = .returned (.agg ((nodeL R1 (takeZ ds left)).map (Value.int .u8)).toArray) ∧ But bl w w' ∧ Blk w' bl #[.int .i64 L2] 3 := by
  obtain ⟨hk1, hk2⟩ := halfN_lt hn
  rw [hkk] at hk1 hk2
  have hn1 : ¬ ((n : Int) = 1) := by omega
  have CH := hid (fun W : World => (lohalf_any n W hn (by omega)).mono (fun e w' (h : e = .returned (.int .i64 (halfN n : Int)) ∧ w' = W) => show e = .returned (.int .i64 (halfN n : Int)) ∧ Below W.heap.size W w' from ⟨h.1, by rw [h.2]; exact Below.refl _ _⟩))
  rw [hkk] at CH
  have CT := hid (fun (W : World) (h : HEnv W bb bt ba bl bw ta tn tc m ya yn yc ds) (k1 : Blk W bl #[.int .i64 left] 3) => take_any h k1 hlo hhi hyn)
  have CA := hid ca
  have hwl := he.way.length
  have HO := hid (Dg.take he.way.each (left := left) (by omega))
  have HR := hid hR
  generalize takeZ ds left = O at *
  have CN := hid (fun (W : World) (t : ShaTab W) => lonode_any R1 O W HR.out HO.out t)
  have HX := hid (Dg.nodeL R1 O)
  generalize nodeL R1 O = X at *
  have hikI : (i : Int) < k := by omega
  clear ca hR hkk hwl
  have b1 := (Below.refl w.heap.size w).alloc (Nat.le_refl _) (.cells (byteCells 32 []) 23 (0, 0))
  have Kr := hid (Blk.new (w := w) (n := w.heap.size) rfl (byteCells 32 []) 23)
  have Hb := hid b1
  have hbz := b1.size
  have Hbs := hid (show w.heap.size + 1 = (w.alloc (.cells (byteCells 32 []) 23 (0, 0))).heap.size by simp only [World.size_alloc])
  clear b1 
  have HE := hid (he.but kl (But.of Hb.out))
  have Kl := hid (kl.below Hb.out)
  have hllt := kl.lt
  clear he kl
  go_enter Tryd.func55, Tryd.ntmps55
  go_wp2_with fail
  refine FlowB.wp_region_butIn [bl] (fun wz => Blk wz bl #[.int .i64 left] 3) 5 [0, 1, 2] [4] [(.c 3, [], []), (.b 4, [], [])] (by kernel_rfl) (by kernel_rfl) Kl.out (fun _ _ h hb => h.below hb) ?_
  apply Exists.intro
  refine ⟨fun w0 hb0 hF0 => ?_, ?_⟩
  · skip
    have yt : ∀ w', (∃ x : Ext w0, w' = x.at_) → w'.cell? ⟨bt, 0, none⟩ = some (.func (.func 75) #[] #[.pointer (some ⟨bl, 0, none⟩), .pointer (some ⟨bw, 0, none⟩)]) := fun w' ⟨x, hx⟩ => by rw [hx, ((((HE.out.but Kl.out (but_of_in hb0)).kt).below x.same)).cell]; rfl
    have c0 := fun e : Ext w0 => CH.out e.at_
    simp only [pick, List.getElem?_toArray, List.getElem?_cons_succ, List.getElem?_cons_zero, Option.toList_some, List.cons_append, List.nil_append]
    repeat (first | (go_big_quiet_want; refine quiet_load_one 88 _ rfl ⟨bt, 0, none⟩ rfl _ yt _ Tryd.underlying88 rfl ?_; go_big_quiet_on; simp only [Act.put, List.setIfInBounds_toArray, List.set_cons_zero, List.set_cons_succ]) | go_big_quiet_step ((go_at_call 56; with_reducible exact Calls.ext (c0 _))))
    exact wpQuiet_nil rfl
  refine FlowB.AlChk.one rfl (fun b => .pointer (some ⟨b, 0, none⟩)) (.cells (byteCells 32 []) 23 (0, 0)) rfl (st_butIn _ (by rw [World.size_alloc]; omega)) (fun w2 hb2 hF2 => by go_simp; rfl) ?_
  refine FlowB.AlChk.nil ?_
  refine FlowB.Walk.call rfl 75 #[.pointer (some ⟨bl, 0, none⟩), .pointer (some ⟨bw, 0, none⟩)] (fun v _ => v = .agg (O.map (Value.int .u8)).toArray) (fun _ w' => Blk w' bl #[.int .i64 (left - 1)] 3) (fun _ _ _ _ h _ => h) (fun _ _ _ h k => h.below k) rfl (fun w1 hb1 hF1 hG1 => ⟨by go_simp, ?_⟩) ?_
  · refine (CT.out w1 (HE.out.but Kl.out (but_of_in hb1)) hG1).mono ?_
    rintro e w2 ⟨rfl, b2, k2⟩
    exact ⟨_, rfl, FlowB.ButIn.of_but b2 (by simp), rfl, k2⟩
  rintro v1 w1 hb1 hF1 rfl
  apply Exists.intro
  refine ⟨fun w2 hb2 hF2 => wpQuiet_nil rfl, ?_⟩
  refine FlowB.AlChk.nil ?_
  refine FlowB.Walk.blk rfl (fun b => .pointer (some ⟨b, 0, none⟩)) (.cells (byteCells 32 []) 23 (0, 0)) (by simp) ?_
  intro b9 wz hbz_ hFz hge9 _
  apply Exists.intro
  refine ⟨fun w2 hb2 hF2 => wpQuiet_nil rfl, ?_⟩
  refine FlowB.AlChk.nil ?_
  refine FlowB.Walk.fin fun w3 h3 hF3 hG3 => ?_
  simp only [List.drop_succ_cons, List.drop_zero]
  have HB3 := hid (but_of_in h3)
  have K93 := hid (show Blk w3 b9 (byteCells 32 []) 23 from hF3.2)
  have Kl3 := hid (show Blk w3 bl #[.int .i64 (left - 1)] 3 from hG3)
  rw [World.size_alloc] at hge9
  have Kr3 := hid (HB3.out.blk Kr.out (by omega))
  clear h3 hF3 hG3 hbz_ hFz
  go_wp2_with (
        refine wpList_store_blk rfl 23 _ _ rfl b9 (O.map (Value.int .u8)).toArray rfl rfl _ 23 K93.out 32 size_digest zsize HO.out.size (ints_one _ _) ?_
        intro w4 hb4 hk4
        have HB4 := hid (But.fresh HB3.out hb4 (by rw [World.size_alloc]; omega))
        have K94 := hid hk4
        have Kl4 := hid (hb4.blk Kl3.out (by omega))
        have Kr4 := hid (hb4.blk Kr3.out (by omega))
        have HE4 := hid (HE.out.but Kl.out HB4.out)
        have hs94 := K94.out.lt
        clear hb4 hk4)
  refine FlowB.wp_region_butIn [bl] (fun wz => Blk wz bl #[.int .i64 (left - 1)] 3) 6 [0, 1, 2, 4] [] [(.c 3, [5], [])] (by kernel_rfl) (by kernel_rfl) Kl4.out (fun _ _ h hb => h.below hb) ?_
  apply Exists.intro
  refine ⟨fun w0 hb0 hF0 => ?_, ?_⟩
  · skip
    have ya_ : ∀ w', (∃ x : Ext w0, w' = x.at_) → w'.cell? ⟨ba, 0, none⟩ = some (.func (.func 55) #[] #[.pointer (some ⟨bb, 0, none⟩), .pointer (some ⟨bt, 0, none⟩), .pointer (some ⟨ba, 0, none⟩)]) := fun w' ⟨x, hx⟩ => by rw [hx, ((((HE4.out.but Kl4.out (but_of_in hb0)).ka).below x.same)).cell]; rfl
    have x0 : ∀ w', (∃ x : Ext w0, w' = x.at_) → ∃ T, Blk w' (b9) (O.map (Value.int .u8)).toArray T := fun w' ⟨x, hx⟩ => ⟨_, hx ▸ ((but_of_in hb0).blk K94.out (by omega)).below x.same⟩
    simp only [pick, List.getElem?_toArray, List.getElem?_cons_succ, List.getElem?_cons_zero, Option.toList_some, List.cons_append, List.nil_append]
    repeat (first | (go_big_quiet_want; refine quiet_load_one 91 _ rfl ⟨ba, 0, none⟩ rfl _ ya_ _ Tryd.underlying91 rfl ?_; go_big_quiet_on; simp only [Act.put, List.setIfInBounds_toArray, List.set_cons_zero, List.set_cons_succ]) | (go_big_quiet_want; refine quiet_load_blk 23 _ rfl (b9) rfl _ x0 _ Tryd.underlying23 rfl 32 size_digest HO.out.size ?_; go_big_quiet_on; simp only [Act.put, List.setIfInBounds_toArray, List.set_cons_zero, List.set_cons_succ]) | go_big_quiet_step (fail))
    exact wpQuiet_nil rfl
  refine FlowB.AlChk.nil ?_
  refine FlowB.Walk.call rfl 55 #[.int .i64 (k : Int), .int .i64 (i : Int), .pointer (some ⟨bb, 0, none⟩), .pointer (some ⟨bt, 0, none⟩), .pointer (some ⟨ba, 0, none⟩)] (fun v _ => v = .agg (R1.map (Value.int .u8)).toArray) (fun _ w' => Blk w' bl #[.int .i64 L2] 3) (fun _ _ _ _ h _ => h) (fun _ _ _ h k => h.below k) rfl (fun w1 hb1 hF1 hG1 => ⟨by go_simp, ?_⟩) ?_
  · skip
    refine (CA.out w1 (HE4.out.but Kl4.out (but_of_in hb1)) hG1).mono ?_
    rintro e w2 ⟨rfl, b2, k2⟩
    exact ⟨_, rfl, FlowB.ButIn.of_but b2 (by simp), rfl, k2⟩
  rintro v1 w1 hb1 hF1 rfl
  apply Exists.intro
  refine ⟨fun w0 hb0 hF0 => ?_, ?_⟩
  · skip
    have c1 := fun e : Ext w0 => CN.out e.at_ ((HE4.out.but Kl4.out (but_of_in hb0)).tab.below e.same)
    simp only [pick, List.getElem?_toArray, List.getElem?_cons_succ, List.getElem?_cons_zero, Option.toList_some, List.cons_append, List.nil_append, Act.put, List.setIfInBounds_toArray, List.set_cons_zero, List.set_cons_succ]
    repeat (go_big_quiet_step ((go_at_call 57; with_reducible exact Calls.ext (c1 _))))
    exact wpQuiet_nil rfl
  refine FlowB.AlChk.nil ?_
  refine FlowB.Walk.fin fun w5 h5 hF5 hG5 => ?_
  simp only [List.drop_succ_cons, List.drop_zero]
  have HB5 := hid (but_of_in h5)
  have Kl5 := hid (show Blk w5 bl #[.int .i64 L2] 3 from hG5)
  have Kr5 := hid (HB5.out.blk Kr4.out (by omega))
  clear h5 hF5 hG5
  go_wp2_with (
        refine wpList_store_blk rfl 23 _ _ rfl (w.heap.size) (X.map (Value.int .u8)).toArray rfl rfl _ 23 Kr5.out 32 size_digest zsize HX.out.size (ints_one _ _) ?_
        intro w9 hb9 hk9
        have HB9 := hid hb9
        have HK9 := hid hk9
        have Kl9 := hid (hb9.blk Kl5.out (by omega))
        clear hb9 hk9)
  exact bodyPost_ret (v := .agg (X.map (Value.int .u8)).toArray) (results_blk Tryd.results55 _ (w.heap.size) rfl _ 23 HK9.out _ Tryd.underlying23 rfl 32 size_digest HX.out.size) rfl ⟨rfl, But.fresh (But.trans (But.of Hb.out) (But.trans HB4.out HB5.out)) HB9.out (Nat.le_refl _), Kl9.out⟩
set_option maxHeartbeats 4000000 in
theorem above_r (n i k : Nat) (left : Int) (bb bt ba bl bw : Nat) (ta : Option Addr) (tn tc : Nat) (m : List Int) (ya : Option Addr) (yn yc : Nat) (ds : List (List Int)) (w : World) (he : HEnv w bb bt ba bl bw ta tn tc m ya yn yc ds) (kl : Blk w bl #[.int .i64 left] 3) (hn : 2 ≤ n) (hn2 : n ≤ 200) (hin : i < n) (hkk : halfN n = k) (hlo : -1000 ≤ left) (hhi : left ≤ yn) (hyn : yn ≤ 1000000) (hik : ¬ i < k)
    (R1 : List Int) (L2 : Int) (hR : Dg R1) (ca : ∀ W : World, HEnv W bb bt ba bl bw ta tn tc m ya yn yc ds → Blk W bl #[.int .i64 (left - 1)] 3 → Calls Tryd.prog 55 #[.int .i64 ((n - k : Nat) : Int), .int .i64 ((i - k : Nat) : Int), .pointer (some ⟨bb, 0, none⟩), .pointer (some ⟨bt, 0, none⟩), .pointer (some ⟨ba, 0, none⟩)] W fun e w' => e = .returned (.agg (R1.map (Value.int .u8)).toArray) ∧ But bl W w' ∧ Blk w' bl #[.int .i64 L2] 3) :
    Calls Tryd.prog 55 #[.int .i64 n, .int .i64 i, .pointer (some ⟨bb, 0, none⟩), .pointer (some ⟨bt, 0, none⟩), .pointer (some ⟨ba, 0, none⟩)] w fun e w' => e = .returned (.agg ((nodeL (takeZ ds left) R1).map (Value.int .u8)).toArray) ∧ But bl w w' ∧ Blk w' bl #[.int .i64 L2] 3 := by
  obtain ⟨hk1, hk2⟩ := halfN_lt hn
  rw [hkk] at hk1 hk2
  have hn1 : ¬ ((n : Int) = 1) := by omega
  have CH := hid (fun W : World => (lohalf_any n W hn (by omega)).mono (fun e w' (h : e = .returned (.int .i64 (halfN n : Int)) ∧ w' = W) => show e = .returned (.int .i64 (halfN n : Int)) ∧ Below W.heap.size W w' from ⟨h.1, by rw [h.2]; exact Below.refl _ _⟩))
  rw [hkk] at CH
  have CT := hid (fun (W : World) (h : HEnv W bb bt ba bl bw ta tn tc m ya yn yc ds) (k1 : Blk W bl #[.int .i64 left] 3) => take_any h k1 hlo hhi hyn)
  have CA := hid ca
  have hwl := he.way.length
  have HO := hid (Dg.take he.way.each (left := left) (by omega))
  have HR := hid hR
  generalize takeZ ds left = O at *
  have CN := hid (fun (W : World) (t : ShaTab W) => lonode_any O R1 W HO.out HR.out t)
  have HX := hid (Dg.nodeL O R1)
  generalize nodeL O R1 = X at *
  have hikI : ¬ ((i : Int) < k) := by omega
  have Hs1 := hid (show (n : Int) - (k : Int) = ((n - k : Nat) : Int) by omega)
  have Hs2 := hid (show (i : Int) - (k : Int) = ((i - k : Nat) : Int) by omega)
  have hw1 : wrap64 ((n : Int) - (k : Int)) = (n : Int) - (k : Int) := by unfold wrap64; omega
  have hw2 : wrap64 ((i : Int) - (k : Int)) = (i : Int) - (k : Int) := by unfold wrap64; omega
  clear ca hR hkk hwl
  have b1 := (Below.refl w.heap.size w).alloc (Nat.le_refl _) (.cells (byteCells 32 []) 23 (0, 0))
  have Kr := hid (Blk.new (w := w) (n := w.heap.size) rfl (byteCells 32 []) 23)
  have Hb := hid b1
  have hbz := b1.size
  have Hbs := hid (show w.heap.size + 1 = (w.alloc (.cells (byteCells 32 []) 23 (0, 0))).heap.size by simp only [World.size_alloc])
  clear b1 
  have HE := hid (he.but kl (But.of Hb.out))
  have Kl := hid (kl.below Hb.out)
  have hllt := kl.lt
  clear he kl
  go_enter Tryd.func55, Tryd.ntmps55
  go_wp2_with fail
  refine FlowB.wp_region_butIn [bl] (fun wz => Blk wz bl #[.int .i64 left] 3) 5 [0, 1, 2] [4] [(.c 3, [], []), (.b 4, [], [])] (by kernel_rfl) (by kernel_rfl) Kl.out (fun _ _ h hb => h.below hb) ?_
  apply Exists.intro
  refine ⟨fun w0 hb0 hF0 => ?_, ?_⟩
  · skip
    have yt : ∀ w', (∃ x : Ext w0, w' = x.at_) → w'.cell? ⟨bt, 0, none⟩ = some (.func (.func 75) #[] #[.pointer (some ⟨bl, 0, none⟩), .pointer (some ⟨bw, 0, none⟩)]) := fun w' ⟨x, hx⟩ => by rw [hx, ((((HE.out.but Kl.out (but_of_in hb0)).kt).below x.same)).cell]; rfl
    have c0 := fun e : Ext w0 => CH.out e.at_
    simp only [pick, List.getElem?_toArray, List.getElem?_cons_succ, List.getElem?_cons_zero, Option.toList_some, List.cons_append, List.nil_append]
    repeat (first | (go_big_quiet_want; refine quiet_load_one 88 _ rfl ⟨bt, 0, none⟩ rfl _ yt _ Tryd.underlying88 rfl ?_; go_big_quiet_on; simp only [Act.put, List.setIfInBounds_toArray, List.set_cons_zero, List.set_cons_succ]) | go_big_quiet_step ((go_at_call 56; with_reducible exact Calls.ext (c0 _))))
    exact wpQuiet_nil rfl
  refine FlowB.AlChk.one rfl (fun b => .pointer (some ⟨b, 0, none⟩)) (.cells (byteCells 32 []) 23 (0, 0)) rfl (st_butIn _ (by rw [World.size_alloc]; omega)) (fun w2 hb2 hF2 => by go_simp; rfl) ?_
  refine FlowB.AlChk.nil ?_
  refine FlowB.Walk.call rfl 75 #[.pointer (some ⟨bl, 0, none⟩), .pointer (some ⟨bw, 0, none⟩)] (fun v _ => v = .agg (O.map (Value.int .u8)).toArray) (fun _ w' => Blk w' bl #[.int .i64 (left - 1)] 3) (fun _ _ _ _ h _ => h) (fun _ _ _ h k => h.below k) rfl (fun w1 hb1 hF1 hG1 => ⟨by go_simp, ?_⟩) ?_
  · refine (CT.out w1 (HE.out.but Kl.out (but_of_in hb1)) hG1).mono ?_
    rintro e w2 ⟨rfl, b2, k2⟩
    exact ⟨_, rfl, FlowB.ButIn.of_but b2 (by simp), rfl, k2⟩
  rintro v1 w1 hb1 hF1 rfl
  apply Exists.intro
  refine ⟨fun w2 hb2 hF2 => wpQuiet_nil rfl, ?_⟩
  refine FlowB.AlChk.nil ?_
  refine FlowB.Walk.blk rfl (fun b => .pointer (some ⟨b, 0, none⟩)) (.cells (byteCells 32 []) 23 (0, 0)) (by simp) ?_
  intro b9 wz hbz_ hFz hge9 _
  apply Exists.intro
  refine ⟨fun w2 hb2 hF2 => wpQuiet_nil rfl, ?_⟩
  refine FlowB.AlChk.nil ?_
  refine FlowB.Walk.fin fun w3 h3 hF3 hG3 => ?_
  simp only [List.drop_succ_cons, List.drop_zero]
  have HB3 := hid (but_of_in h3)
  have K93 := hid (show Blk w3 b9 (byteCells 32 []) 23 from hF3.2)
  have Kl3 := hid (show Blk w3 bl #[.int .i64 (left - 1)] 3 from hG3)
  rw [World.size_alloc] at hge9
  have Kr3 := hid (HB3.out.blk Kr.out (by omega))
  clear h3 hF3 hG3 hbz_ hFz
  go_wp2_with (
        refine wpList_store_blk rfl 23 _ _ rfl b9 (O.map (Value.int .u8)).toArray rfl rfl _ 23 K93.out 32 size_digest zsize HO.out.size (ints_one _ _) ?_
        intro w4 hb4 hk4
        have HB4 := hid (But.fresh HB3.out hb4 (by rw [World.size_alloc]; omega))
        have K94 := hid hk4
        have Kl4 := hid (hb4.blk Kl3.out (by omega))
        have Kr4 := hid (hb4.blk Kr3.out (by omega))
        have HE4 := hid (HE.out.but Kl.out HB4.out)
        have hs94 := K94.out.lt
        clear hb4 hk4)
  refine FlowB.wp_region_butIn [bl] (fun wz => Blk wz bl #[.int .i64 (left - 1)] 3) 10 [0, 1, 2, 3, 4, 5, 6, 7] [] [(.c 8, [9], [])] (by kernel_rfl) (by kernel_rfl) Kl4.out (fun _ _ h hb => h.below hb) ?_
  apply Exists.intro
  refine ⟨fun w0 hb0 hF0 => ?_, ?_⟩
  · skip
    have ya_ : ∀ w', (∃ x : Ext w0, w' = x.at_) → w'.cell? ⟨ba, 0, none⟩ = some (.func (.func 55) #[] #[.pointer (some ⟨bb, 0, none⟩), .pointer (some ⟨bt, 0, none⟩), .pointer (some ⟨ba, 0, none⟩)]) := fun w' ⟨x, hx⟩ => by rw [hx, ((((HE4.out.but Kl4.out (but_of_in hb0)).ka).below x.same)).cell]; rfl
    have x0 : ∀ w', (∃ x : Ext w0, w' = x.at_) → ∃ T, Blk w' (b9) (O.map (Value.int .u8)).toArray T := fun w' ⟨x, hx⟩ => ⟨_, hx ▸ ((but_of_in hb0).blk K94.out (by omega)).below x.same⟩
    simp only [pick, List.getElem?_toArray, List.getElem?_cons_succ, List.getElem?_cons_zero, Option.toList_some, List.cons_append, List.nil_append]
    repeat (first | (go_big_quiet_want; refine quiet_load_one 91 _ rfl ⟨ba, 0, none⟩ rfl _ ya_ _ Tryd.underlying91 rfl ?_; go_big_quiet_on; simp only [Act.put, List.setIfInBounds_toArray, List.set_cons_zero, List.set_cons_succ]) | (go_big_quiet_want; refine quiet_load_blk 23 _ rfl (b9) rfl _ x0 _ Tryd.underlying23 rfl 32 size_digest HO.out.size ?_; go_big_quiet_on; simp only [Act.put, List.setIfInBounds_toArray, List.set_cons_zero, List.set_cons_succ]) | go_big_quiet_step (fail))
    exact wpQuiet_nil rfl
  refine FlowB.AlChk.nil ?_
  refine FlowB.Walk.call rfl 55 #[.int .i64 ((n : Int) - (k : Int)), .int .i64 ((i : Int) - (k : Int)), .pointer (some ⟨bb, 0, none⟩), .pointer (some ⟨bt, 0, none⟩), .pointer (some ⟨ba, 0, none⟩)] (fun v _ => v = .agg (R1.map (Value.int .u8)).toArray) (fun _ w' => Blk w' bl #[.int .i64 L2] 3) (fun _ _ _ _ h _ => h) (fun _ _ _ h k => h.below k) rfl (fun w1 hb1 hF1 hG1 => ⟨by go_simp, ?_⟩) ?_
  · skip
    rw [Hs1.out, Hs2.out]
    refine (CA.out w1 (HE4.out.but Kl4.out (but_of_in hb1)) hG1).mono ?_
    rintro e w2 ⟨rfl, b2, k2⟩
    exact ⟨_, rfl, FlowB.ButIn.of_but b2 (by simp), rfl, k2⟩
  rintro v1 w1 hb1 hF1 rfl
  apply Exists.intro
  refine ⟨fun w0 hb0 hF0 => ?_, ?_⟩
  · skip
    have c1 := fun e : Ext w0 => CN.out e.at_ ((HE4.out.but Kl4.out (but_of_in hb0)).tab.below e.same)
    simp only [pick, List.getElem?_toArray, List.getElem?_cons_succ, List.getElem?_cons_zero, Option.toList_some, List.cons_append, List.nil_append, Act.put, List.setIfInBounds_toArray, List.set_cons_zero, List.set_cons_succ]
    repeat (go_big_quiet_step ((go_at_call 57; with_reducible exact Calls.ext (c1 _))))
    exact wpQuiet_nil rfl
  refine FlowB.AlChk.nil ?_
  refine FlowB.Walk.fin fun w5 h5 hF5 hG5 => ?_
  simp only [List.drop_succ_cons, List.drop_zero]
  have HB5 := hid (but_of_in h5)
  have Kl5 := hid (show Blk w5 bl #[.int .i64 L2] 3 from hG5)
  have Kr5 := hid (HB5.out.blk Kr4.out (by omega))
  clear h5 hF5 hG5
  go_wp2_with (
        refine wpList_store_blk rfl 23 _ _ rfl (w.heap.size) (X.map (Value.int .u8)).toArray rfl rfl _ 23 Kr5.out 32 size_digest zsize HX.out.size (ints_one _ _) ?_
        intro w9 hb9 hk9
        have HB9 := hid hb9
        have HK9 := hid hk9
        have Kl9 := hid (hb9.blk Kl5.out (by omega))
        clear hb9 hk9)
  exact bodyPost_ret (v := .agg (X.map (Value.int .u8)).toArray) (results_blk Tryd.results55 _ (w.heap.size) rfl _ 23 HK9.out _ Tryd.underlying23 rfl 32 size_digest HX.out.size) rfl ⟨rfl, But.fresh (But.trans (But.of Hb.out) (But.trans HB4.out HB5.out)) HB9.out (Nat.le_refl _), Kl9.out⟩
set_option maxHeartbeats 4000000 in
theorem above_any (f : Nat) : ∀ (n i : Nat) (left : Int) (bb bt ba bl bw : Nat) (ta : Option Addr) (tn tc : Nat) (m : List Int) (ya : Option Addr) (yn yc : Nat) (ds : List (List Int)) (w : World), HEnv w bb bt ba bl bw ta tn tc m ya yn yc ds → Blk w bl #[.int .i64 left] 3 → 1 ≤ n → n ≤ f → n ≤ 200 → i < n → (f : Int) - 1000 ≤ left → left ≤ yn → yn ≤ 1000000 → tn ≤ 1000000 →
    Calls Tryd.prog 55 #[.int .i64 n, .int .i64 i, .pointer (some ⟨bb, 0, none⟩), .pointer (some ⟨bt, 0, none⟩), .pointer (some ⟨ba, 0, none⟩)] w fun e w' => e = .returned (.agg ((upZ f (leafL m) n i ds left).1.map (Value.int .u8)).toArray) ∧ But bl w w' ∧ Blk w' bl #[.int .i64 (upZ f (leafL m) n i ds left).2] 3 := by
  induction f with
  | zero => intro n i left bb bt ba bl bw ta tn tc m ya yn yc ds w he kl h1 h2; omega
  | succ f ih =>
    intro n i left bb bt ba bl bw ta tn tc m ya yn yc ds w he kl h1 h2 h3 h4 h5 h6 h7 h8
    rcases Nat.eq_or_lt_of_le h1 with rfl | hlt
    · rw [upZ, if_pos rfl]
      exact above_one i left bb bt ba bl bw ta tn tc m ya yn yc ds w he kl h8
    · obtain ⟨hk1, hk2⟩ := halfN_lt (n := n) hlt
      rw [upZ, if_neg (by omega)]
      by_cases hik : i < halfN n
      · rw [if_pos (by omega)]
        exact above_l n i (halfN n) left bb bt ba bl bw ta tn tc m ya yn yc ds w he kl hlt h3 h4 rfl (by omega) h6 h7 hik _ _ (Dg.upZ (Dg.leafL m) f _ _ _ _) (fun W hW kW => ih (halfN n) i (left - 1) bb bt ba bl bw ta tn tc m ya yn yc ds W hW kW hk1 (by omega) (by omega) hik (by omega) (by omega) h7 h8)
      · rw [if_neg (by omega), show (i : Int) - (halfN n : Int) = ((i - halfN n : Nat) : Int) by omega]
        exact above_r n i (halfN n) left bb bt ba bl bw ta tn tc m ya yn yc ds w he kl hlt h3 h4 rfl (by omega) h6 h7 hik _ _ (Dg.upZ (Dg.leafL m) f _ _ _ _) (fun W hW kW => ih (n - halfN n) (i - halfN n) (left - 1) bb bt ba bl bw ta tn tc m ya yn yc ds W hW kW (by omega) (by omega) (by omega) (by omega) (by omega) (by omega) h7 h8)
end Go.Proofs.YtkakoiaahgchmaaDoor
namespace Go.Proofs.YtkakoiaahgchmaaDoor
set_option maxRecDepth 100000
open Go.ChangeShapes Go.WideShapes Go.ChangeAt Go.RowKit
theorem size_f96 : (Tryd.prog.info? 88).map (·.size) = some 1 := by kernel_rfl
theorem size_f99 : (Tryd.prog.info? 91).map (·.size) = some 1 := by kernel_rfl
set_option maxHeartbeats 4000000 in
theorem holds_noa (root : List Int) (n i : Int) (ta : Option Addr) (tn tc : Nat) (ya : Option Addr) (yn yc : Nat) (w : World) (_hr : Dg root) (h : n < 1) :
    Calls Tryd.prog 29 #[.agg (root.map (Value.int .u8)).toArray, .int .i64 n, .int .i64 i, .slice ta tn tc, .slice ya yn yc] w fun e w' => e = .returned (.bool false) ∧ Below w.heap.size w w' := by
  have b1 := (Below.refl w.heap.size w).alloc (Nat.le_refl _) (.cells (root.map (Value.int .u8)).toArray 23 (0, 0))
  have b2 := b1.alloc b1.size (.cells #[.slice ta tn tc] 29 (0, 0))
  have Kr := hid ((Blk.new (w := w) (n := w.heap.size) rfl (root.map (Value.int .u8)).toArray 23).old (.cells #[.slice ta tn tc] 29 (0, 0)))
  have Kt := hid (Blk.new (w := (w.alloc (.cells (root.map (Value.int .u8)).toArray 23 (0, 0)))) (n := w.heap.size + 1) (by simp only [World.size_alloc]) #[.slice ta tn tc] 29)
  have Hb := hid b2
  have hbz := b2.size
  have Hbs := hid (show w.heap.size + 1 + 1 = ((w.alloc (.cells (root.map (Value.int .u8)).toArray 23 (0, 0))).alloc (.cells #[.slice ta tn tc] 29 (0, 0))).heap.size by simp only [World.size_alloc])
  clear b1 b2 
  go_enter Tryd.func29, Tryd.ntmps29
  go_wp2_with fail
  go_returns
  exact ⟨rfl, Hb.out⟩
set_option maxHeartbeats 4000000 in
theorem holds_nob (root : List Int) (n i : Int) (ta : Option Addr) (tn tc : Nat) (ya : Option Addr) (yn yc : Nat) (w : World) (_hr : Dg root) (h1 : ¬ n < 1) (h : 200 < n) :
    Calls Tryd.prog 29 #[.agg (root.map (Value.int .u8)).toArray, .int .i64 n, .int .i64 i, .slice ta tn tc, .slice ya yn yc] w fun e w' => e = .returned (.bool false) ∧ Below w.heap.size w w' := by
  have b1 := (Below.refl w.heap.size w).alloc (Nat.le_refl _) (.cells (root.map (Value.int .u8)).toArray 23 (0, 0))
  have b2 := b1.alloc b1.size (.cells #[.slice ta tn tc] 29 (0, 0))
  have Kr := hid ((Blk.new (w := w) (n := w.heap.size) rfl (root.map (Value.int .u8)).toArray 23).old (.cells #[.slice ta tn tc] 29 (0, 0)))
  have Kt := hid (Blk.new (w := (w.alloc (.cells (root.map (Value.int .u8)).toArray 23 (0, 0)))) (n := w.heap.size + 1) (by simp only [World.size_alloc]) #[.slice ta tn tc] 29)
  have Hb := hid b2
  have hbz := b2.size
  have Hbs := hid (show w.heap.size + 1 + 1 = ((w.alloc (.cells (root.map (Value.int .u8)).toArray 23 (0, 0))).alloc (.cells #[.slice ta tn tc] 29 (0, 0))).heap.size by simp only [World.size_alloc])
  clear b1 b2 
  go_enter Tryd.func29, Tryd.ntmps29
  go_wp2_with fail
  go_returns
  exact ⟨rfl, Hb.out⟩
set_option maxHeartbeats 4000000 in
theorem holds_noc (root : List Int) (n i : Int) (ta : Option Addr) (tn tc : Nat) (ya : Option Addr) (yn yc : Nat) (w : World) (_hr : Dg root) (h1 : ¬ n < 1) (h2 : ¬ 200 < n) (h : i < 0) :
    Calls Tryd.prog 29 #[.agg (root.map (Value.int .u8)).toArray, .int .i64 n, .int .i64 i, .slice ta tn tc, .slice ya yn yc] w fun e w' => e = .returned (.bool false) ∧ Below w.heap.size w w' := by
  have b1 := (Below.refl w.heap.size w).alloc (Nat.le_refl _) (.cells (root.map (Value.int .u8)).toArray 23 (0, 0))
  have b2 := b1.alloc b1.size (.cells #[.slice ta tn tc] 29 (0, 0))
  have Kr := hid ((Blk.new (w := w) (n := w.heap.size) rfl (root.map (Value.int .u8)).toArray 23).old (.cells #[.slice ta tn tc] 29 (0, 0)))
  have Kt := hid (Blk.new (w := (w.alloc (.cells (root.map (Value.int .u8)).toArray 23 (0, 0)))) (n := w.heap.size + 1) (by simp only [World.size_alloc]) #[.slice ta tn tc] 29)
  have Hb := hid b2
  have hbz := b2.size
  have Hbs := hid (show w.heap.size + 1 + 1 = ((w.alloc (.cells (root.map (Value.int .u8)).toArray 23 (0, 0))).alloc (.cells #[.slice ta tn tc] 29 (0, 0))).heap.size by simp only [World.size_alloc])
  clear b1 b2 
  go_enter Tryd.func29, Tryd.ntmps29
  go_wp2_with fail
  go_returns
  exact ⟨rfl, Hb.out⟩
set_option maxHeartbeats 4000000 in
theorem holds_nod (root : List Int) (n i : Int) (ta : Option Addr) (tn tc : Nat) (ya : Option Addr) (yn yc : Nat) (w : World) (_hr : Dg root) (h1 : ¬ n < 1) (h2 : ¬ 200 < n) (h3 : ¬ i < 0) (h : n ≤ i) :
    Calls Tryd.prog 29 #[.agg (root.map (Value.int .u8)).toArray, .int .i64 n, .int .i64 i, .slice ta tn tc, .slice ya yn yc] w fun e w' => e = .returned (.bool false) ∧ Below w.heap.size w w' := by
  have b1 := (Below.refl w.heap.size w).alloc (Nat.le_refl _) (.cells (root.map (Value.int .u8)).toArray 23 (0, 0))
  have b2 := b1.alloc b1.size (.cells #[.slice ta tn tc] 29 (0, 0))
  have Kr := hid ((Blk.new (w := w) (n := w.heap.size) rfl (root.map (Value.int .u8)).toArray 23).old (.cells #[.slice ta tn tc] 29 (0, 0)))
  have Kt := hid (Blk.new (w := (w.alloc (.cells (root.map (Value.int .u8)).toArray 23 (0, 0)))) (n := w.heap.size + 1) (by simp only [World.size_alloc]) #[.slice ta tn tc] 29)
  have Hb := hid b2
  have hbz := b2.size
  have Hbs := hid (show w.heap.size + 1 + 1 = ((w.alloc (.cells (root.map (Value.int .u8)).toArray 23 (0, 0))).alloc (.cells #[.slice ta tn tc] 29 (0, 0))).heap.size by simp only [World.size_alloc])
  clear b1 b2 
  go_enter Tryd.func29, Tryd.ntmps29
  go_wp2_with fail
  go_returns
  exact ⟨rfl, Hb.out⟩
theorem holds_bad (root : List Int) (n i : Int) (ta : Option Addr) (tn tc : Nat) (ya : Option Addr) (yn yc : Nat) (w : World) (hr : Dg root) (h : n < 1 ∨ 200 < n ∨ i < 0 ∨ n ≤ i) :
    Calls Tryd.prog 29 #[.agg (root.map (Value.int .u8)).toArray, .int .i64 n, .int .i64 i, .slice ta tn tc, .slice ya yn yc] w fun e w' => e = .returned (.bool false) ∧ Below w.heap.size w w' := by
  by_cases h1 : n < 1
  · exact holds_noa root n i ta tn tc ya yn yc w hr h1
  · by_cases h2 : 200 < n
    · exact holds_nob root n i ta tn tc ya yn yc w hr h1 h2
    · by_cases h3 : i < 0
      · exact holds_noc root n i ta tn tc ya yn yc w hr h1 h2 h3
      · exact holds_nod root n i ta tn tc ya yn yc w hr h1 h2 h3 (by omega)
set_option maxHeartbeats 4000000 in
theorem holds_good (root : List Int) (n i : Nat) (ta : Option Addr) (tn tc : Nat) (m : List Int) (ya : Option Addr) (yn yc : Nat) (ds : List (List Int)) (w : World) (hr : Dg root) (hn1 : 1 ≤ n) (hn2 : n ≤ 200) (hin : i < n) (hT : TextAt w ta tn tc m) (hW : DigsAt w ya yn yc ds) (htn : tn ≤ 1000000) (hyn : yn ≤ 1000000) (tab : ShaTab w) :
    Calls Tryd.prog 29 #[.agg (root.map (Value.int .u8)).toArray, .int .i64 n, .int .i64 i, .slice ta tn tc, .slice ya yn yc] w fun e w' => e = .returned (.bool (decide ((upZ n (leafL m) n i ds yn).2 = 0) && decide ((upZ n (leafL m) n i ds yn).1 = root))) ∧ Below w.heap.size w w' := by
  have hI1 : ¬ ((n : Int) < 1) := by omega
  have hI2 : ¬ ((200 : Int) < (n : Int)) := by omega
  have hI3 : ¬ ((i : Int) < 0) := by omega
  have hI4 : ¬ ((n : Int) ≤ (i : Int)) := by omega
  have CT := hid (fun (W : World) (k : Nat) (hk : W.heap.size = k) => (hk ▸ taker_any ya yn yc W : Calls Tryd.prog 54 #[.slice ya yn yc] W fun e w' => e = .returned (.tuple #[.func (.func 75) #[] #[.pointer (some ⟨k + 1, 0, none⟩), .pointer (some ⟨k, 0, none⟩)], .func (.func 76) #[] #[.pointer (some ⟨k + 1, 0, none⟩)]]) ∧ Below W.heap.size W w' ∧ Blk w' (k + 1) #[.int .i64 yn] 3 ∧ Blk w' k #[.slice ya yn yc] 24))
  have CA := hid (fun (W : World) (bb bt ba bl bw : Nat) (h : HEnv W bb bt ba bl bw ta tn tc m ya yn yc ds) (k : Blk W bl #[.int .i64 (yn : Int)] 3) => above_any n n i (yn : Int) bb bt ba bl bw ta tn tc m ya yn yc ds W h k hn1 (Nat.le_refl _) hn2 hin (by omega) (by omega) hyn htn)
  have HX := hid (Dg.upZ (Dg.leafL m) n n i ds yn)
  generalize (upZ n (leafL m) n i ds yn).1 = X at *
  generalize (upZ n (leafL m) n i ds yn).2 = L2 at *
  have b1 := (Below.refl w.heap.size w).alloc (Nat.le_refl _) (.cells (root.map (Value.int .u8)).toArray 23 (0, 0))
  have b2 := b1.alloc b1.size (.cells #[.slice ta tn tc] 29 (0, 0))
  have Kr := hid ((Blk.new (w := w) (n := w.heap.size) rfl (root.map (Value.int .u8)).toArray 23).old (.cells #[.slice ta tn tc] 29 (0, 0)))
  have Kt := hid (Blk.new (w := (w.alloc (.cells (root.map (Value.int .u8)).toArray 23 (0, 0)))) (n := w.heap.size + 1) (by simp only [World.size_alloc]) #[.slice ta tn tc] 29)
  have Hb := hid b2
  have hbz := b2.size
  have Hbs := hid (show w.heap.size + 1 + 1 = ((w.alloc (.cells (root.map (Value.int .u8)).toArray 23 (0, 0))).alloc (.cells #[.slice ta tn tc] 29 (0, 0))).heap.size by simp only [World.size_alloc])
  have Htab := hid tab
  clear b1 b2 tab 
  go_enter Tryd.func29, Tryd.ntmps29
  go_wp2_with fail
  refine (CT.out _ (w.heap.size + 1 + 1) (by simp only [World.size_alloc])).mono ?_
  rintro e w1 ⟨rfl, b1, kl1, kw1⟩
  have Kl1 := hid kl1
  have Kw1 := hid kw1
  have HBw1 := hid (Below.on Hb.out b1)
  have hsw1 := HBw1.out.size
  have Krw1 := hid (Kr.out.below b1)
  have Ktw1 := hid (Kt.out.below b1)
  have hs11 : w.heap.size + 1 + 1 + 1 < w1.heap.size := kl1.lt
  clear b1 kl1 kw1
  go_wp2_with (first
     | (
        refine wpList_store_cell rfl 88 _ _ rfl (w1.heap.size) 0 (.func (.func 75) #[] #[.pointer (some ⟨w.heap.size + 1 + 1 + 1, 0, none⟩), .pointer (some ⟨w.heap.size + 1 + 1, 0, none⟩)]) rfl rfl rfl rfl #[.nilFunc] 88 (Blk.new rfl #[.nilFunc] 88) (by simp) size_f96 ?_
        intro w2 hb2 hk2
        have h2 := hb2.below ((Below.refl w1.heap.size w1).alloc (Nat.le_refl _) _) (by simp only [World.size_alloc]; omega) (Nat.le_refl _)
        have HB2 := hid (Below.on HBw1.out h2)
        have Kt2 := hid (show Blk w2 w1.heap.size #[.func (.func 75) #[] #[.pointer (some ⟨w.heap.size + 1 + 1 + 1, 0, none⟩), .pointer (some ⟨w.heap.size + 1 + 1, 0, none⟩)]] 88 from hk2)
        have Kr2 := hid (Krw1.out.below h2)
        have Kb2 := hid (Ktw1.out.below h2)
        have Kl2 := hid (Kl1.out.below h2)
        have Kw2 := hid (Kw1.out.below h2)
        have hs2 := Kt2.out.lt
        clear hb2 hk2 h2)
     | (
        refine wpList_store_cell rfl 91 _ _ rfl (w2.heap.size) 0 (.func (.func 55) #[] #[.pointer (some ⟨w.heap.size + 1, 0, none⟩), .pointer (some ⟨w1.heap.size, 0, none⟩), .pointer (some ⟨w2.heap.size, 0, none⟩)]) rfl rfl rfl rfl #[.nilFunc] 91 (Blk.new rfl #[.nilFunc] 91) (by simp) size_f99 ?_
        intro w3 hb3 hk3
        have h3 := hb3.below ((Below.refl w2.heap.size w2).alloc (Nat.le_refl _) _) (by simp only [World.size_alloc]; omega) (Nat.le_refl _)
        have HB3 := hid (Below.on HB2.out h3)
        have Ka3 := hid (show Blk w3 w2.heap.size #[.func (.func 55) #[] #[.pointer (some ⟨w.heap.size + 1, 0, none⟩), .pointer (some ⟨w1.heap.size, 0, none⟩), .pointer (some ⟨w2.heap.size, 0, none⟩)]] 91 from hk3)
        have Kr3 := hid (Kr2.out.below h3)
        have Kb3 := hid (Kb2.out.below h3)
        have Kt3 := hid (Kt2.out.below h3)
        have Kl3 := hid (Kl2.out.below h3)
        have Kw3 := hid (Kw2.out.below h3)
        have HE3 := hid (HEnv.mk (w := w3) (bb := w.heap.size + 1) (bt := w1.heap.size) (ba := w2.heap.size) (bl := w.heap.size + 1 + 1 + 1) (bw := w.heap.size + 1 + 1) Kb3.out Kt3.out Ka3.out Kw3.out (hT.below HB3.out) (hW.below HB3.out) (Htab.out.below HB3.out) (by omega) (by omega) (by omega) (by omega))
        have ca3 : w3.cell? ⟨w2.heap.size, 0, none⟩ = some (.func (.func 55) #[] #[.pointer (some ⟨w.heap.size + 1, 0, none⟩), .pointer (some ⟨w1.heap.size, 0, none⟩), .pointer (some ⟨w2.heap.size, 0, none⟩)]) := by rw [Ka3.out.cell]; rfl
        clear hb3 hk3 h3))
  refine (CA.out _ _ _ _ _ _ HE3.out Kl3.out).mono ?_
  rintro e w4 ⟨rfl, b4, k4⟩
  have HB4 := hid (b4.below HB3.out HB3.out.size (by omega))
  have Kr4 := hid (b4.blk Kr3.out (by omega))
  have Kl4 := hid k4
  have hs4 := b4.size
  clear b4 k4
  go_wp2_with (
        refine wpList_store_blk rfl 23 _ _ rfl (w4.heap.size) (X.map (Value.int .u8)).toArray rfl rfl _ 23 (Blk.new rfl (byteCells 32 []) _) 32 size_digest zsize HX.out.size (ints_one _ _) ?_
        intro w5 hb5 hk5
        have h5 := hb5.below ((Below.refl w4.heap.size w4).alloc (Nat.le_refl _) _) (by simp only [World.size_alloc]; omega) (Nat.le_refl _)
        have HB5 := hid (Below.on HB4.out h5)
        have K5 := hid hk5
        have Kr5 := hid (Kr4.out.below h5)
        have Kl5 := hid (Kl4.out.below h5)
        clear hb5 hk5 h5)
  refine (done_any (w.heap.size + 1 + 1 + 1) L2 _ Kl5.out).mono ?_
  rintro e wz ⟨rfl, hwz⟩
  have hwz := hwz.symm
  subst hwz
  have q1 := fun W => eqD X root HX.out.len hr.len W
  by_cases hz : L2 = 0
  · rw [decide_eq_true hz]
    go_wp2_with (first | (refine wpList_load_blk_if (by first | rfl | go_simp) 23 _ rfl (w4.heap.size) rfl _ 23 K5.out _ Tryd.underlying23 rfl 32 size_digest HX.out.size ?_) | (refine wpList_load_blk_if (by first | rfl | go_simp) 23 _ rfl (w.heap.size) rfl _ 23 Kr5.out _ Tryd.underlying23 rfl 32 size_digest hr.size ?_))
    go_returns
    exact ⟨by first | rfl | simp [hz], HB5.out⟩
  · rw [decide_eq_false hz]
    go_wp2_with (fail)
    go_returns
    exact ⟨by first | rfl | simp [hz], HB5.out⟩
end Go.Proofs.YtkakoiaahgchmaaDoor
namespace Go.Proofs.YtkakoiaahgchmaaDoor
set_option maxRecDepth 100000
open Go.ChangeShapes Go.WideShapes Go.ChangeAt Go.RowKit
theorem BoolsAt.below {w w' : World} {a : Option Addr} {len cap : Nat} {bs : List Bool} (h : BoolsAt w a len cap bs) (hb : Below w.heap.size w w') : BoolsAt w' a len cap bs := by
  obtain ⟨h1, h2, h3 | ⟨g, rfl, hg, hc⟩⟩ := h
  · exact ⟨h1, h2, .inl h3⟩
  · exact ⟨h1, h2, .inr ⟨g, rfl, Nat.lt_of_lt_of_le hg hb.size, fun j hj => (hb.cell (p := ⟨g, j, none⟩) hg).trans (hc j hj)⟩⟩
theorem BoolsAt.of_own {w : World} {base : Nat} {e : TypeId} {v : Value} {bs : List Bool} (h : OwnV w base e v (bs.map Value.bool)) : ∃ a c, v = .slice a bs.length c ∧ BoolsAt w a bs.length c bs := by
  obtain ⟨a, c, rfl, ha, hn, hle, -, hc⟩ := h.slice
  rw [List.length_map] at hle hc ⊢
  refine ⟨a, c, rfl, rfl, hle, ?_⟩
  cases a with
  | none => exact .inl (by have := hn rfl; simpa using this)
  | some p =>
    obtain ⟨g, rfl, -⟩ := ha p rfl
    obtain ⟨hg, hj⟩ := hc g rfl
    refine .inr ⟨g, rfl, hg, fun j hjl => ?_⟩
    rw [hj j hjl, List.getElem?_map, List.getD_eq_getElem?_getD, List.getElem?_eq_getElem hjl]
    rfl
end Go.Proofs.YtkakoiaahgchmaaDoor
namespace Go.Proofs.YtkakoiaahgchmaaDoor
set_option maxRecDepth 100000
open Go.ChangeShapes Go.WideShapes Go.ChangeAt Go.RowKit
/-- From the top of a log of n texts on: is the place i on the right? -/
def sidesF : Nat → Nat → Nat → List Bool
  | 0, _, _ => []
  | f + 1, n, i => if n = 1 then [] else if i < halfN n then false :: sidesF f (halfN n) i else true :: sidesF f (n - halfN n) (i - halfN n)
theorem sidesF_one (f i : Nat) : sidesF f 1 i = [] := by
  cases f with
  | zero => rfl
  | succ f => simp [sidesF]
theorem zip_rev_snoc {ds : List (List Int)} {L : List Bool} (b : Bool) (hl : L.length + 1 ≤ ds.length) : (ds.take (L.length + 1)).zip (L.reverse ++ [b]) = (ds.take L.length).zip L.reverse ++ [(ds.getD L.length [], b)] := by
  rw [show ds.take (L.length + 1) = ds.take L.length ++ [ds.getD L.length []] by
    rw [List.take_succ_eq_append_getElem (by omega), List.getD_eq_getElem?_getD, List.getElem?_eq_getElem (by omega)]; rfl]
  rw [List.zip_append (by simp; omega)]
  rfl
theorem upZ_sides (X : List Int) (f : Nat) : ∀ (n i : Nat) (ds : List (List Int)) (left : Int), n ≤ f → 1 ≤ n → (upZ f X n i ds left).2 = left - (sidesF f n i).length := by
  induction f with
  | zero => intro n i ds left h1 h2; omega
  | succ f ih =>
    intro n i ds left h1 h2
    unfold upZ sidesF
    by_cases hn : n = 1
    · rw [if_pos hn, if_pos hn]; simp
    · rw [if_neg hn, if_neg hn]
      have hh := halfN_lt (n := n) (by omega)
      by_cases hi : i < halfN n
      · rw [if_pos (by omega), if_pos hi]
        have := ih (halfN n) i ds (left - 1) (by omega) (by omega)
        simp only [List.length_cons]
        omega
      · rw [if_neg (by omega), if_neg hi]
        have := ih (n - halfN n) (i - halfN n) ds (left - 1) (by omega) (by omega)
        simp only [List.length_cons]
        rw [show ((i : Int) - (halfN n : Int)) = ((i - halfN n : Nat) : Int) by omega]
        omega
theorem takeZ_nat (ds : List (List Int)) (k : Nat) : takeZ ds ((k + 1 : Nat) : Int) = ds.getD k [] := by
  unfold takeZ
  rw [if_neg (by omega), show (((k + 1 : Nat) : Int) - 1).toNat = k by omega]
theorem upZ_top (X : List Int) (f : Nat) : ∀ (n i : Nat) (ds : List (List Int)), n ≤ f → 1 ≤ n → (sidesF f n i).length ≤ ds.length →
    (upZ f X n i ds (sidesF f n i).length).1 = topF X ((ds.take (sidesF f n i).length).zip (sidesF f n i).reverse) := by
  induction f with
  | zero => intro n i ds h1 h2; omega
  | succ f ih =>
    intro n i ds h1 h2 hl
    by_cases hn : n = 1
    · subst hn
      rw [sidesF_one]
      simp [upZ, topF]
    · have hh := halfN_lt (n := n) (by omega)
      by_cases hi : i < halfN n
      · rw [show sidesF (f + 1) n i = false :: sidesF f (halfN n) i by rw [sidesF, if_neg hn, if_pos hi]] at hl ⊢
        rw [List.length_cons] at hl
        rw [List.length_cons, List.reverse_cons, zip_rev_snoc _ hl, topF_snoc, upZ, if_neg hn, if_pos (by omega), takeZ_nat]
        rw [show (((sidesF f (halfN n) i).length + 1 : Nat) : Int) - 1 = ((sidesF f (halfN n) i).length : Nat) by omega]
        rw [ih (halfN n) i ds (by omega) (by omega) (by omega)]
        simp
      · rw [show sidesF (f + 1) n i = true :: sidesF f (n - halfN n) (i - halfN n) by rw [sidesF, if_neg hn, if_neg hi]] at hl ⊢
        rw [List.length_cons] at hl
        rw [List.length_cons, List.reverse_cons, zip_rev_snoc _ hl, topF_snoc, upZ, if_neg hn, if_neg (by omega), takeZ_nat]
        rw [show (((sidesF f (n - halfN n) (i - halfN n)).length + 1 : Nat) : Int) - 1 = ((sidesF f (n - halfN n) (i - halfN n)).length : Nat) by omega]
        rw [show ((i : Int) - (halfN n : Int)) = ((i - halfN n : Nat) : Int) by omega]
        rw [ih (n - halfN n) (i - halfN n) ds (by omega) (by omega) (by omega)]
        simp
theorem nodeL_nodeX (a b : List Int) : nodeL a b = sumZ (nodeX a b) := by
  unfold nodeL nodeX
  rfl
theorem nodeX_inj_l {a b c d : List Int} (ha : Dg a) (hc : Dg c) (h : nodeX a b = nodeX c d) : a = c ∧ b = d := by
  have h1 : a ++ b = c ++ d := List.cons.inj h |>.2
  exact List.append_inj h1 (by rw [ha.len, hc.len])
theorem firstU_append {A B : List (List Int)} {a b : List Int} {k : Nat} (hl : A.length = B.length) (h : firstU A B = some k) : firstU (A ++ [a]) (B ++ [b]) = some k := by
  obtain ⟨h1, h2, h3, h4⟩ := firstU_at h
  have g : ∀ (C : List (List Int)) (c : List Int) (j : Nat), j < C.length → (C ++ [c]).getD j [] = C.getD j [] := fun C c j hj => by
    rw [List.getD_eq_getElem?_getD, List.getD_eq_getElem?_getD, List.getElem?_append_left hj]
  refine firstU_some (by simp; omega) (by simp; omega) (fun j hj => ?_) ?_
  · rw [g _ _ _ (by omega), g _ _ _ (by omega)]; exact h3 j hj
  · rw [g _ _ _ h1, g _ _ _ h2]; exact h4
theorem firstU_last {A : List (List Int)} {a b : List Int} (h : a ≠ b) : firstU (A ++ [a]) (A ++ [b]) = some A.length := by
  have g : ∀ (c : List Int) (j : Nat), j < A.length → (A ++ [c]).getD j [] = A.getD j [] := fun c j hj => by
    rw [List.getD_eq_getElem?_getD, List.getD_eq_getElem?_getD, List.getElem?_append_left hj]
  refine firstU_some (by simp) (by simp) (fun j hj => by rw [g _ _ hj, g _ _ hj]) (by simpa [List.getD_eq_getElem?_getD] using h)
/-- Where two trails that have one top part, the sums are one. -/
theorem trails_part : ∀ (bs : List Bool) (d1 d2 : List (List Int)) (t1 t2 : List Int), d1.length = bs.length → d2.length = bs.length → (∀ d ∈ d1, Dg d) → (∀ d ∈ d2, Dg d) → topF (sumZ t1) (d1.zip bs) = topF (sumZ t2) (d2.zip bs) →
    (t1 :: trailF (sumZ t1) (d1.zip bs)).reverse = (t2 :: trailF (sumZ t2) (d2.zip bs)).reverse ∨
    ∃ k, firstU (t1 :: trailF (sumZ t1) (d1.zip bs)).reverse (t2 :: trailF (sumZ t2) (d2.zip bs)).reverse = some k ∧
      sumZ ((t1 :: trailF (sumZ t1) (d1.zip bs)).reverse.getD k []) = sumZ ((t2 :: trailF (sumZ t2) (d2.zip bs)).reverse.getD k []) := by
  intro bs
  induction bs with
  | nil =>
    intro d1 d2 t1 t2 h1 h2 _ _ ht
    obtain rfl := List.eq_nil_of_length_eq_zero h1
    obtain rfl := List.eq_nil_of_length_eq_zero h2
    by_cases he : t1 = t2
    · subst he; exact .inl rfl
    · refine .inr ⟨0, ?_, ?_⟩
      · exact firstU_last (A := []) he
      · exact ht
  | cons b bs ih =>
    intro d1 d2 t1 t2 h1 h2 hd1 hd2 ht
    cases d1 with
    | nil => simp at h1
    | cons s1 d1 =>
      cases d2 with
      | nil => simp at h2
      | cons s2 d2 =>
        have D1 : Dg s1 := hd1 s1 (by simp)
        have D2 : Dg s2 := hd2 s2 (by simp)
        have L1 : d1.length = bs.length := by simpa using h1
        have L2 : d2.length = bs.length := by simpa using h2
        have key : ∀ (u1 u2 : List Int), topF (sumZ u1) (d1.zip bs) = topF (sumZ u2) (d2.zip bs) → (u1 = u2 → sumZ t1 = sumZ t2) →
            ((u1 :: trailF (sumZ u1) (d1.zip bs)).reverse ++ [t1] = (u2 :: trailF (sumZ u2) (d2.zip bs)).reverse ++ [t2] ∨
            ∃ k, firstU ((u1 :: trailF (sumZ u1) (d1.zip bs)).reverse ++ [t1]) ((u2 :: trailF (sumZ u2) (d2.zip bs)).reverse ++ [t2]) = some k ∧
              sumZ (((u1 :: trailF (sumZ u1) (d1.zip bs)).reverse ++ [t1]).getD k []) = sumZ (((u2 :: trailF (sumZ u2) (d2.zip bs)).reverse ++ [t2]).getD k [])) := by
          intro u1 u2 htt hx
          have hlen : (u1 :: trailF (sumZ u1) (d1.zip bs)).reverse.length = (u2 :: trailF (sumZ u2) (d2.zip bs)).reverse.length := by
            simp [trailF_length, L1, L2]
          rcases ih d1 d2 u1 u2 L1 L2 (fun d hd => hd1 d (by simp [hd])) (fun d hd => hd2 d (by simp [hd])) htt with hA | ⟨k, hk, hs⟩
          · have hu : u1 = u2 := by
              have := congrArg List.reverse hA
              simp only [List.reverse_reverse] at this
              exact (List.cons.inj this).1
            have hss := hx hu
            rw [hA]
            by_cases he : t1 = t2
            · exact .inl (by rw [he])
            · refine .inr ⟨_, firstU_last he, ?_⟩
              simpa [List.getD_eq_getElem?_getD] using hss
          · obtain ⟨q1, q2, -, -⟩ := firstU_at hk
            refine .inr ⟨k, firstU_append hlen hk, ?_⟩
            rw [List.getD_eq_getElem?_getD, List.getD_eq_getElem?_getD, List.getElem?_append_left q1, List.getElem?_append_left q2, ← List.getD_eq_getElem?_getD, ← List.getD_eq_getElem?_getD]
            exact hs
        have S1 := Dg.sum t1
        have S2 := Dg.sum t2
        cases b with
        | true =>
          have := key (nodeX s1 (sumZ t1)) (nodeX s2 (sumZ t2)) (by simpa [topF, nodeL_nodeX] using ht) (fun h => (nodeX_inj_l D1 D2 h).2)
          simpa [trailF, nodeL_nodeX] using this
        | false =>
          have := key (nodeX (sumZ t1) s1) (nodeX (sumZ t2) s2) (by simpa [topF, nodeL_nodeX] using ht) (fun h => (nodeX_inj_l S1 S2 h).1)
          simpa [trailF, nodeL_nodeX] using this
end Go.Proofs.YtkakoiaahgchmaaDoor
namespace Go.Proofs.YtkakoiaahgchmaaDoor
set_option maxRecDepth 100000
open Go.ChangeShapes Go.WideShapes Go.ChangeAt Go.RowKit
theorem info_bool : (Tryd.prog.info? 4).map (fun i => (i.zero, i.size, i.bytes)) = some (some (.bool false), 1, 1) := by kernel_rfl
theorem sidesF_fuel : ∀ (f g n i : Nat), n ≤ f → n ≤ g → 1 ≤ n → sidesF f n i = sidesF g n i := by
  intro f
  induction f with
  | zero => intro g n i h1 _ h3; omega
  | succ f ih =>
    intro g n i h1 h2 h3
    cases g with
    | zero => omega
    | succ g =>
      unfold sidesF
      by_cases hn : n = 1
      · rw [if_pos hn, if_pos hn]
      · rw [if_neg hn, if_neg hn]
        have hh := halfN_lt (n := n) (by omega)
        by_cases hi : i < halfN n
        · rw [if_pos hi, if_pos hi, ih g (halfN n) i (by omega) (by omega) (by omega)]
        · rw [if_neg hi, if_neg hi, ih g (n - halfN n) (i - halfN n) (by omega) (by omega) (by omega)]
theorem sidesF_left {n i : Nat} (h : 2 ≤ n) (hi : i < halfN n) : sidesF n n i = false :: sidesF (halfN n) (halfN n) i := by
  have hh := halfN_lt (n := n) h
  obtain ⟨k, rfl⟩ : ∃ k, n = k + 1 := ⟨n - 1, by omega⟩
  rw [show sidesF (k + 1) (k + 1) i = false :: sidesF k (halfN (k + 1)) i by rw [sidesF, if_neg (by omega), if_pos hi]]
  rw [sidesF_fuel k (halfN (k + 1)) (halfN (k + 1)) i (by omega) (by omega) (by omega)]
theorem sidesF_right {n i : Nat} (h : 2 ≤ n) (hi : ¬ i < halfN n) : sidesF n n i = true :: sidesF (n - halfN n) (n - halfN n) (i - halfN n) := by
  have hh := halfN_lt (n := n) h
  obtain ⟨k, rfl⟩ : ∃ k, n = k + 1 := ⟨n - 1, by omega⟩
  rw [show sidesF (k + 1) (k + 1) i = true :: sidesF k (k + 1 - halfN (k + 1)) (i - halfN (k + 1)) by rw [sidesF, if_neg (by omega), if_neg hi]]
  rw [sidesF_fuel k (k + 1 - halfN (k + 1)) (k + 1 - halfN (k + 1)) (i - halfN (k + 1)) (by omega) (by omega) (by omega)]
theorem wpList_append_v {ops : Array Oper} {rest : List Oper} {o : Oper} {A : Act} {w : World} {Q : Exit → Act → World → Prop} {base : Nat} {v : Value} {xs : List Value} {t e : TypeId} {i : TypeInfo} {z : Value} (hgd : o.guard = none) (s x : Operand) (ho : o.op = .call { callee := .builtin .append, args := #[s, x], argTypes := #[t, t] })
    (ht : Tryd.prog.underlying t = some (.slice e)) (hi : Tryd.prog.info? e = some i) (hz : i.zero = some z) (hzs : z.cells.size = 1) (hsize : i.size = 1) (hby : i.bytes ≤ 24) (hs : A.eval s = v) (hown : OwnV w base e v xs)
    {b : Nat} {u : Value} {T : TypeId} (hx : A.eval x = .slice (some ⟨b, 0, none⟩) 1 1) (hk : Blk w b #[u] T) (hu : u.oneCell' = true) (hb : xs.length ≤ 1000000000) (hbase : base ≤ w.heap.size)
    (h : ∀ v' w', OwnV w' base e v' (xs ++ [u]) → Below base w w' → wpList Tryd.prog ops Q rest (A.put o.dst v') w') : wpList Tryd.prog ops Q (o :: rest) A w :=
  wpList_plain hgd fun K hK => by
    obtain ⟨v', w', hr, h2, -, h4, -⟩ := run_append_v o.type ht hi hz hzs hsize hby hown hk hu hb hbase
    unfold Oper.wp execOp
    simp only [ho, resolve, invoke, builtin, Sem.run_bind, Sem.run_pure, Result.andThen_ok, List.map_toArray, List.map_cons, List.map_nil, hs, hx, hr, Oper.upon_value]
    exact hK _ _ (h v' w' h2 h4)
set_option maxHeartbeats 4000000 in
theorem half23_any (n : Nat) (w : World) (h : 2 ≤ n) (h2 : n ≤ 256) : Calls Tryd.prog 72 #[.int .i64 n] w fun e w' => e = .returned (.int .i64 (halfN n : Int)) ∧ w' = w := by
  obtain ⟨k, hk, hl, hn⟩ := log2_half h h2
  rw [hn]
  have CL := hid (fun W : World => len_any ((n : Int) - 1) W (by omega) (by omega))
  rw [hl] at CL
  have hw := wrap_pow7 hk
  have hw1 : wrap64 ((n : Int) - 1) = (n : Int) - 1 := by unfold wrap64; omega
  have hw2 : wrap64 ((k : Int) + 1 - 1) = (k : Int) := by unfold wrap64; omega
  have hk1 : (k : Int) + 1 - 1 = k := by omega
  have hw3 : wrap64 (k : Int) = (k : Int) := by unfold wrap64; omega
  have hc : ((n : Int) - 1) % 18446744073709551616 = (n : Int) - 1 := by omega
  go_enter Tryd.func72, Tryd.ntmps72
  go_wp2_with (go_at_call 77; refine (CL.out _).mono ?_; rintro e w' ⟨rfl, rfl⟩)
  go_ret
  exact ⟨by first | rfl | (rw [← hw]; rfl), rfl⟩
set_option maxHeartbeats 4000000 in
theorem textSides_any (n i : Nat) (w : World) (hn1 : 1 ≤ n) (hn2 : n ≤ 200) (hin : i < n) :
    Calls Tryd.prog 43 #[.int .i64 n, .int .i64 i] w fun e w' => ∃ v, e = .returned v ∧ OwnV w' w.heap.size 4 v ((sidesF n n i).reverse.map Value.bool) ∧ Below w.heap.size w w' := by
  have Hb := hid (Below.refl w.heap.size w)
  obtain ⟨i0, hi0, hz0, hz1, hz2⟩ := info_parts info_bool
  have H23 := hid half23_any
  go_enter Tryd.func43, Tryd.ntmps43
  go_wp2_with fail
  go_loopw [0, 1, 5] (fun nv iv sv wr => ∃ (p q : Nat) (acc : List Bool), 1 ≤ p ∧ q < p ∧ p ≤ n ∧ acc.length + p ≤ n ∧ nv = .int .i64 p ∧ iv = .int .i64 q ∧ OwnV wr w.heap.size 4 sv (acc.map Value.bool) ∧ acc ++ sidesF p p q = sidesF n n i ∧ Below w.heap.size w wr) (fun nv _ _ _ => (intOf nv).toNat)
  case atStart => exact ⟨n, i, [], hn1, hin, Nat.le_refl _, by simp, rfl, rfl, OwnV.nil _ _ _, rfl, Hb.out⟩
  case round =>
    obtain ⟨p, q, acc, hp1, hqp, hp2, hal, rfl, rfl, hov, hsd, bel⟩ := hrel
    have HBwr := hid bel
    have HO := hid hov
    have hswr := bel.size
    clear bel hov
    by_cases hp : 1 < p
    · skip
      have hpi : (1 : Int) < (p : Int) := by omega
      have hh := halfN_lt (n := p) (by omega)
      have HSL := hid (fun h => (sidesF_left (n := p) (i := q) (by omega) h))
      have HSR := hid (fun h => (sidesF_right (n := p) (i := q) (by omega) h))
      have HSD := hid hsd
      have C23 := hid (fun W : World => H23.out p W (by omega) (by omega))
      clear hsd
      generalize halfN p = K at *
      go_wp2_with fail
      refine (C23.out _).mono ?_
      rintro e w1 ⟨rfl, rfl⟩
      by_cases hq : q < K
      · skip
        have hqi : ¬ (K : Int) ≤ (q : Int) := by omega
        have HK1 := hid (Blk.new (w := w1) (n := w1.heap.size) rfl #[.bool false] 4)
        have HO1 := hid (HO.out.below ((Below.refl _ _).alloc (Nat.le_refl _) (.cells #[.bool false] 4 (0, 0))))
        have HB1 := hid (HBwr.out.alloc HBwr.out.size (.cells #[.bool false] 4 (0, 0)))
        go_wp2_with (
            at_builtin
            refine wpList_append_v rfl _ _ rfl Tryd.underlying76 hi0 hz0 rfl hz1 (by omega) rfl HO1.out rfl HK1.out rfl (by simp; omega) HB1.out.size ?_
            intro v5 w5 own5 b5
            have HO5 := hid own5
            have HB5 := hid (HB1.out.trans b5)
            clear own5 b5)
        exact ⟨⟨K, q, acc ++ [false], by omega, by omega, by omega, by simp; omega, by first | rfl | (simp; omega) | simp, by first | rfl | (simp; omega) | simp, by have := HO5.out; simpa using this, by rw [← HSD.out, HSL.out hq]; simp, HB5.out⟩, by simp [intOf]; omega⟩
      · skip
        have hqi : (K : Int) ≤ (q : Int) := by omega
        obtain ⟨p2, hp2'⟩ : ∃ z, z = p - K := ⟨_, rfl⟩
        obtain ⟨q2, hq2'⟩ : ∃ z, z = q - K := ⟨_, rfl⟩
        have hw1 : wrap64 ((p : Int) - (K : Int)) = (p2 : Int) := by unfold wrap64; omega
        have hw2 : wrap64 ((q : Int) - (K : Int)) = (q2 : Int) := by unfold wrap64; omega
        have HP2 := hid hp2'
        have HQ2 := hid hq2'
        clear hp2' hq2'
        have HK1 := hid (Blk.new (w := w1) (n := w1.heap.size) rfl #[.bool true] 4)
        have HO1 := hid (HO.out.below ((Below.refl _ _).alloc (Nat.le_refl _) (.cells #[.bool true] 4 (0, 0))))
        have HB1 := hid (HBwr.out.alloc HBwr.out.size (.cells #[.bool true] 4 (0, 0)))
        go_wp2_with (
            at_builtin
            refine wpList_append_v rfl _ _ rfl Tryd.underlying76 hi0 hz0 rfl hz1 (by omega) rfl HO1.out rfl HK1.out rfl (by simp; omega) HB1.out.size ?_
            intro v5 w5 own5 b5
            have HO5 := hid own5
            have HB5 := hid (HB1.out.trans b5)
            clear own5 b5)
        have hpp := HP2.out
        have hqq := HQ2.out
        exact ⟨⟨p2, q2, acc ++ [true], by omega, by omega, by omega, by simp; omega, by first | rfl | (simp; omega) | simp, by first | rfl | (simp; omega) | simp, by have := HO5.out; simpa using this, by rw [← HSD.out, HSR.out hq, HP2.out, HQ2.out]; simp, HB5.out⟩, by simp [intOf]; omega⟩
    · skip
      have hpe : p = 1 := by omega
      subst hpe
      rw [sidesF_one, List.append_nil] at hsd
      subst hsd
      obtain ⟨a, c, rfl, -⟩ := HO.out.slice
      rw [List.length_map] at HO ⊢
      have HAL := hid hal
      obtain ⟨N, hN⟩ : ∃ N, N = (sidesF n n i).length := ⟨_, rfl⟩
      rw [← hN] at HO ⊢
      have HN := hid hN
      have hN1 : N ≤ 200 := by omega
      have HMX := hid (show ((sidesF n n i).map Value.bool).length ≤ 1000000000 by rw [List.length_map]; omega)
      clear hN hal
      go_wp2_with fail
      refine (revB_any a N c w.heap.size _ wr HO.out HMX.out).mono ?_
      rintro e2 w1 ⟨rfl, o1, b1⟩
      have HB1 := hid (b1.below HBwr.out HBwr.out.size (fun b hb => by have := HO.out.lt b (by simpa using hb); omega))
      have HO1 := hid o1
      clear b1 o1
      go_wp2_with fail
      go_returns
      exact ⟨_, rfl, by have := HO1.out; simpa using this, HB1.out⟩
end Go.Proofs.YtkakoiaahgchmaaDoor
namespace Go.Proofs.YtkakoiaahgchmaaDoor
set_option maxRecDepth 100000
open Go.ChangeShapes Go.WideShapes Go.ChangeAt Go.RowKit
theorem trailF_len : ∀ (l : List StepT) (x : List Int), Dg x → (∀ y ∈ l, Dg y.1) → ∀ t ∈ trailF x l, t.length = 65 := by
  intro l
  induction l with
  | nil => intro x _ _ t ht; cases ht
  | cons y l ih =>
    intro x hx hl t ht
    have hy : Dg y.1 := hl y (by simp)
    have hn : ∀ a b : List Int, Dg a → Dg b → (nodeX a b).length = 65 := fun a b ha hb => by simp [nodeX, ha.len, hb.len]
    rcases List.mem_cons.1 (show t ∈ (if y.2 then nodeX y.1 x else nodeX x y.1) :: trailF (if y.2 then nodeL y.1 x else nodeL x y.1) l from ht) with h | h
    · rw [h]
      split
      · exact hn _ _ hy hx
      · exact hn _ _ hx hy
    · refine ih _ ?_ (fun z hz => hl z (by simp [hz])) t h
      split
      · exact Dg.nodeL _ _
      · exact Dg.nodeL _ _
/-- The trail of a text. -/
def textT (m : List Int) (n i : Nat) (ds : List (List Int)) : List (List Int) := ((0 :: m) :: trailF (leafL m) (ds.zip (sidesF n n i).reverse)).reverse
theorem textT_small {m : List Int} {n i : Nat} {ds : List (List Int)} (hd : ∀ d ∈ ds, Dg d) : ∀ t ∈ textT m n i ds, t.length ≤ m.length + 65 := fun t ht => by
  unfold textT at ht
  rcases List.mem_cons.1 (List.mem_reverse.1 ht) with h | h
  · rw [h]; simp
  · rw [trailF_len _ _ (Dg.leafL m) (fun y hy => hd _ (List.of_mem_zip (a := y.1) (b := y.2) hy).1) t h]; omega
theorem textT_part {a b : List Int} {n i : Nat} {d1 d2 : List (List Int)} (h1 : d1.length = (sidesF n n i).length) (h2 : d2.length = (sidesF n n i).length) (hd1 : ∀ d ∈ d1, Dg d) (hd2 : ∀ d ∈ d2, Dg d) (ht : topF (leafL a) (d1.zip (sidesF n n i).reverse) = topF (leafL b) (d2.zip (sidesF n n i).reverse)) (hn : a ≠ b) :
    ∃ k, firstU (textT a n i d1) (textT b n i d2) = some k ∧ sumZ ((textT a n i d1).getD k []) = sumZ ((textT b n i d2).getD k []) := by
  have hs : ∀ m : List Int, leafL m = sumZ (0 :: m) := fun m => by unfold leafL; rfl
  unfold textT
  rw [hs, hs] at *
  rcases trails_part (sidesF n n i).reverse d1 d2 (0 :: a) (0 :: b) (by simpa using h1) (by simpa using h2) hd1 hd2 ht with h | h
  · have h := congrArg List.reverse h
    simp only [List.reverse_reverse] at h
    exact absurd (List.cons.inj (List.cons.inj h).1).2 hn
  · exact h
/-- Does a way hold a text at a place of a log with that root? -/
def isHold (root : List Int) (n i : Int) (m : List Int) (ds : List (List Int)) : Bool :=
  decide (1 ≤ n ∧ n ≤ 200 ∧ 0 ≤ i ∧ i < n) && (decide (ds.length = (sidesF n.toNat n.toNat i.toNat).length) && decide (topF (leafL m) (ds.zip (sidesF n.toNat n.toNat i.toNat).reverse) = root))
theorem isHold_spec {root : List Int} {n i : Int} {m : List Int} {ds : List (List Int)} (h : isHold root n i m ds = true) : ∃ N I : Nat, n = N ∧ i = I ∧ 1 ≤ N ∧ N ≤ 200 ∧ I < N ∧ ds.length = (sidesF N N I).length ∧ topF (leafL m) (ds.zip (sidesF N N I).reverse) = root := by
  unfold isHold at h
  simp only [Bool.and_eq_true, decide_eq_true_eq] at h
  obtain ⟨⟨h1, h2, h3, h4⟩, h5, h6⟩ := h
  exact ⟨n.toNat, i.toNat, by omega, by omega, by omega, by omega, by omega, h5, h6⟩
theorem holds_is (root : List Int) (n i : Int) (ta : Option Addr) (tn tc : Nat) (m : List Int) (ya : Option Addr) (yn yc : Nat) (ds : List (List Int)) (w : World) (hr : Dg root) (hT : TextAt w ta tn tc m) (hW : DigsAt w ya yn yc ds) (htn : tn ≤ 1000000) (hyn : yn ≤ 1000000) (tab : ShaTab w) :
    Calls Tryd.prog 29 #[.agg (root.map (Value.int .u8)).toArray, .int .i64 n, .int .i64 i, .slice ta tn tc, .slice ya yn yc] w fun e w' => e = .returned (.bool (isHold root n i m ds)) ∧ Below w.heap.size w w' := by
  have hyl := hW.length
  unfold isHold
  by_cases hb : 1 ≤ n ∧ n ≤ 200 ∧ 0 ≤ i ∧ i < n
  · obtain ⟨N, rfl⟩ := Int.eq_ofNat_of_zero_le (show 0 ≤ n by omega)
    obtain ⟨I, rfl⟩ := Int.eq_ofNat_of_zero_le hb.2.2.1
    have hg := holds_good root N I ta tn tc m ya yn yc ds w hr (by omega) (by omega) (by omega) hT hW htn hyn tab
    have e2 := upZ_sides (leafL m) N N I ds yn (Nat.le_refl _) (by omega)
    rw [decide_eq_true hb, Bool.true_and]
    simp only [Int.toNat_natCast]
    by_cases hl : ds.length = (sidesF N N I).length
    · have e1 := upZ_top (leafL m) N N I ds (Nat.le_refl _) (by omega) (by omega)
      rw [← hl, hyl, List.take_of_length_le (by omega)] at e1
      rw [e1, decide_eq_true (show (upZ N (leafL m) N I ds yn).2 = 0 by omega), Bool.true_and] at hg
      rw [decide_eq_true hl, Bool.true_and]
      exact hg
    · rw [decide_eq_false (show ¬ (upZ N (leafL m) N I ds yn).2 = 0 by omega), Bool.false_and] at hg
      rw [decide_eq_false hl, Bool.false_and]
      exact hg
  · rw [decide_eq_false hb, Bool.false_and]
    exact holds_bad root n i ta tn tc ya yn yc w hr (by omega)
set_option maxHeartbeats 4000000 in
theorem textTrail_good (n i : Nat) (a : Option Addr) (nt c : Nat) (t : List Int) (ya : Option Addr) (yn yc : Nat) (ds : List (List Int)) (w : World) (hn1 : 1 ≤ n) (hn2 : n ≤ 200) (hin : i < n) (hT : TextAt w a nt c t) (hnt : nt ≤ 1000) (hW : DigsAt w ya yn yc ds) (hyn : yn ≤ 300) (hl : ds.length = (sidesF n n i).length) (tab : ShaTab w) :
    Calls Tryd.prog 14 #[.int .i64 n, .int .i64 i, .slice a nt c, .slice ya yn yc] w fun e w' => ∃ v, e = .returned v ∧ ∃ Sx base, w.heap.size ≤ base ∧ OwnR w' Sx base v (textT t n i ds) ∧ Below w.heap.size w w' := by
  have Hb := hid (Below.refl w.heap.size w)
  have Htab := hid tab
  clear  tab 
  have HT := hid hT
  have HW := hid hW
  have HL := hid (Dg.leafL t)
  have hyl := hW.length
  have h0 : ¬ (i : Int) < 0 := by omega
  have h1 : ¬ (n : Int) < 1 := by omega
  have h2 : ¬ (200 : Int) < n := by omega
  have h3 : ¬ (n : Int) ≤ i := by omega
  have HSD := hid (textSides_any n i)
  have hrl : (sidesF n n i).reverse.length = yn := by rw [List.length_reverse]; omega
  clear hT hW
  go_enter Tryd.func14, Tryd.ntmps14
  go_wp2_with fail
  refine (HSD.out _ (by omega) (by omega) (by omega)).mono ?_
  rintro e w1 ⟨v1, rfl, o1, b1⟩
  obtain ⟨ga, gc, rfl, hg1⟩ := BoolsAt.of_own o1
  rw [hrl] at hg1 ⊢
  have HG := hid hg1
  have HB1 := hid (Below.on Hb.out b1)
  clear o1 b1 hg1
  go_wp2_with fail
  refine (loleaf_any a nt c t _ (HT.out.below HB1.out) (by omega) (Htab.out.below HB1.out)).mono ?_
  rintro e w2 ⟨rfl, b2⟩
  have HB2 := hid (Below.on HB1.out b2)
  have HG2 := hid (HG.out.below b2)
  clear b2
  go_wp2_with fail
  have HBA := hid (HB2.out.alloc HB2.out.size (.cells #[.slice a nt c] 29 (0, 0)))
  have HGA := hid (HG2.out.below ((Below.refl _ _).alloc (Nat.le_refl _) (.cells #[.slice a nt c] 29 (0, 0))))
  have HS := hid (TextsAt.of_blk (n := 1) (cap := 1) (ts := [t]) (Blk.new (w := w2) rfl #[.slice a nt c] 29) rfl (Nat.le_refl _) (by omega) fun j hj => by
    match j, hj with
    | 0, _ => exact ⟨_, _, _, rfl, HT.out.below HBA.out⟩)
  refine (joined_any 0 _ _ _ [t] _ (by omega) HS.out (by simp only [sumLen, List.map_cons, List.map_nil, List.sum_cons, List.sum_nil]; have := HT.out.length; omega)).mono ?_
  rintro e w8 ⟨v8, rfl, b8, o8⟩
  have HB8 := hid (Below.on HBA.out b8)
  have HG8 := hid (HGA.out.below b8)
  have hs8 := b8.size
  obtain ⟨a8, c8, rfl, q1, q2⟩ := o8.text2
  rw [show ([0] : List Int) ++ ([t] : List (List Int)).flatten = 0 :: t by simp] at q1 ⊢
  obtain ⟨p8, rfl, hp8⟩ := q1.some_ (by simp)
  obtain ⟨N8, hN8⟩ : ∃ N, N = (0 :: t).length := ⟨_, rfl⟩
  rw [← hN8] at q1 ⊢
  have HT8 := hid q1
  clear q1 q2 b8 o8 hN8
  go_wp2_with fail
  refine (climbed_text (leafL t) ya yn yc ds ga gc (sidesF n n i).reverse p8 N8 c8 (0 :: t) w8 HL.out (HW.out.below HB8.out) HG8.out (by omega) (Htab.out.below HB8.out) HT8.out hp8).mono ?_
  rintro e w9 ⟨v9, rfl, Sx, base, h1, h2, h3⟩
  have HO9 := hid h2
  have HB9 := hid (Below.on HB8.out h3)
  have h19 := Nat.le_trans HB8.out.size h1
  clear h2 h3 h1
  go_wp2_with fail
  go_returns
  exact ⟨_, rfl, Sx, base, h19, by have := HO9.out; unfold textT; simpa using this, HB9.out⟩
end Go.Proofs.YtkakoiaahgchmaaDoor
namespace Go.Proofs.YtkakoiaahgchmaaDoor
set_option maxRecDepth 100000
open Go.ChangeShapes Go.WideShapes Go.ChangeAt Go.RowKit
set_option maxHeartbeats 4000000 in
theorem texts_same (r : List Int) (n i : Int) (a1 : Option Addr) (n1 k1 : Nat) (v : List Int) (a2 : Option Addr) (n2 k2 : Nat) (m : List Int) (ya : Option Addr) (yn yc : Nat) (ds : List (List Int)) (za : Option Addr) (zn zc : Nat) (es : List (List Int)) (w : World) (hr : Dg r) (hT : TextAt w a1 n1 k1 v) (hU : TextAt w a2 n2 k2 m) (hY : DigsAt w ya yn yc ds) (hW : DigsAt w za zn zc es) (tab : ShaTab w) (hb1 : n1 ≤ 1000) (hb2 : n2 ≤ 1000) (hb3 : yn ≤ 40) (hb4 : zn ≤ 40) (hq : v = m) :
    Calls Tryd.prog 28 #[.agg (r.map (Value.int .u8)).toArray, .int .i64 n, .int .i64 i, .slice a1 n1 k1, .slice a2 n2 k2, .slice ya yn yc, .slice za zn zc] w fun e w' => e = .returned (.tuple #[.slice none 0 0, .slice none 0 0, .bool false]) ∧ Below w.heap.size w w' := by
  have b1 := (Below.refl w.heap.size w).alloc (Nat.le_refl _) (.cells (r.map (Value.int .u8)).toArray 23 (0, 0))
  have Kr := hid (Blk.new (w := w) (n := w.heap.size) rfl (r.map (Value.int .u8)).toArray 23)
  have Hb := hid b1
  have hbz := b1.size
  have Hbs := hid (show w.heap.size + 1 = (w.alloc (.cells (r.map (Value.int .u8)).toArray 23 (0, 0))).heap.size by simp only [World.size_alloc])
  have Htab := hid tab
  clear b1 tab 
  have HT := hid hT
  have HU := hid hU
  have HY := hid hY
  have HW := hid hW
  have I1 := hid (fun (W : World) (h1 : TextAt W a1 n1 k1 v) (h2 : DigsAt W ya yn yc ds) (h3 : ShaTab W) => holds_is r n i a1 n1 k1 v ya yn yc ds W hr h1 h2 (by omega) (by omega) h3)
  have I2 := hid (fun (W : World) (h1 : TextAt W a2 n2 k2 m) (h2 : DigsAt W za zn zc es) (h3 : ShaTab W) => holds_is r n i a2 n2 k2 m za zn zc es W hr h1 h2 (by omega) (by omega) h3)
  have EQ := hid (fun (W : World) (h1 : TextAt W a1 n1 k1 v) (h2 : TextAt W a2 n2 k2 m) => equal_any a1 a2 n1 n2 k1 k2 v m W h1 h2)
  rw [decide_eq_true hq] at EQ
  clear hT hU hY hW
  go_enter Tryd.func28, Tryd.ntmps28
  go_wp2_with fail
  refine (EQ.out _ (HT.out.below Hb.out) (HU.out.below Hb.out)).mono ?_
  rintro e w1 ⟨rfl, bw1⟩
  have HBw1 := hid (Below.on Hb.out bw1)
  have hsw1 := HBw1.out.size
  have Krw1 := hid (Kr.out.below bw1)
  clear bw1
  go_wp2_with fail
  go_returns
  exact ⟨rfl, HBw1.out⟩
set_option maxHeartbeats 4000000 in
theorem texts_first (r : List Int) (n i : Int) (a1 : Option Addr) (n1 k1 : Nat) (v : List Int) (a2 : Option Addr) (n2 k2 : Nat) (m : List Int) (ya : Option Addr) (yn yc : Nat) (ds : List (List Int)) (za : Option Addr) (zn zc : Nat) (es : List (List Int)) (w : World) (hr : Dg r) (hT : TextAt w a1 n1 k1 v) (hU : TextAt w a2 n2 k2 m) (hY : DigsAt w ya yn yc ds) (hW : DigsAt w za zn zc es) (tab : ShaTab w) (hb1 : n1 ≤ 1000) (hb2 : n2 ≤ 1000) (hb3 : yn ≤ 40) (hb4 : zn ≤ 40) (hq : ¬ v = m) (h1 : isHold r n i v ds = false) :
    Calls Tryd.prog 28 #[.agg (r.map (Value.int .u8)).toArray, .int .i64 n, .int .i64 i, .slice a1 n1 k1, .slice a2 n2 k2, .slice ya yn yc, .slice za zn zc] w fun e w' => e = .returned (.tuple #[.slice none 0 0, .slice none 0 0, .bool false]) ∧ Below w.heap.size w w' := by
  have b1 := (Below.refl w.heap.size w).alloc (Nat.le_refl _) (.cells (r.map (Value.int .u8)).toArray 23 (0, 0))
  have Kr := hid (Blk.new (w := w) (n := w.heap.size) rfl (r.map (Value.int .u8)).toArray 23)
  have Hb := hid b1
  have hbz := b1.size
  have Hbs := hid (show w.heap.size + 1 = (w.alloc (.cells (r.map (Value.int .u8)).toArray 23 (0, 0))).heap.size by simp only [World.size_alloc])
  have Htab := hid tab
  clear b1 tab 
  have HT := hid hT
  have HU := hid hU
  have HY := hid hY
  have HW := hid hW
  have I1 := hid (fun (W : World) (h1 : TextAt W a1 n1 k1 v) (h2 : DigsAt W ya yn yc ds) (h3 : ShaTab W) => holds_is r n i a1 n1 k1 v ya yn yc ds W hr h1 h2 (by omega) (by omega) h3)
  have I2 := hid (fun (W : World) (h1 : TextAt W a2 n2 k2 m) (h2 : DigsAt W za zn zc es) (h3 : ShaTab W) => holds_is r n i a2 n2 k2 m za zn zc es W hr h1 h2 (by omega) (by omega) h3)
  have EQ := hid (fun (W : World) (h1 : TextAt W a1 n1 k1 v) (h2 : TextAt W a2 n2 k2 m) => equal_any a1 a2 n1 n2 k1 k2 v m W h1 h2)
  rw [decide_eq_false hq] at EQ
  rw [h1] at I1
  clear hT hU hY hW
  go_enter Tryd.func28, Tryd.ntmps28
  go_wp2_with fail
  refine (EQ.out _ (HT.out.below Hb.out) (HU.out.below Hb.out)).mono ?_
  rintro e w1 ⟨rfl, bw1⟩
  have HBw1 := hid (Below.on Hb.out bw1)
  have hsw1 := HBw1.out.size
  have Krw1 := hid (Kr.out.below bw1)
  clear bw1
  go_wp2_with (refine wpList_load_blk_if (by first | rfl | go_simp) 23 _ rfl (w.heap.size) rfl _ 23 Krw1.out _ Tryd.underlying23 rfl 32 size_digest hr.size ?_)
  refine (I1.out _ (HT.out.below HBw1.out) (HY.out.below HBw1.out) (Htab.out.below HBw1.out)).mono ?_
  rintro e w2 ⟨rfl, bw2⟩
  have HBw2 := hid (Below.on HBw1.out bw2)
  have hsw2 := HBw2.out.size
  have Krw2 := hid (Krw1.out.below bw2)
  clear bw2
  go_wp2_with fail
  go_returns
  exact ⟨rfl, HBw2.out⟩
set_option maxHeartbeats 4000000 in
theorem texts_second (r : List Int) (n i : Int) (a1 : Option Addr) (n1 k1 : Nat) (v : List Int) (a2 : Option Addr) (n2 k2 : Nat) (m : List Int) (ya : Option Addr) (yn yc : Nat) (ds : List (List Int)) (za : Option Addr) (zn zc : Nat) (es : List (List Int)) (w : World) (hr : Dg r) (hT : TextAt w a1 n1 k1 v) (hU : TextAt w a2 n2 k2 m) (hY : DigsAt w ya yn yc ds) (hW : DigsAt w za zn zc es) (tab : ShaTab w) (hb1 : n1 ≤ 1000) (hb2 : n2 ≤ 1000) (hb3 : yn ≤ 40) (hb4 : zn ≤ 40) (hq : ¬ v = m) (h1 : isHold r n i v ds = true) (h2 : isHold r n i m es = false) :
    Calls Tryd.prog 28 #[.agg (r.map (Value.int .u8)).toArray, .int .i64 n, .int .i64 i, .slice a1 n1 k1, .slice a2 n2 k2, .slice ya yn yc, .slice za zn zc] w fun e w' => e = .returned (.tuple #[.slice none 0 0, .slice none 0 0, .bool false]) ∧ Below w.heap.size w w' := by
  have b1 := (Below.refl w.heap.size w).alloc (Nat.le_refl _) (.cells (r.map (Value.int .u8)).toArray 23 (0, 0))
  have Kr := hid (Blk.new (w := w) (n := w.heap.size) rfl (r.map (Value.int .u8)).toArray 23)
  have Hb := hid b1
  have hbz := b1.size
  have Hbs := hid (show w.heap.size + 1 = (w.alloc (.cells (r.map (Value.int .u8)).toArray 23 (0, 0))).heap.size by simp only [World.size_alloc])
  have Htab := hid tab
  clear b1 tab 
  have HT := hid hT
  have HU := hid hU
  have HY := hid hY
  have HW := hid hW
  have I1 := hid (fun (W : World) (h1 : TextAt W a1 n1 k1 v) (h2 : DigsAt W ya yn yc ds) (h3 : ShaTab W) => holds_is r n i a1 n1 k1 v ya yn yc ds W hr h1 h2 (by omega) (by omega) h3)
  have I2 := hid (fun (W : World) (h1 : TextAt W a2 n2 k2 m) (h2 : DigsAt W za zn zc es) (h3 : ShaTab W) => holds_is r n i a2 n2 k2 m za zn zc es W hr h1 h2 (by omega) (by omega) h3)
  have EQ := hid (fun (W : World) (h1 : TextAt W a1 n1 k1 v) (h2 : TextAt W a2 n2 k2 m) => equal_any a1 a2 n1 n2 k1 k2 v m W h1 h2)
  rw [decide_eq_false hq] at EQ
  rw [h1] at I1
  rw [h2] at I2
  clear hT hU hY hW
  go_enter Tryd.func28, Tryd.ntmps28
  go_wp2_with fail
  refine (EQ.out _ (HT.out.below Hb.out) (HU.out.below Hb.out)).mono ?_
  rintro e w1 ⟨rfl, bw1⟩
  have HBw1 := hid (Below.on Hb.out bw1)
  have hsw1 := HBw1.out.size
  have Krw1 := hid (Kr.out.below bw1)
  clear bw1
  go_wp2_with (refine wpList_load_blk_if (by first | rfl | go_simp) 23 _ rfl (w.heap.size) rfl _ 23 Krw1.out _ Tryd.underlying23 rfl 32 size_digest hr.size ?_)
  refine (I1.out _ (HT.out.below HBw1.out) (HY.out.below HBw1.out) (Htab.out.below HBw1.out)).mono ?_
  rintro e w2 ⟨rfl, bw2⟩
  have HBw2 := hid (Below.on HBw1.out bw2)
  have hsw2 := HBw2.out.size
  have Krw2 := hid (Krw1.out.below bw2)
  clear bw2
  go_wp2_with (refine wpList_load_blk_if (by first | rfl | go_simp) 23 _ rfl (w.heap.size) rfl _ 23 Krw2.out _ Tryd.underlying23 rfl 32 size_digest hr.size ?_)
  refine (I2.out _ (HU.out.below HBw2.out) (HW.out.below HBw2.out) (Htab.out.below HBw2.out)).mono ?_
  rintro e w3 ⟨rfl, bw3⟩
  have HBw3 := hid (Below.on HBw2.out bw3)
  have hsw3 := HBw3.out.size
  have Krw3 := hid (Krw2.out.below bw3)
  clear bw3
  go_wp2_with fail
  go_returns
  exact ⟨rfl, HBw3.out⟩
set_option maxHeartbeats 4000000 in
theorem texts_both (r : List Int) (n i : Int) (a1 : Option Addr) (n1 k1 : Nat) (v : List Int) (a2 : Option Addr) (n2 k2 : Nat) (m : List Int) (ya : Option Addr) (yn yc : Nat) (ds : List (List Int)) (za : Option Addr) (zn zc : Nat) (es : List (List Int)) (w : World) (hr : Dg r) (hT : TextAt w a1 n1 k1 v) (hU : TextAt w a2 n2 k2 m) (hY : DigsAt w ya yn yc ds) (hW : DigsAt w za zn zc es) (tab : ShaTab w) (hb1 : n1 ≤ 1000) (hb2 : n2 ≤ 1000) (hb3 : yn ≤ 40) (hb4 : zn ≤ 40) (hq : ¬ v = m) (h1 : isHold r n i v ds = true) (h2 : isHold r n i m es = true) :
    Calls Tryd.prog 28 #[.agg (r.map (Value.int .u8)).toArray, .int .i64 n, .int .i64 i, .slice a1 n1 k1, .slice a2 n2 k2, .slice ya yn yc, .slice za zn zc] w fun e w' => ∃ x y X Y, e = .returned (.tuple #[x, y, .bool true]) ∧ TextV X x w' ∧ TextV Y y w' ∧ X.length ≤ 1065 ∧ Y.length ≤ 1065 ∧ X ≠ Y ∧ sumZ X = sumZ Y ∧ Below w.heap.size w w' := by
  have b1 := (Below.refl w.heap.size w).alloc (Nat.le_refl _) (.cells (r.map (Value.int .u8)).toArray 23 (0, 0))
  have Kr := hid (Blk.new (w := w) (n := w.heap.size) rfl (r.map (Value.int .u8)).toArray 23)
  have Hb := hid b1
  have hbz := b1.size
  have Hbs := hid (show w.heap.size + 1 = (w.alloc (.cells (r.map (Value.int .u8)).toArray 23 (0, 0))).heap.size by simp only [World.size_alloc])
  have Htab := hid tab
  clear b1 tab 
  have HT := hid hT
  have HU := hid hU
  have HY := hid hY
  have HW := hid hW
  have I1 := hid (fun (W : World) (h1 : TextAt W a1 n1 k1 v) (h2 : DigsAt W ya yn yc ds) (h3 : ShaTab W) => holds_is r n i a1 n1 k1 v ya yn yc ds W hr h1 h2 (by omega) (by omega) h3)
  have I2 := hid (fun (W : World) (h1 : TextAt W a2 n2 k2 m) (h2 : DigsAt W za zn zc es) (h3 : ShaTab W) => holds_is r n i a2 n2 k2 m za zn zc es W hr h1 h2 (by omega) (by omega) h3)
  have EQ := hid (fun (W : World) (h1 : TextAt W a1 n1 k1 v) (h2 : TextAt W a2 n2 k2 m) => equal_any a1 a2 n1 n2 k1 k2 v m W h1 h2)
  rw [decide_eq_false hq] at EQ
  rw [h1] at I1
  rw [h2] at I2
  obtain ⟨N, I, rfl, rfl, q1, q2, q3, q4, q5⟩ := isHold_spec h1
  obtain ⟨N', I', e1, e2, -, -, -, q6, q7⟩ := isHold_spec h2
  obtain rfl : N' = N := by omega
  obtain rfl : I' = I := by omega
  obtain ⟨k, hk, hks⟩ := textT_part q4 q6 hY.each hW.each (q5.trans q7.symm) hq
  have hs1 : ∀ t ∈ textT v N' I' ds, t.length ≤ 1065 := fun t ht => by have := textT_small hY.each t ht; have := hT.length; omega
  have hs2 : ∀ t ∈ textT m N' I' es, t.length ≤ 1065 := fun t ht => by have := textT_small hW.each t ht; have := hU.length; omega
  have hka := firstU_at hk
  have T1 := hid (fun (W : World) (h1 : TextAt W a1 n1 k1 v) (h2 : DigsAt W ya yn yc ds) (h3 : ShaTab W) => textTrail_good N' I' a1 n1 k1 v ya yn yc ds W q1 q2 q3 h1 hb1 h2 (by omega) q4 h3)
  have T2 := hid (fun (W : World) (h1 : TextAt W a2 n2 k2 m) (h2 : DigsAt W za zn zc es) (h3 : ShaTab W) => textTrail_good N' I' a2 n2 k2 m za zn zc es W q1 q2 q3 h1 hb2 h2 (by omega) q6 h3)
  have HL1 := hid (hs1 _ (show (textT v N' I' ds).getD k [] ∈ textT v N' I' ds by rw [List.getD_eq_getElem?_getD, List.getElem?_eq_getElem hka.1]; exact List.getElem_mem _))
  have HL2 := hid (hs2 _ (show (textT m N' I' es).getD k [] ∈ textT m N' I' es by rw [List.getD_eq_getElem?_getD, List.getElem?_eq_getElem hka.2.1]; exact List.getElem_mem _))
  have HNE := hid hka.2.2.2
  have HKS := hid hks
  have PS := hid (fun (a1 a2 : Option Addr) (n1 n2 c1 c2 : Nat) (W : World) (h1 : TextsAt W a1 n1 c1 (textT v N' I' ds)) (h2 : TextsAt W a2 n2 c2 (textT m N' I' es)) => part_some a1 a2 n1 n2 c1 c2 _ _ W h1 h2 (fun t ht => by have := hs1 t ht; omega) (fun t ht => by have := hs2 t ht; omega) hk)
  clear h1 h2 q1 q2 q3 q4 q5 q6 q7 e1 e2 hk hks hs1 hs2 hka
  generalize textT v N' I' ds = A at *
  generalize textT m N' I' es = B at *
  clear hT hU hY hW
  go_enter Tryd.func28, Tryd.ntmps28
  go_wp2_with fail
  refine (EQ.out _ (HT.out.below Hb.out) (HU.out.below Hb.out)).mono ?_
  rintro e w1 ⟨rfl, bw1⟩
  have HBw1 := hid (Below.on Hb.out bw1)
  have hsw1 := HBw1.out.size
  have Krw1 := hid (Kr.out.below bw1)
  clear bw1
  go_wp2_with (refine wpList_load_blk_if (by first | rfl | go_simp) 23 _ rfl (w.heap.size) rfl _ 23 Krw1.out _ Tryd.underlying23 rfl 32 size_digest hr.size ?_)
  refine (I1.out _ (HT.out.below HBw1.out) (HY.out.below HBw1.out) (Htab.out.below HBw1.out)).mono ?_
  rintro e w2 ⟨rfl, bw2⟩
  have HBw2 := hid (Below.on HBw1.out bw2)
  have hsw2 := HBw2.out.size
  have Krw2 := hid (Krw1.out.below bw2)
  clear bw2
  go_wp2_with (refine wpList_load_blk_if (by first | rfl | go_simp) 23 _ rfl (w.heap.size) rfl _ 23 Krw2.out _ Tryd.underlying23 rfl 32 size_digest hr.size ?_)
  refine (I2.out _ (HU.out.below HBw2.out) (HW.out.below HBw2.out) (Htab.out.below HBw2.out)).mono ?_
  rintro e w3 ⟨rfl, bw3⟩
  have HBw3 := hid (Below.on HBw2.out bw3)
  have hsw3 := HBw3.out.size
  have Krw3 := hid (Krw2.out.below bw3)
  clear bw3
  go_wp2_with fail
  refine (T1.out _ (HT.out.below HBw3.out) (HY.out.below HBw3.out) (Htab.out.below HBw3.out)).mono ?_
  rintro e w11 ⟨u1, rfl, S1, base1, -, o1, b1⟩
  have HB11 := hid (Below.on HBw3.out b1)
  obtain ⟨p1, c1, rfl, t1⟩ := o1.texts
  have HA1 := hid t1
  obtain ⟨N1, hN1⟩ : ∃ N, N = A.length := ⟨_, rfl⟩
  rw [← hN1] at HA1 ⊢
  clear o1 b1 t1 hN1
  go_wp2_with fail
  refine (T2.out _ (HU.out.below HB11.out) (HW.out.below HB11.out) (Htab.out.below HB11.out)).mono ?_
  rintro e w12 ⟨u2, rfl, S2, base2, -, o2, b2⟩
  have HB12 := hid (Below.on HB11.out b2)
  have HA2 := hid (HA1.out.below b2)
  obtain ⟨p2, c2, rfl, t2⟩ := o2.texts
  have HA3 := hid t2
  obtain ⟨N2, hN2⟩ : ∃ N, N = B.length := ⟨_, rfl⟩
  rw [← hN2] at HA3 ⊢
  clear o2 b2 t2 hN2
  go_wp2_with fail
  refine (PS.out _ _ _ _ _ _ _ HA2.out HA3.out).mono ?_
  rintro e w13 ⟨x3, y3, rfl, r1, r2, b3⟩
  have HB13 := hid (Below.on HB12.out b3)
  have HR1 := hid r1
  have HR2 := hid r2
  clear r1 r2 b3
  go_wp2_with fail
  go_returns
  exact ⟨_, _, _, _, rfl, HR1.out, HR2.out, HL1.out, HL2.out, HNE.out, HKS.out, HB13.out⟩
set_option maxHeartbeats 4000000 in
theorem texts_none (r : List Int) (n i : Int) (a1 : Option Addr) (n1 k1 : Nat) (v : List Int) (a2 : Option Addr) (n2 k2 : Nat) (m : List Int) (ya : Option Addr) (yn yc : Nat) (ds : List (List Int)) (za : Option Addr) (zn zc : Nat) (es : List (List Int)) (w : World) (hr : Dg r) (hT : TextAt w a1 n1 k1 v) (hU : TextAt w a2 n2 k2 m) (hY : DigsAt w ya yn yc ds) (hW : DigsAt w za zn zc es) (tab : ShaTab w) (hb1 : n1 ≤ 1000) (hb2 : n2 ≤ 1000) (hb3 : yn ≤ 40) (hb4 : zn ≤ 40) (hn : ¬ (isHold r n i v ds = true ∧ isHold r n i m es = true ∧ v ≠ m)) :
    Calls Tryd.prog 28 #[.agg (r.map (Value.int .u8)).toArray, .int .i64 n, .int .i64 i, .slice a1 n1 k1, .slice a2 n2 k2, .slice ya yn yc, .slice za zn zc] w fun e w' => e = .returned (.tuple #[.slice none 0 0, .slice none 0 0, .bool false]) ∧ Below w.heap.size w w' := by
  by_cases hq : v = m
  · exact texts_same r n i a1 n1 k1 v a2 n2 k2 m ya yn yc ds za zn zc es w hr hT hU hY hW tab hb1 hb2 hb3 hb4 hq
  · cases h1 : isHold r n i v ds with
    | false => exact texts_first r n i a1 n1 k1 v a2 n2 k2 m ya yn yc ds za zn zc es w hr hT hU hY hW tab hb1 hb2 hb3 hb4 hq h1
    | true =>
      cases h2 : isHold r n i m es with
      | false => exact texts_second r n i a1 n1 k1 v a2 n2 k2 m ya yn yc ds za zn zc es w hr hT hU hY hW tab hb1 hb2 hb3 hb4 hq h1 h2
      | true => exact absurd ⟨h1, h2, hq⟩ hn
set_option maxHeartbeats 4000000 in
theorem extexts_far0 (r : List Int) (n i : Int) (a1 : Option Addr) (n1 k1 : Nat) (v : List Int) (a2 : Option Addr) (n2 k2 : Nat) (m : List Int) (ya : Option Addr) (yn yc : Nat) (ds : List (List Int)) (za : Option Addr) (zn zc : Nat) (es : List (List Int)) (w : World) (_hr : Dg r) (_hT : TextAt w a1 n1 k1 v) (_hU : TextAt w a2 n2 k2 m) (_hY : DigsAt w ya yn yc ds) (_hW : DigsAt w za zn zc es) (tab : ShaTab w)  (h0 : 1000 < n1) :
    Calls Tryd.prog 7 #[.agg (r.map (Value.int .u8)).toArray, .int .i64 n, .int .i64 i, .slice a1 n1 k1, .slice a2 n2 k2, .slice ya yn yc, .slice za zn zc] w fun e w' => e = .returned (.bool true) ∧ Below w.heap.size w w' := by
  have b1 := (Below.refl w.heap.size w).alloc (Nat.le_refl _) (.cells (r.map (Value.int .u8)).toArray 23 (0, 0))
  have Kr := hid (Blk.new (w := w) (n := w.heap.size) rfl (r.map (Value.int .u8)).toArray 23)
  have Hb := hid b1
  have hbz := b1.size
  have Hbs := hid (show w.heap.size + 1 = (w.alloc (.cells (r.map (Value.int .u8)).toArray 23 (0, 0))).heap.size by simp only [World.size_alloc])
  have Htab := hid tab
  clear b1 tab 
  have hci : (1000 : Int) < (n1 : Int) := by omega
  go_enter Tryd.func7, Tryd.ntmps7
  go_wp2_with fail
  refine (knows23 _ (Htab.out.below Hb.out)).mono ?_
  rintro e w1 ⟨rfl, bw1⟩
  have HBw1 := hid (Below.on Hb.out bw1)
  have hsw1 := HBw1.out.size
  have Krw1 := hid (Kr.out.below bw1)
  clear bw1
  go_wp2_with fail
  go_returns
  exact ⟨by first | rfl | simp, HBw1.out⟩
set_option maxHeartbeats 4000000 in
theorem extexts_far1 (r : List Int) (n i : Int) (a1 : Option Addr) (n1 k1 : Nat) (v : List Int) (a2 : Option Addr) (n2 k2 : Nat) (m : List Int) (ya : Option Addr) (yn yc : Nat) (ds : List (List Int)) (za : Option Addr) (zn zc : Nat) (es : List (List Int)) (w : World) (_hr : Dg r) (_hT : TextAt w a1 n1 k1 v) (_hU : TextAt w a2 n2 k2 m) (_hY : DigsAt w ya yn yc ds) (_hW : DigsAt w za zn zc es) (tab : ShaTab w) (h0 : n1 ≤ 1000) (h1 : 1000 < n2) :
    Calls Tryd.prog 7 #[.agg (r.map (Value.int .u8)).toArray, .int .i64 n, .int .i64 i, .slice a1 n1 k1, .slice a2 n2 k2, .slice ya yn yc, .slice za zn zc] w fun e w' => e = .returned (.bool true) ∧ Below w.heap.size w w' := by
  have b1 := (Below.refl w.heap.size w).alloc (Nat.le_refl _) (.cells (r.map (Value.int .u8)).toArray 23 (0, 0))
  have Kr := hid (Blk.new (w := w) (n := w.heap.size) rfl (r.map (Value.int .u8)).toArray 23)
  have Hb := hid b1
  have hbz := b1.size
  have Hbs := hid (show w.heap.size + 1 = (w.alloc (.cells (r.map (Value.int .u8)).toArray 23 (0, 0))).heap.size by simp only [World.size_alloc])
  have Htab := hid tab
  clear b1 tab 
  have hci : ¬ (1000 : Int) < (n1 : Int) := by omega
  have hcj : (1000 : Int) < (n2 : Int) := by omega
  go_enter Tryd.func7, Tryd.ntmps7
  go_wp2_with fail
  refine (knows23 _ (Htab.out.below Hb.out)).mono ?_
  rintro e w1 ⟨rfl, bw1⟩
  have HBw1 := hid (Below.on Hb.out bw1)
  have hsw1 := HBw1.out.size
  have Krw1 := hid (Kr.out.below bw1)
  clear bw1
  go_wp2_with fail
  go_returns
  exact ⟨by first | rfl | simp, HBw1.out⟩
set_option maxHeartbeats 4000000 in
theorem extexts_far2 (r : List Int) (n i : Int) (a1 : Option Addr) (n1 k1 : Nat) (v : List Int) (a2 : Option Addr) (n2 k2 : Nat) (m : List Int) (ya : Option Addr) (yn yc : Nat) (ds : List (List Int)) (za : Option Addr) (zn zc : Nat) (es : List (List Int)) (w : World) (_hr : Dg r) (_hT : TextAt w a1 n1 k1 v) (_hU : TextAt w a2 n2 k2 m) (_hY : DigsAt w ya yn yc ds) (_hW : DigsAt w za zn zc es) (tab : ShaTab w) (h0 : n1 ≤ 1000) (h1 : n2 ≤ 1000) (h2 : 40 < yn) :
    Calls Tryd.prog 7 #[.agg (r.map (Value.int .u8)).toArray, .int .i64 n, .int .i64 i, .slice a1 n1 k1, .slice a2 n2 k2, .slice ya yn yc, .slice za zn zc] w fun e w' => e = .returned (.bool true) ∧ Below w.heap.size w w' := by
  have b1 := (Below.refl w.heap.size w).alloc (Nat.le_refl _) (.cells (r.map (Value.int .u8)).toArray 23 (0, 0))
  have Kr := hid (Blk.new (w := w) (n := w.heap.size) rfl (r.map (Value.int .u8)).toArray 23)
  have Hb := hid b1
  have hbz := b1.size
  have Hbs := hid (show w.heap.size + 1 = (w.alloc (.cells (r.map (Value.int .u8)).toArray 23 (0, 0))).heap.size by simp only [World.size_alloc])
  have Htab := hid tab
  clear b1 tab 
  have hci : ¬ (1000 : Int) < (n1 : Int) := by omega
  have hcj : ¬ (1000 : Int) < (n2 : Int) := by omega
  have hck : (40 : Int) < (yn : Int) := by omega
  go_enter Tryd.func7, Tryd.ntmps7
  go_wp2_with fail
  refine (knows23 _ (Htab.out.below Hb.out)).mono ?_
  rintro e w1 ⟨rfl, bw1⟩
  have HBw1 := hid (Below.on Hb.out bw1)
  have hsw1 := HBw1.out.size
  have Krw1 := hid (Kr.out.below bw1)
  clear bw1
  go_wp2_with fail
  go_returns
  exact ⟨by first | rfl | simp, HBw1.out⟩
set_option maxHeartbeats 4000000 in
theorem extexts_far3 (r : List Int) (n i : Int) (a1 : Option Addr) (n1 k1 : Nat) (v : List Int) (a2 : Option Addr) (n2 k2 : Nat) (m : List Int) (ya : Option Addr) (yn yc : Nat) (ds : List (List Int)) (za : Option Addr) (zn zc : Nat) (es : List (List Int)) (w : World) (_hr : Dg r) (_hT : TextAt w a1 n1 k1 v) (_hU : TextAt w a2 n2 k2 m) (_hY : DigsAt w ya yn yc ds) (_hW : DigsAt w za zn zc es) (tab : ShaTab w) (h0 : n1 ≤ 1000) (h1 : n2 ≤ 1000) (h2 : yn ≤ 40) (h3 : 40 < zn) :
    Calls Tryd.prog 7 #[.agg (r.map (Value.int .u8)).toArray, .int .i64 n, .int .i64 i, .slice a1 n1 k1, .slice a2 n2 k2, .slice ya yn yc, .slice za zn zc] w fun e w' => e = .returned (.bool true) ∧ Below w.heap.size w w' := by
  have b1 := (Below.refl w.heap.size w).alloc (Nat.le_refl _) (.cells (r.map (Value.int .u8)).toArray 23 (0, 0))
  have Kr := hid (Blk.new (w := w) (n := w.heap.size) rfl (r.map (Value.int .u8)).toArray 23)
  have Hb := hid b1
  have hbz := b1.size
  have Hbs := hid (show w.heap.size + 1 = (w.alloc (.cells (r.map (Value.int .u8)).toArray 23 (0, 0))).heap.size by simp only [World.size_alloc])
  have Htab := hid tab
  clear b1 tab 
  have hci : ¬ (1000 : Int) < (n1 : Int) := by omega
  have hcj : ¬ (1000 : Int) < (n2 : Int) := by omega
  have hck : ¬ (40 : Int) < (yn : Int) := by omega
  have hcl : (40 : Int) < (zn : Int) := by omega
  go_enter Tryd.func7, Tryd.ntmps7
  go_wp2_with fail
  refine (knows23 _ (Htab.out.below Hb.out)).mono ?_
  rintro e w1 ⟨rfl, bw1⟩
  have HBw1 := hid (Below.on Hb.out bw1)
  have hsw1 := HBw1.out.size
  have Krw1 := hid (Kr.out.below bw1)
  clear bw1
  go_wp2_with fail
  go_returns
  exact ⟨by first | rfl | simp, HBw1.out⟩
set_option maxHeartbeats 4000000 in
theorem extexts_good (r : List Int) (n i : Int) (a1 : Option Addr) (n1 k1 : Nat) (v : List Int) (a2 : Option Addr) (n2 k2 : Nat) (m : List Int) (ya : Option Addr) (yn yc : Nat) (ds : List (List Int)) (za : Option Addr) (zn zc : Nat) (es : List (List Int)) (w : World) (hr : Dg r) (hT : TextAt w a1 n1 k1 v) (hU : TextAt w a2 n2 k2 m) (hY : DigsAt w ya yn yc ds) (hW : DigsAt w za zn zc es) (tab : ShaTab w) (hb1 : n1 ≤ 1000) (hb2 : n2 ≤ 1000) (hb3 : yn ≤ 40) (hb4 : zn ≤ 40) (h1 : isHold r n i v ds = true) (h2 : isHold r n i m es = true) (hne : ¬ v = m) :
    Calls Tryd.prog 7 #[.agg (r.map (Value.int .u8)).toArray, .int .i64 n, .int .i64 i, .slice a1 n1 k1, .slice a2 n2 k2, .slice ya yn yc, .slice za zn zc] w fun e w' => e = .returned (.bool true) ∧ Below w.heap.size w w' := by
  have b1 := (Below.refl w.heap.size w).alloc (Nat.le_refl _) (.cells (r.map (Value.int .u8)).toArray 23 (0, 0))
  have Kr := hid (Blk.new (w := w) (n := w.heap.size) rfl (r.map (Value.int .u8)).toArray 23)
  have Hb := hid b1
  have hbz := b1.size
  have Hbs := hid (show w.heap.size + 1 = (w.alloc (.cells (r.map (Value.int .u8)).toArray 23 (0, 0))).heap.size by simp only [World.size_alloc])
  have Htab := hid tab
  clear b1 tab 
  have HT := hid hT
  have HU := hid hU
  have HY := hid hY
  have HW := hid hW
  have I1 := hid (fun (W : World) (h1 : TextAt W a1 n1 k1 v) (h2 : DigsAt W ya yn yc ds) (h3 : ShaTab W) => holds_is r n i a1 n1 k1 v ya yn yc ds W hr h1 h2 (by omega) (by omega) h3)
  have I2 := hid (fun (W : World) (h1 : TextAt W a2 n2 k2 m) (h2 : DigsAt W za zn zc es) (h3 : ShaTab W) => holds_is r n i a2 n2 k2 m za zn zc es W hr h1 h2 (by omega) (by omega) h3)
  have hci : ¬ (1000 : Int) < (n1 : Int) := by omega
  have hcj : ¬ (1000 : Int) < (n2 : Int) := by omega
  have hck : ¬ (40 : Int) < (yn : Int) := by omega
  have hcl : ¬ (40 : Int) < (zn : Int) := by omega
  have hqq := eqStrB hT.small hU.small
  have VV := hid (fun (W : World) (h3 : TextAt W a1 n1 k1 v) (h4 : TextAt W a2 n2 k2 m) (h5 : DigsAt W ya yn yc ds) (h6 : DigsAt W za zn zc es) (h7 : ShaTab W) => texts_both r n i a1 n1 k1 v a2 n2 k2 m ya yn yc ds za zn zc es W hr h3 h4 h5 h6 h7 hb1 hb2 hb3 hb4 hne h1 h2)
  rw [h1] at I1
  rw [h2] at I2
  rw [decide_eq_false hne] at hqq
  clear hT hU hY hW
  go_enter Tryd.func7, Tryd.ntmps7
  go_wp2_with (refine wpList_load_blk rfl 23 _ rfl (w.heap.size) rfl _ 23 Kr.out _ Tryd.underlying23 rfl 32 size_digest hr.size ?_)
  refine (VV.out _ (HT.out.below Hb.out) (HU.out.below Hb.out) (HY.out.below Hb.out) (HW.out.below Hb.out) (Htab.out.below Hb.out)).mono ?_
  rintro e w1 ⟨u1, v1, X, Y, rfl, ⟨p5, m5, q5, rfl, hu5⟩, ⟨p6, m6, q6, rfl, hv5⟩, l1, l2, nxy, sxy, b1⟩
  have HU5 := hid hu5
  have HV5 := hid hv5
  have HL1 := hid l1
  have HL2 := hid l2
  have HNE := hid nxy
  have HSX := hid sxy
  have HBw1 := hid (Below.on Hb.out b1)
  have hsw1 := HBw1.out.size
  have Krw1 := hid (Kr.out.below b1)
  clear b1 hu5 hv5 l1 l2 nxy sxy
  go_wp2_with (refine wpList_load_blk rfl 23 _ rfl (w.heap.size) rfl _ 23 Krw1.out _ Tryd.underlying23 rfl 32 size_digest hr.size ?_)
  refine (I1.out _ (HT.out.below HBw1.out) (HY.out.below HBw1.out) (Htab.out.below HBw1.out)).mono ?_
  rintro e w2 ⟨rfl, bw2⟩
  have hbc2 := hid bw2
  have HBw2 := hid (Below.on HBw1.out bw2)
  have hsw2 := HBw2.out.size
  have Krw2 := hid (Krw1.out.below bw2)
  clear bw2
  go_wp2_with (refine wpList_load_blk_if (by first | rfl | go_simp) 23 _ rfl (w.heap.size) rfl _ 23 Krw2.out _ Tryd.underlying23 rfl 32 size_digest hr.size ?_)
  refine (I2.out _ (HU.out.below HBw2.out) (HW.out.below HBw2.out) (Htab.out.below HBw2.out)).mono ?_
  rintro e w3 ⟨rfl, bw3⟩
  have hbc3 := Below.on hbc2.out bw3
  have HBw3 := hid (Below.on HBw2.out bw3)
  have hsw3 := HBw3.out.size
  have Krw3 := hid (Krw2.out.below bw3)
  clear bw3
  have cv1 := (HT.out.below HBw3.out).string Tryd.underlying29 Tryd.underlying5 Tryd.underlying9
  have cv2 := (HU.out.below HBw3.out).string Tryd.underlying29 Tryd.underlying5 Tryd.underlying9
  go_wp2_with fail
  have hu6 := HU5.out.below hbc3
  have hv6 := HV5.out.below hbc3
  have hlu := hu6.length
  have hlv := hv6.length
  have HL1 := HL1.out
  have HL2 := HL2.out
  refine (found_yes p5 p6 m5 m6 q5 q6 X Y _ hu6 hv6 (by omega) (by omega) HNE.out HSX.out).mono ?_
  rintro e w7 ⟨rfl, b7⟩
  have HBw7 := hid (Below.on HBw3.out b7)
  have hsw7 := HBw7.out.size
  have Krw7 := hid (Krw3.out.below b7)
  clear b7 hu6 hv6
  go_wp2_with fail
  refine (knows23 _ (Htab.out.below HBw7.out)).mono ?_
  rintro e w8 ⟨rfl, bw8⟩
  have HBw8 := hid (Below.on HBw7.out bw8)
  have hsw8 := HBw8.out.size
  have Krw8 := hid (Krw7.out.below bw8)
  clear bw8
  go_wp2_with fail
  go_returns
  exact ⟨by first | rfl | simp, HBw8.out⟩
set_option maxHeartbeats 4000000 in
theorem extexts_same (r : List Int) (n i : Int) (a1 : Option Addr) (n1 k1 : Nat) (v : List Int) (a2 : Option Addr) (n2 k2 : Nat) (m : List Int) (ya : Option Addr) (yn yc : Nat) (ds : List (List Int)) (za : Option Addr) (zn zc : Nat) (es : List (List Int)) (w : World) (hr : Dg r) (hT : TextAt w a1 n1 k1 v) (hU : TextAt w a2 n2 k2 m) (hY : DigsAt w ya yn yc ds) (hW : DigsAt w za zn zc es) (tab : ShaTab w) (hb1 : n1 ≤ 1000) (hb2 : n2 ≤ 1000) (hb3 : yn ≤ 40) (hb4 : zn ≤ 40) (h1 : isHold r n i v ds = true) (h2 : isHold r n i m es = true) (he : v = m) :
    Calls Tryd.prog 7 #[.agg (r.map (Value.int .u8)).toArray, .int .i64 n, .int .i64 i, .slice a1 n1 k1, .slice a2 n2 k2, .slice ya yn yc, .slice za zn zc] w fun e w' => e = .returned (.bool true) ∧ Below w.heap.size w w' := by
  have b1 := (Below.refl w.heap.size w).alloc (Nat.le_refl _) (.cells (r.map (Value.int .u8)).toArray 23 (0, 0))
  have Kr := hid (Blk.new (w := w) (n := w.heap.size) rfl (r.map (Value.int .u8)).toArray 23)
  have Hb := hid b1
  have hbz := b1.size
  have Hbs := hid (show w.heap.size + 1 = (w.alloc (.cells (r.map (Value.int .u8)).toArray 23 (0, 0))).heap.size by simp only [World.size_alloc])
  have Htab := hid tab
  clear b1 tab 
  have HT := hid hT
  have HU := hid hU
  have HY := hid hY
  have HW := hid hW
  have I1 := hid (fun (W : World) (h1 : TextAt W a1 n1 k1 v) (h2 : DigsAt W ya yn yc ds) (h3 : ShaTab W) => holds_is r n i a1 n1 k1 v ya yn yc ds W hr h1 h2 (by omega) (by omega) h3)
  have I2 := hid (fun (W : World) (h1 : TextAt W a2 n2 k2 m) (h2 : DigsAt W za zn zc es) (h3 : ShaTab W) => holds_is r n i a2 n2 k2 m za zn zc es W hr h1 h2 (by omega) (by omega) h3)
  have hci : ¬ (1000 : Int) < (n1 : Int) := by omega
  have hcj : ¬ (1000 : Int) < (n2 : Int) := by omega
  have hck : ¬ (40 : Int) < (yn : Int) := by omega
  have hcl : ¬ (40 : Int) < (zn : Int) := by omega
  have hqq := eqStrB hT.small hU.small
  have VV := hid (fun (W : World) (h3 : TextAt W a1 n1 k1 v) (h4 : TextAt W a2 n2 k2 m) (h5 : DigsAt W ya yn yc ds) (h6 : DigsAt W za zn zc es) (h7 : ShaTab W) => texts_none r n i a1 n1 k1 v a2 n2 k2 m ya yn yc ds za zn zc es W hr h3 h4 h5 h6 h7 hb1 hb2 hb3 hb4 (fun hh => hh.2.2 he))
  rw [h1] at I1
  rw [h2] at I2
  rw [decide_eq_true he] at hqq
  clear hT hU hY hW
  go_enter Tryd.func7, Tryd.ntmps7
  go_wp2_with (refine wpList_load_blk rfl 23 _ rfl (w.heap.size) rfl _ 23 Kr.out _ Tryd.underlying23 rfl 32 size_digest hr.size ?_)
  refine (VV.out _ (HT.out.below Hb.out) (HU.out.below Hb.out) (HY.out.below Hb.out) (HW.out.below Hb.out) (Htab.out.below Hb.out)).mono ?_
  rintro e w1 ⟨rfl, bw1⟩
  have HBw1 := hid (Below.on Hb.out bw1)
  have hsw1 := HBw1.out.size
  have Krw1 := hid (Kr.out.below bw1)
  clear bw1
  go_wp2_with (refine wpList_load_blk rfl 23 _ rfl (w.heap.size) rfl _ 23 Krw1.out _ Tryd.underlying23 rfl 32 size_digest hr.size ?_)
  refine (I1.out _ (HT.out.below HBw1.out) (HY.out.below HBw1.out) (Htab.out.below HBw1.out)).mono ?_
  rintro e w2 ⟨rfl, bw2⟩
  have HBw2 := hid (Below.on HBw1.out bw2)
  have hsw2 := HBw2.out.size
  have Krw2 := hid (Krw1.out.below bw2)
  clear bw2
  go_wp2_with (refine wpList_load_blk_if (by first | rfl | go_simp) 23 _ rfl (w.heap.size) rfl _ 23 Krw2.out _ Tryd.underlying23 rfl 32 size_digest hr.size ?_)
  refine (I2.out _ (HU.out.below HBw2.out) (HW.out.below HBw2.out) (Htab.out.below HBw2.out)).mono ?_
  rintro e w3 ⟨rfl, bw3⟩
  have HBw3 := hid (Below.on HBw2.out bw3)
  have hsw3 := HBw3.out.size
  have Krw3 := hid (Krw2.out.below bw3)
  clear bw3
  have cv1 := (HT.out.below HBw3.out).string Tryd.underlying29 Tryd.underlying5 Tryd.underlying9
  have cv2 := (HU.out.below HBw3.out).string Tryd.underlying29 Tryd.underlying5 Tryd.underlying9
  go_wp2_with fail
  refine (lnone_yes _).mono ?_
  rintro e w4 ⟨rfl, bw4⟩
  have HBw4 := hid (Below.on HBw3.out bw4)
  have hsw4 := HBw4.out.size
  have Krw4 := hid (Krw3.out.below bw4)
  clear bw4
  go_wp2_with fail
  refine (knows23 _ (Htab.out.below HBw4.out)).mono ?_
  rintro e w5 ⟨rfl, bw5⟩
  have HBw5 := hid (Below.on HBw4.out bw5)
  have hsw5 := HBw5.out.size
  have Krw5 := hid (Krw4.out.below bw5)
  clear bw5
  go_wp2_with fail
  go_returns
  exact ⟨by first | rfl | simp, HBw5.out⟩
set_option maxHeartbeats 4000000 in
theorem extexts_second (r : List Int) (n i : Int) (a1 : Option Addr) (n1 k1 : Nat) (v : List Int) (a2 : Option Addr) (n2 k2 : Nat) (m : List Int) (ya : Option Addr) (yn yc : Nat) (ds : List (List Int)) (za : Option Addr) (zn zc : Nat) (es : List (List Int)) (w : World) (hr : Dg r) (hT : TextAt w a1 n1 k1 v) (hU : TextAt w a2 n2 k2 m) (hY : DigsAt w ya yn yc ds) (hW : DigsAt w za zn zc es) (tab : ShaTab w) (hb1 : n1 ≤ 1000) (hb2 : n2 ≤ 1000) (hb3 : yn ≤ 40) (hb4 : zn ≤ 40) (h1 : isHold r n i v ds = true) (h2 : isHold r n i m es = false) :
    Calls Tryd.prog 7 #[.agg (r.map (Value.int .u8)).toArray, .int .i64 n, .int .i64 i, .slice a1 n1 k1, .slice a2 n2 k2, .slice ya yn yc, .slice za zn zc] w fun e w' => e = .returned (.bool true) ∧ Below w.heap.size w w' := by
  have b1 := (Below.refl w.heap.size w).alloc (Nat.le_refl _) (.cells (r.map (Value.int .u8)).toArray 23 (0, 0))
  have Kr := hid (Blk.new (w := w) (n := w.heap.size) rfl (r.map (Value.int .u8)).toArray 23)
  have Hb := hid b1
  have hbz := b1.size
  have Hbs := hid (show w.heap.size + 1 = (w.alloc (.cells (r.map (Value.int .u8)).toArray 23 (0, 0))).heap.size by simp only [World.size_alloc])
  have Htab := hid tab
  clear b1 tab 
  have HT := hid hT
  have HU := hid hU
  have HY := hid hY
  have HW := hid hW
  have I1 := hid (fun (W : World) (h1 : TextAt W a1 n1 k1 v) (h2 : DigsAt W ya yn yc ds) (h3 : ShaTab W) => holds_is r n i a1 n1 k1 v ya yn yc ds W hr h1 h2 (by omega) (by omega) h3)
  have I2 := hid (fun (W : World) (h1 : TextAt W a2 n2 k2 m) (h2 : DigsAt W za zn zc es) (h3 : ShaTab W) => holds_is r n i a2 n2 k2 m za zn zc es W hr h1 h2 (by omega) (by omega) h3)
  have hci : ¬ (1000 : Int) < (n1 : Int) := by omega
  have hcj : ¬ (1000 : Int) < (n2 : Int) := by omega
  have hck : ¬ (40 : Int) < (yn : Int) := by omega
  have hcl : ¬ (40 : Int) < (zn : Int) := by omega
  have VV := hid (fun (W : World) (h3 : TextAt W a1 n1 k1 v) (h4 : TextAt W a2 n2 k2 m) (h5 : DigsAt W ya yn yc ds) (h6 : DigsAt W za zn zc es) (h7 : ShaTab W) => texts_none r n i a1 n1 k1 v a2 n2 k2 m ya yn yc ds za zn zc es W hr h3 h4 h5 h6 h7 hb1 hb2 hb3 hb4 (fun hh => absurd (hh.2.1.symm.trans h2) (by simp)))
  rw [h1] at I1
  rw [h2] at I2
  clear hT hU hY hW
  go_enter Tryd.func7, Tryd.ntmps7
  go_wp2_with (refine wpList_load_blk rfl 23 _ rfl (w.heap.size) rfl _ 23 Kr.out _ Tryd.underlying23 rfl 32 size_digest hr.size ?_)
  refine (VV.out _ (HT.out.below Hb.out) (HU.out.below Hb.out) (HY.out.below Hb.out) (HW.out.below Hb.out) (Htab.out.below Hb.out)).mono ?_
  rintro e w1 ⟨rfl, bw1⟩
  have HBw1 := hid (Below.on Hb.out bw1)
  have hsw1 := HBw1.out.size
  have Krw1 := hid (Kr.out.below bw1)
  clear bw1
  go_wp2_with (refine wpList_load_blk rfl 23 _ rfl (w.heap.size) rfl _ 23 Krw1.out _ Tryd.underlying23 rfl 32 size_digest hr.size ?_)
  refine (I1.out _ (HT.out.below HBw1.out) (HY.out.below HBw1.out) (Htab.out.below HBw1.out)).mono ?_
  rintro e w2 ⟨rfl, bw2⟩
  have HBw2 := hid (Below.on HBw1.out bw2)
  have hsw2 := HBw2.out.size
  have Krw2 := hid (Krw1.out.below bw2)
  clear bw2
  go_wp2_with (refine wpList_load_blk_if (by first | rfl | go_simp) 23 _ rfl (w.heap.size) rfl _ 23 Krw2.out _ Tryd.underlying23 rfl 32 size_digest hr.size ?_)
  refine (I2.out _ (HU.out.below HBw2.out) (HW.out.below HBw2.out) (Htab.out.below HBw2.out)).mono ?_
  rintro e w3 ⟨rfl, bw3⟩
  have HBw3 := hid (Below.on HBw2.out bw3)
  have hsw3 := HBw3.out.size
  have Krw3 := hid (Krw2.out.below bw3)
  clear bw3
  go_wp2_with fail
  refine (lnone_yes _).mono ?_
  rintro e w4 ⟨rfl, bw4⟩
  have HBw4 := hid (Below.on HBw3.out bw4)
  have hsw4 := HBw4.out.size
  have Krw4 := hid (Krw3.out.below bw4)
  clear bw4
  go_wp2_with fail
  refine (knows23 _ (Htab.out.below HBw4.out)).mono ?_
  rintro e w5 ⟨rfl, bw5⟩
  have HBw5 := hid (Below.on HBw4.out bw5)
  have hsw5 := HBw5.out.size
  have Krw5 := hid (Krw4.out.below bw5)
  clear bw5
  go_wp2_with fail
  go_returns
  exact ⟨by first | rfl | simp, HBw5.out⟩
set_option maxHeartbeats 4000000 in
theorem extexts_first (r : List Int) (n i : Int) (a1 : Option Addr) (n1 k1 : Nat) (v : List Int) (a2 : Option Addr) (n2 k2 : Nat) (m : List Int) (ya : Option Addr) (yn yc : Nat) (ds : List (List Int)) (za : Option Addr) (zn zc : Nat) (es : List (List Int)) (w : World) (hr : Dg r) (hT : TextAt w a1 n1 k1 v) (hU : TextAt w a2 n2 k2 m) (hY : DigsAt w ya yn yc ds) (hW : DigsAt w za zn zc es) (tab : ShaTab w) (hb1 : n1 ≤ 1000) (hb2 : n2 ≤ 1000) (hb3 : yn ≤ 40) (hb4 : zn ≤ 40) (h1 : isHold r n i v ds = false) :
    Calls Tryd.prog 7 #[.agg (r.map (Value.int .u8)).toArray, .int .i64 n, .int .i64 i, .slice a1 n1 k1, .slice a2 n2 k2, .slice ya yn yc, .slice za zn zc] w fun e w' => e = .returned (.bool true) ∧ Below w.heap.size w w' := by
  have b1 := (Below.refl w.heap.size w).alloc (Nat.le_refl _) (.cells (r.map (Value.int .u8)).toArray 23 (0, 0))
  have Kr := hid (Blk.new (w := w) (n := w.heap.size) rfl (r.map (Value.int .u8)).toArray 23)
  have Hb := hid b1
  have hbz := b1.size
  have Hbs := hid (show w.heap.size + 1 = (w.alloc (.cells (r.map (Value.int .u8)).toArray 23 (0, 0))).heap.size by simp only [World.size_alloc])
  have Htab := hid tab
  clear b1 tab 
  have HT := hid hT
  have HU := hid hU
  have HY := hid hY
  have HW := hid hW
  have I1 := hid (fun (W : World) (h1 : TextAt W a1 n1 k1 v) (h2 : DigsAt W ya yn yc ds) (h3 : ShaTab W) => holds_is r n i a1 n1 k1 v ya yn yc ds W hr h1 h2 (by omega) (by omega) h3)
  have I2 := hid (fun (W : World) (h1 : TextAt W a2 n2 k2 m) (h2 : DigsAt W za zn zc es) (h3 : ShaTab W) => holds_is r n i a2 n2 k2 m za zn zc es W hr h1 h2 (by omega) (by omega) h3)
  have hci : ¬ (1000 : Int) < (n1 : Int) := by omega
  have hcj : ¬ (1000 : Int) < (n2 : Int) := by omega
  have hck : ¬ (40 : Int) < (yn : Int) := by omega
  have hcl : ¬ (40 : Int) < (zn : Int) := by omega
  have VV := hid (fun (W : World) (h3 : TextAt W a1 n1 k1 v) (h4 : TextAt W a2 n2 k2 m) (h5 : DigsAt W ya yn yc ds) (h6 : DigsAt W za zn zc es) (h7 : ShaTab W) => texts_none r n i a1 n1 k1 v a2 n2 k2 m ya yn yc ds za zn zc es W hr h3 h4 h5 h6 h7 hb1 hb2 hb3 hb4 (fun hh => absurd (hh.1.symm.trans h1) (by simp)))
  rw [h1] at I1
  clear hT hU hY hW
  go_enter Tryd.func7, Tryd.ntmps7
  go_wp2_with (refine wpList_load_blk rfl 23 _ rfl (w.heap.size) rfl _ 23 Kr.out _ Tryd.underlying23 rfl 32 size_digest hr.size ?_)
  refine (VV.out _ (HT.out.below Hb.out) (HU.out.below Hb.out) (HY.out.below Hb.out) (HW.out.below Hb.out) (Htab.out.below Hb.out)).mono ?_
  rintro e w1 ⟨rfl, bw1⟩
  have HBw1 := hid (Below.on Hb.out bw1)
  have hsw1 := HBw1.out.size
  have Krw1 := hid (Kr.out.below bw1)
  clear bw1
  go_wp2_with (refine wpList_load_blk rfl 23 _ rfl (w.heap.size) rfl _ 23 Krw1.out _ Tryd.underlying23 rfl 32 size_digest hr.size ?_)
  refine (I1.out _ (HT.out.below HBw1.out) (HY.out.below HBw1.out) (Htab.out.below HBw1.out)).mono ?_
  rintro e w2 ⟨rfl, bw2⟩
  have HBw2 := hid (Below.on HBw1.out bw2)
  have hsw2 := HBw2.out.size
  have Krw2 := hid (Krw1.out.below bw2)
  clear bw2
  go_wp2_with fail
  refine (lnone_yes _).mono ?_
  rintro e w3 ⟨rfl, bw3⟩
  have HBw3 := hid (Below.on HBw2.out bw3)
  have hsw3 := HBw3.out.size
  have Krw3 := hid (Krw2.out.below bw3)
  clear bw3
  go_wp2_with fail
  refine (knows23 _ (Htab.out.below HBw3.out)).mono ?_
  rintro e w4 ⟨rfl, bw4⟩
  have HBw4 := hid (Below.on HBw3.out bw4)
  have hsw4 := HBw4.out.size
  have Krw4 := hid (Krw3.out.below bw4)
  clear bw4
  go_wp2_with fail
  go_returns
  exact ⟨by first | rfl | simp, HBw4.out⟩
set_option maxHeartbeats 4000000 in
theorem extractTexts_any (r : List Int) (n i : Int) (a1 : Option Addr) (n1 k1 : Nat) (v : List Int) (a2 : Option Addr) (n2 k2 : Nat) (m : List Int) (ya : Option Addr) (yn yc : Nat) (ds : List (List Int)) (za : Option Addr) (zn zc : Nat) (es : List (List Int)) (w : World) (hr : Dg r) (hT : TextAt w a1 n1 k1 v) (hU : TextAt w a2 n2 k2 m) (hY : DigsAt w ya yn yc ds) (hW : DigsAt w za zn zc es) (tab : ShaTab w)  :
    Calls Tryd.prog 7 #[.agg (r.map (Value.int .u8)).toArray, .int .i64 n, .int .i64 i, .slice a1 n1 k1, .slice a2 n2 k2, .slice ya yn yc, .slice za zn zc] w fun e w' => e = .returned (.bool true) ∧ Below w.heap.size w w' := by
  rcases Nat.lt_or_ge 1000 n1 with h | h0
  · exact extexts_far0 r n i a1 n1 k1 v a2 n2 k2 m ya yn yc ds za zn zc es w hr hT hU hY hW tab h
  rcases Nat.lt_or_ge 1000 n2 with h | h1
  · exact extexts_far1 r n i a1 n1 k1 v a2 n2 k2 m ya yn yc ds za zn zc es w hr hT hU hY hW tab h0 h
  rcases Nat.lt_or_ge 40 yn with h | h2
  · exact extexts_far2 r n i a1 n1 k1 v a2 n2 k2 m ya yn yc ds za zn zc es w hr hT hU hY hW tab h0 h1 h
  rcases Nat.lt_or_ge 40 zn with h | h3
  · exact extexts_far3 r n i a1 n1 k1 v a2 n2 k2 m ya yn yc ds za zn zc es w hr hT hU hY hW tab h0 h1 h2 h
  cases q1 : isHold r n i v ds with
  | false => exact extexts_first r n i a1 n1 k1 v a2 n2 k2 m ya yn yc ds za zn zc es w hr hT hU hY hW tab h0 h1 h2 h3 q1
  | true =>
    cases q2 : isHold r n i m es with
    | false => exact extexts_second r n i a1 n1 k1 v a2 n2 k2 m ya yn yc ds za zn zc es w hr hT hU hY hW tab h0 h1 h2 h3 q1 q2
    | true =>
      by_cases he : v = m
      · exact extexts_same r n i a1 n1 k1 v a2 n2 k2 m ya yn yc ds za zn zc es w hr hT hU hY hW tab h0 h1 h2 h3 q1 q2 he
      · exact extexts_good r n i a1 n1 k1 v a2 n2 k2 m ya yn yc ds za zn zc es w hr hT hU hY hW tab h0 h1 h2 h3 q1 q2 he
end Go.Proofs.YtkakoiaahgchmaaDoor
