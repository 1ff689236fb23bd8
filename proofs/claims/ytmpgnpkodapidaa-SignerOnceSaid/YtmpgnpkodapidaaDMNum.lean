/-
  Number, RefNumber, AppendZ: one text.
-/
import Derived.Test.YtmpgnpkodapidaaDMBase
import Derived.Test.YtmpgnpkodapidaaDMText
import Derived.Lib.AppendZerosOnto
namespace Go.Proofs.Ytmpgnpkodapidaa
open Go.ChangeShapes Go.WideShapes Go.ChangeAt Go.RowKit

set_option maxRecDepth 100000 in
theorem info_byte : (Try.prog.info? 5).map (fun i => (i.zero, i.size, i.bytes)) = some (some (.int .u8 0), 1, 1) := by kernel_rfl

set_option maxRecDepth 100000 in
/-- A row that the call owns, as a block. -/
theorem blk_of_owns {w : World} {base e g n : Nat} {xs : List Value} (h : w.ownsRow base e 1 (.slice (some ⟨g, 0, none⟩) n n) n xs) : base ≤ g ∧ Blk w g xs.toArray e := by
  obtain ⟨hl, h | ⟨g', cap', cur, hv, hg, hh, _, _, hs, htk⟩⟩ := h
  · simp at h
  · simp only [Value.slice.injEq, Option.some.injEq, Addr.mk.injEq, true_and, and_true] at hv
    obtain ⟨rfl, rfl⟩ := hv
    refine ⟨hg, ?_⟩
    have : cur = xs.toArray := by
      rw [← htk, List.take_of_length_le (by simp [hs])]
    rw [← this]; exact hh

set_option maxRecDepth 100000 in
theorem number_step (j m : Nat) (n0 : Int) : ((List.replicate (m + 1) 0 ++ be j n0).set m (n0 / (256 : Int) ^ j % 256)) = List.replicate m 0 ++ be (j + 1) n0 := by
  rw [replicate_set, be_front]

set_option maxRecDepth 100000 in
theorem be_done : ∀ (m j : Nat) (n0 : Int), 0 ≤ n0 → n0 / (256 : Int) ^ j = 0 → be (j + m) n0 = List.replicate m 0 ++ be j n0
  | 0, j, n0, _, _ => by simp
  | m + 1, j, n0, h0, h => by
    have hz : n0 / (256 : Int) ^ (j + m) = 0 := by
      rw [Int.pow_add, ← Int.ediv_ediv_of_nonneg (Int.le_of_lt (Int.pow_pos (by omega))), h, Int.zero_ediv]
    rw [← Nat.add_assoc, be_front, hz, be_done m j n0 h0 h, List.replicate_succ]
    simp

set_option maxRecDepth 100000 in
theorem made_zeros (k : Nat) (n0 : Int) : (madeCells #[Value.int IntKind.u8 0] k).toList = (List.replicate k 0 ++ be 0 n0).map (Value.int .u8) := by
  apply List.ext_getElem?
  intro j
  simp only [madeCells, be, List.append_nil, List.map_replicate]
  rcases Nat.lt_or_ge j k with h | h
  · simp [h, Nat.mod_one]
  · simp [h]

set_option maxRecDepth 100000 in
set_option maxHeartbeats 2000000 in
theorem number_any (n0 : Int) (size : Int) (k : Nat) (w : World) (h0 : 0 ≤ n0) (h1 : n0 < 18446744073709551616) (hk : max 0 (min size 64) = (k : Int)) :
    Calls Try.prog 61 #[.int .u64 n0, .int .i64 size] w fun e w' => ∃ g, w.heap.size ≤ g ∧ e = .returned (.slice (some ⟨g, 0, none⟩) k k) ∧ Below w.heap.size w w' ∧ Blk w' g ((be k n0).map (Value.int .u8)).toArray 5 := by
  obtain ⟨i0, hi, hz0, hz1, hz2⟩ := info_parts info_byte
  have hk64 : k ≤ 64 := by omega
  have hc : size ≤ 0 ∨ (0 < size ∧ size ≤ 64) ∨ 64 < size := by omega
  have Hk := hid hk
  clear hk
  rcases hc with hc | ⟨hc, hc'⟩ | hc
  all_goals
    go_enter Try.func61, Try.ntmps61
    go_wp2_with (at_make; refine wpList_make_full _ rfl _ _ 31 rfl w.heap.size 5 i0 (.int .u8 0) 1 Try.underlying31 hi hz0 hz1 _ _ _ _ k rfl rfl ?a1 ?a2 ?a3 ?a4 ?a5 ?_)
    case a1 => have := Hk.out; omega
    case a2 => have := Hk.out; omega
    case a3 => rw [hz2]; omega
    case a4 => unfold maxLen; omega
    case a5 => exact Nat.le_refl _
    intro w0 hown hgrow
    obtain ⟨_, kB⟩ := blk_of_owns hown
    have bel : Below w.heap.size w w0 := (Below.refl _ _).grown hgrow (Nat.le_refl _) (fun _ h => by cases h)
    rw [made_zeros k n0] at kB
    clear hown hgrow hc
    generalize hg : w.heap.size = g at kB ⊢
    have hge : w.heap.size ≤ g := Nat.le_of_eq hg
    go_wp2_with fail
    clear hg
    go_loopw [0, 6] (fun n i wr => ∃ j : Int, -1 ≤ j ∧ j < (k : Int) ∧ i = .int .i64 j ∧ n = .int .u64 (n0 / (256 : Int) ^ (k - (j + 1).toNat)) ∧ Blk wr g ((List.replicate (j + 1).toNat 0 ++ be (k - (j + 1).toNat) n0).map (Value.int .u8)).toArray 5 ∧ Below w.heap.size w wr) (fun _ i _ => (intOf i + 1).toNat)
    case atStart => exact ⟨(k : Int) - 1, by omega, by omega, rfl, by simp, by simpa using kB, bel⟩
    case round =>
      clear kB bel
      obtain ⟨j, hj0, hj1, rfl, rfl, kB, bel⟩ := hrel
      have hq0 : 0 ≤ n0 / (256 : Int) ^ (k - (j + 1).toNat) := Int.ediv_nonneg h0 (Int.pow_nonneg (by omega))
      have hq1 : n0 / (256 : Int) ^ (k - (j + 1).toNat) < 18446744073709551616 := Int.lt_of_le_of_lt (Int.ediv_le_self _ h0) h1
      by_cases hj : j < 0
      · have hfin : (List.replicate (j + 1).toNat 0 ++ be (k - (j + 1).toNat) n0) = be k n0 := by
          rw [show (j + 1).toNat = 0 by omega]; simp
        rw [hfin] at kB
        clear hfin
        generalize n0 / (256 : Int) ^ (k - (j + 1).toNat) = q at *
        go_wp2
        go_ret
        exact ⟨g, hge, rfl, bel, kB⟩
      · by_cases hq : n0 / (256 : Int) ^ (k - (j + 1).toNat) = 0
        · have hfin : (List.replicate (j + 1).toNat 0 ++ be (k - (j + 1).toNat) n0) = be k n0 := by
            have := be_done (j + 1).toNat (k - (j + 1).toNat) n0 h0 hq
            rw [← this]; congr 1; omega
          rw [hfin] at kB
          rw [hq]
          clear hfin hq hq0 hq1
          have hj : 0 ≤ j := by omega
          go_wp2
          go_ret
          exact ⟨g, hge, rfl, bel, kB⟩
        · have hst : (List.replicate (j + 1).toNat 0 ++ be (k - (j + 1).toNat) n0).set j.toNat (n0 / (256 : Int) ^ (k - (j + 1).toNat) % 256) = List.replicate (j - 1 + 1).toNat 0 ++ be (k - (j - 1 + 1).toNat) n0 := by
            rw [show List.replicate (j + 1).toNat (0 : Int) = List.replicate (j.toNat + 1) 0 by congr 1; omega, number_step, show List.replicate j.toNat (0 : Int) = List.replicate (j - 1 + 1).toNat 0 by congr 1; omega, show k - (j + 1).toNat + 1 = k - (j - 1 + 1).toNat by omega]
          have hdiv : n0 / (256 : Int) ^ (k - (j + 1).toNat) / 256 = n0 / (256 : Int) ^ (k - (j - 1 + 1).toNat) := by
            rw [Int.ediv_ediv_of_nonneg (Int.pow_nonneg (by omega)), ← Int.pow_succ]
            congr 2; omega
          have c1 : wr.cell? ⟨g, j.toNat, none⟩ = some (.int .u8 0) := by
            rw [kB.cell, List.map_append, List.getElem?_toArray, List.getElem?_append_left (by simp; omega), List.map_replicate, List.getElem?_replicate, if_pos (by omega)]
          have f1 := kB.free
          have hqp : 0 < n0 / (256 : Int) ^ (k - (j + 1).toNat) := by omega
          have Hdiv := hid hdiv
          have kB' := kB.set j.toNat (.int .u8 (n0 / (256 : Int) ^ (k - (j + 1).toNat) % 256))
          rw [List.setIfInBounds_toArray, ← List.map_set, hst] at kB'
          clear hst hdiv hq kB
          generalize n0 / (256 : Int) ^ (k - (j + 1).toNat) = q at *
          have hj : 0 ≤ j := by omega
          go_wp2
          refine ⟨⟨j - 1, by omega, by omega, rfl, by rw [← Hdiv.out], kB', bel.setCell (p := ⟨g, j.toNat, none⟩) hge _⟩, by simp [intOf]; omega⟩
end Go.Proofs.Ytmpgnpkodapidaa

namespace Go.Proofs.Ytmpgnpkodapidaa
open Go.ChangeShapes Go.WideShapes Go.ChangeAt Go.RowKit

end Go.Proofs.Ytmpgnpkodapidaa

namespace Go.Proofs.Ytmpgnpkodapidaa
open Go.RowKit

set_option maxRecDepth 100000 in
theorem zeroCells_bytes (k : Nat) : (Builtin.zeroCells (Value.int .u8 0).cells k).toList = (List.replicate k (0 : Int)).map (Value.int .u8) := by
  apply List.ext_getElem?
  intro j
  simp only [Builtin.zeroCells, Array.toList_map, Array.toList_range]
  have hs : (Value.int IntKind.u8 0).cells.size = 1 := rfl
  rcases Nat.lt_or_ge j k with h | h
  · rw [List.getElem?_map, List.getElem?_range (by rw [hs]; omega), List.map_replicate, List.getElem?_replicate, if_pos h, Option.map_some, hs, Nat.mod_one]
    rfl
  · rw [List.getElem?_eq_none (by rw [List.length_map, List.length_range, hs]; omega), List.getElem?_eq_none (by simpa using h)]

section
variable {P : Program} {w : World} {base : Nat} {t tn e : TypeId} {i : TypeInfo} {v : Value} {bs : List Int}
set_option maxRecDepth 100000 in
theorem run_append_zeros (ty : TypeId) (ht : P.underlying t = some (.slice e)) (htn : P.underlying tn = some (.int .i64)) (hi : P.info? e = some i) (hz : i.zero = some (.int .u8 0)) (hsize : i.size = 1) (hby : i.bytes = 1) (hown : OwnB w base e v bs)
    (k : Nat) (hb : bs.length + k ≤ 140737488355328) (hbase : base ≤ w.heap.size) :
    ∃ v' w', (Builtin.append_ #[t, tn] ty #[v, .int .i64 k]).run P w = .ok v' w' ∧ OwnB w' base e v' (bs ++ List.replicate k 0) ∧ w.grownBy w' v.ownBlock ∧ Below base w w' := by
  have hsm : ∀ x ∈ bs ++ List.replicate k 0, 0 ≤ x ∧ x < 256 := fun x hx => by
    rw [List.mem_append] at hx
    exact hx.elim (hown.small x) (fun h => by have := List.eq_of_mem_replicate h; omega)
  have hbel : ∀ {w' : World}, w.grownBy w' v.ownBlock → Below base w w' := fun hg => ⟨hg.os, hg.tape, hg.output, hg.size, fun k hk => hg.block k (by omega) (fun e => by have := (hown.lt k e.symm).1; omega)⟩
  have hw : IntKind.i64.wrap (k : Int) = k := by rw [IntKind.wrap_i64]; omega
  have hneg : ¬ ((k : Int) < 0) := by omega
  have h48i : ¬ (281474976710656 < (k : Int)) := by omega
  have hzs := zeroCells_bytes k
  have hself : w.grownBy w v.ownBlock := ⟨rfl, rfl, rfl, Nat.le_refl _, fun _ _ _ => rfl⟩
  -- a new row
  have hnew : ∀ (olds : List Value) (old : Nat), olds = bs.map (Value.int .u8) → 
      OwnB (w.drew.alloc (.cells (olds.toArray ++ Builtin.zeroCells (Value.int .u8 0).cells k ++ Builtin.zeroCells (Value.int .u8 0).cells (grownCap w (bs.length + k) old e - (bs.length + k))) e)) base e (.slice (some ⟨w.heap.size, 0, none⟩) (bs.length + k) (grownCap w (bs.length + k) old e)) (bs ++ List.replicate k 0) ∧
      w.grownBy (w.drew.alloc (.cells (olds.toArray ++ Builtin.zeroCells (Value.int .u8 0).cells k ++ Builtin.zeroCells (Value.int .u8 0).cells (grownCap w (bs.length + k) old e - (bs.length + k))) e)) v.ownBlock := by
    intro olds old ho
    have hge := grownCap_ge w (bs.length + k) old e
    have hcm : grownCap w (bs.length + k) old e ≤ maxLen := grownCap_le_maxLen w (bs.length + k) old e (by unfold maxLen; omega)
    refine ⟨⟨⟨by simp, .inr ⟨w.heap.size, _, _, by simp, hbase, heap_alloc_new w.drew _, by simpa using hge, hcm, ?_, ?_⟩⟩, hsm⟩, ⟨rfl, rfl, rfl, by simp, fun k hk _ => heap_alloc_old w.drew _ hk⟩⟩
    · have h1 : (Value.int IntKind.u8 0).cells.size = 1 := rfl
      simp only [Array.size_append, List.size_toArray, size_zeroCells, ho, List.length_map, h1]
      omega
    · simp only [Array.toList_append, hzs, ho, List.append_assoc]
      rw [← List.append_assoc, ← List.map_append]
      rw [List.take_append_of_le_length (by simp)]
      exact List.take_of_length_le (by simp)
  have hw0 : IntKind.i64.wrap 0 = 0 := rfl
  have hown' := hown
  obtain ⟨⟨hl1, ⟨rfl, h0⟩ | ⟨g, cap, cur, rfl, hg, hh, hnc, hmx, hcs, htk⟩⟩, hs⟩ := hown
  · obtain rfl := List.eq_nil_of_length_eq_zero h0
    rcases Nat.eq_zero_or_pos k with rfl | hk
    · refine ⟨.slice none 0 0, w, ?_, by simpa using OwnB.nil w base e, hself, hbel hself⟩
      simp [Builtin.append_, run_underlying ht, run_underlying htn, sizeOf, typeInfo, hi, asInt, asIntOf, hw0]
    · have hr := Lib.run_append_nil_zeros (P := P) w t tn ty e i (.int .u8 0) .i64 .i64 ht htn hi hz k hk (by omega) (by omega) (by rw [hby]; simp at hb; omega)
      obtain ⟨n1, n2⟩ := hnew [] 0 rfl
      exact ⟨_, _, hr, by simpa using n1, by simpa using n2, hbel (by simpa using n2)⟩
  · by_cases hk : k = 0
    · subst hk
      refine ⟨_, w, ?_, by simpa using hown', hself, hbel hself⟩
      have hnc' : bs.length ≤ cap := hnc
      simp [Builtin.append_, run_underlying ht, run_underlying htn, sizeOf, typeInfo, hi, asInt, asIntOf, hw0, hnc', storeCells]
    by_cases hroom : bs.length + k ≤ cap
    · have hlz : (List.replicate k (Value.int IntKind.u8 0)).length = k := by simp
      have hst := run_storeCells_at P g bs.length e (List.replicate k (Value.int IntKind.u8 0)) 0 cur w hh (by simp only [hlz]; omega) (fun u hu => by have := List.eq_of_mem_replicate hu; subst this; rfl)
      simp only [Nat.add_zero, hlz, List.append_assoc] at hst
      have hgr : w.grownBy (w.setRow g (cur.toList.take bs.length ++ (List.replicate k (Value.int IntKind.u8 0) ++ cur.toList.drop (bs.length + k))).toArray) (Value.ownBlock (.slice (some ⟨g, 0, none⟩) bs.length cap)) :=
        ⟨rfl, rfl, rfl, by simp, fun k _ hk => setRow_other w g k _ (fun e => hk (by simp [Value.ownBlock, e]))⟩
      have hzs2 : (Builtin.zeroCells (Value.int .u8 0).cells k).toList = List.replicate k (Value.int IntKind.u8 0) := by rw [hzs, List.map_replicate]
      have htk' : cur.toList.take bs.length = bs.map (Value.int .u8) := by simpa using htk
      refine ⟨.slice (some ⟨g, 0, none⟩) (bs.length + k) cap, _, ?_, ⟨⟨by simp, .inr ⟨g, cap, _, by simp, hg, setRow_heap w g cur _ e _ hh, by simpa using hroom, hmx, ?_, ?_⟩⟩, hsm⟩, hgr, hbel hgr⟩
      · simp [Builtin.append_, run_underlying ht, run_underlying htn, sizeOf, typeInfo, zeroValue, hi, hz, asInt, asIntOf, hw, hneg, h48i, hsize, hby, hroom, hk, hzs2, Addr.add_lit, hst]
      · simp; omega
      · rw [htk']
        simp only [Nat.mul_one, List.map_append, List.map_replicate]
        rw [← List.append_assoc]
        exact List.take_left' (by simp)
    · have hold : (Builtin.firstCells i.size bs.length (.slice (some ⟨g, 0, none⟩) bs.length cap)).run P w.drew = .ok (bs.map (Value.int .u8)).toArray w.drew := by
        have holds : ∀ j u, (bs.map (Value.int .u8))[j]? = some u → w.cell? ((⟨g, 0, none⟩ : Addr).add j) = some u := fun j u hu => by
          rw [Addr.add_mid, Nat.zero_add, (show Blk w g cur e from hh).cell]
          rw [← htk, List.getElem?_take] at hu
          split at hu
          · simpa using hu
          · cases hu
        exact run_firstCells_some (P := P) w.drew i.size bs.length ⟨g, 0, none⟩ bs.length cap _ (by simp [hsize]) (by simpa using holds)
      have hr := Lib.run_append_grow_zeros (P := P) w t tn ty e i (.int .u8 0) .i64 .i64 ht htn hi hz (some ⟨g, 0, none⟩) bs.length cap (bs.map (Value.int .u8)) hold k (by omega) (by omega) (by omega) (by omega) (by rw [hby]; omega) (growslice_fits (by omega) (by rw [hby]; omega))
      obtain ⟨n1, n2⟩ := hnew (bs.map (Value.int .u8)) cap rfl
      exact ⟨_, _, hr, n1, n2, hbel n2⟩
end
end Go.Proofs.Ytmpgnpkodapidaa
