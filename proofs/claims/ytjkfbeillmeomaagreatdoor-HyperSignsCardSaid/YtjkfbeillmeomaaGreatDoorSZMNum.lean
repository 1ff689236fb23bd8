/-
  Number, RefNumber, AppendZ: one text.
-/
import Derived.Test.YtjkfbeillmeomaaGreatDoorSZMBase
import Derived.Test.YtjkfbeillmeomaaGreatDoorSZMText
import Derived.Lib.AppendZerosOnto
namespace Go.Proofs.YtjkfbeillmeomaaGreatDoor
set_option maxRecDepth 100000
open Go.ChangeShapes Go.WideShapes Go.ChangeAt Go.RowKit
theorem info_byte : (Tryz.prog.info? 5).map (fun i => (i.zero, i.size, i.bytes)) = some (some (.int .u8 0), 1, 1) := by kernel_rfl
/-- A row that the call owns, as a block. -/
theorem blk_of_owns {w : World} {base e g n : Nat} {xs : List Value} (h : w.ownsRow base e 1 (.slice (some ⟨g, 0, none⟩) n n) n xs) : base ≤ g ∧ Blk w g xs.toArray e := by
  obtain ⟨hl, h | ⟨g', cap', cur, hv, hg, hh, _, _, hs, htk⟩⟩ := h
  · simp at h
  · simp only [Value.slice.injEq, Option.some.injEq, Addr.mk.injEq, true_and, and_true] at hv
    obtain ⟨rfl, rfl⟩ := hv
    refine ⟨hg, ?_⟩
    have : cur = xs.toArray := by
      rw [← htk, List.take_of_length_le (by simp [hs])]
    rw [← this]; exact hh
theorem number_step (j m : Nat) (n0 : Int) : ((List.replicate (m + 1) 0 ++ be j n0).set m (n0 / (256 : Int) ^ j % 256)) = List.replicate m 0 ++ be (j + 1) n0 := by
  rw [replicate_set, be_front]
theorem be_done : ∀ (m j : Nat) (n0 : Int), 0 ≤ n0 → n0 / (256 : Int) ^ j = 0 → be (j + m) n0 = List.replicate m 0 ++ be j n0
  | 0, j, n0, _, _ => by simp
  | m + 1, j, n0, h0, h => by
    have hz : n0 / (256 : Int) ^ (j + m) = 0 := by
      rw [Int.pow_add, ← Int.ediv_ediv_of_nonneg (Int.le_of_lt (Int.pow_pos (by omega))), h, Int.zero_ediv]
    rw [← Nat.add_assoc, be_front, hz, be_done m j n0 h0 h, List.replicate_succ]
    simp
theorem made_zeros (k : Nat) (n0 : Int) : (madeCells #[Value.int IntKind.u8 0] k).toList = (List.replicate k 0 ++ be 0 n0).map (Value.int .u8) := by
  apply List.ext_getElem?
  intro j
  simp only [madeCells, be, List.append_nil, List.map_replicate]
  rcases Nat.lt_or_ge j k with h | h
  · simp [h, Nat.mod_one]
  · simp [h]
set_option maxHeartbeats 2000000 in
theorem number_any (n0 : Int) (size : Int) (k : Nat) (w : World) (h0 : 0 ≤ n0) (h1 : n0 < 18446744073709551616) (hk : max 0 (min size 64) = (k : Int)) :
    Calls Tryz.prog 19 #[.int .u64 n0, .int .i64 size] w fun e w' => ∃ g, w.heap.size ≤ g ∧ e = .returned (.slice (some ⟨g, 0, none⟩) k k) ∧ Below w.heap.size w w' ∧ Blk w' g ((be k n0).map (Value.int .u8)).toArray 5 := by
  obtain ⟨i0, hi, hz0, hz1, hz2⟩ := info_parts info_byte
  have hk64 : k ≤ 64 := by omega
  have hc : size ≤ 0 ∨ (0 < size ∧ size ≤ 64) ∨ 64 < size := by omega
  have Hk := hid hk
  clear hk
  rcases hc with hc | ⟨hc, hc'⟩ | hc
  all_goals
    go_enter Tryz.func19, Tryz.ntmps19
    go_wp2_with (at_make; refine wpList_make_full _ rfl _ _ 44 rfl w.heap.size 5 i0 (.int .u8 0) 1 Tryz.underlying44 hi hz0 hz1 _ _ _ _ k rfl rfl ?a1 ?a2 ?a3 ?a4 ?a5 ?_)
    case a1 => have := Hk.out; omega
    case a2 => have := Hk.out; omega
    case a3 => rw [hz2]; omega
    case a4 => unfold maxLen; omega
    case a5 => exact Nat.le_refl _
    intro w0 hown hgrow
    obtain ⟨_, kB⟩ := blk_of_owns hown
    have bel : Below w.heap.size w w0 := (Below.refl _ _).grown hgrow (Nat.le_refl _) (fun _ h => by cases h)
    rw [made_zeros k n0] at kB
    clear hown hgrow hc
    generalize hg : w.heap.size = g at kB ⊢
    have hge : w.heap.size ≤ g := Nat.le_of_eq hg
    go_wp2_with fail
    clear hg
    go_loopw [0, 6] (fun n i wr => ∃ j : Int, -1 ≤ j ∧ j < (k : Int) ∧ i = .int .i64 j ∧ n = .int .u64 (n0 / (256 : Int) ^ (k - (j + 1).toNat)) ∧ Blk wr g ((List.replicate (j + 1).toNat 0 ++ be (k - (j + 1).toNat) n0).map (Value.int .u8)).toArray 5 ∧ Below w.heap.size w wr) (fun _ i _ => (intOf i + 1).toNat)
    case atStart => exact ⟨(k : Int) - 1, by omega, by omega, rfl, by simp, by simpa using kB, bel⟩
    case round =>
      clear kB bel
      obtain ⟨j, hj0, hj1, rfl, rfl, kB, bel⟩ := hrel
      have hq0 : 0 ≤ n0 / (256 : Int) ^ (k - (j + 1).toNat) := Int.ediv_nonneg h0 (Int.pow_nonneg (by omega))
      have hq1 : n0 / (256 : Int) ^ (k - (j + 1).toNat) < 18446744073709551616 := Int.lt_of_le_of_lt (Int.ediv_le_self _ h0) h1
      by_cases hj : j < 0
      · have hfin : (List.replicate (j + 1).toNat 0 ++ be (k - (j + 1).toNat) n0) = be k n0 := by
          rw [show (j + 1).toNat = 0 by omega]; simp
        rw [hfin] at kB
        clear hfin
        generalize n0 / (256 : Int) ^ (k - (j + 1).toNat) = q at *
        go_wp2
        go_ret
        exact ⟨g, hge, rfl, bel, kB⟩
      · by_cases hq : n0 / (256 : Int) ^ (k - (j + 1).toNat) = 0
        · have hfin : (List.replicate (j + 1).toNat 0 ++ be (k - (j + 1).toNat) n0) = be k n0 := by
            have := be_done (j + 1).toNat (k - (j + 1).toNat) n0 h0 hq
            rw [← this]; congr 1; omega
          rw [hfin] at kB
          rw [hq]
          clear hfin hq hq0 hq1
          have hj : 0 ≤ j := by omega
          go_wp2
          go_ret
          exact ⟨g, hge, rfl, bel, kB⟩
        · have hst : (List.replicate (j + 1).toNat 0 ++ be (k - (j + 1).toNat) n0).set j.toNat (n0 / (256 : Int) ^ (k - (j + 1).toNat) % 256) = List.replicate (j - 1 + 1).toNat 0 ++ be (k - (j - 1 + 1).toNat) n0 := by
            rw [show List.replicate (j + 1).toNat (0 : Int) = List.replicate (j.toNat + 1) 0 by congr 1; omega, number_step, show List.replicate j.toNat (0 : Int) = List.replicate (j - 1 + 1).toNat 0 by congr 1; omega, show k - (j + 1).toNat + 1 = k - (j - 1 + 1).toNat by omega]
          have hdiv : n0 / (256 : Int) ^ (k - (j + 1).toNat) / 256 = n0 / (256 : Int) ^ (k - (j - 1 + 1).toNat) := by
            rw [Int.ediv_ediv_of_nonneg (Int.pow_nonneg (by omega)), ← Int.pow_succ]
            congr 2; omega
          have c1 : wr.cell? ⟨g, j.toNat, none⟩ = some (.int .u8 0) := by
            rw [kB.cell, List.map_append, List.getElem?_toArray, List.getElem?_append_left (by simp; omega), List.map_replicate, List.getElem?_replicate, if_pos (by omega)]
          have f1 := kB.free
          have hqp : 0 < n0 / (256 : Int) ^ (k - (j + 1).toNat) := by omega
          have Hdiv := hid hdiv
          have kB' := kB.set j.toNat (.int .u8 (n0 / (256 : Int) ^ (k - (j + 1).toNat) % 256))
          rw [List.setIfInBounds_toArray, ← List.map_set, hst] at kB'
          clear hst hdiv hq kB
          generalize n0 / (256 : Int) ^ (k - (j + 1).toNat) = q at *
          have hj : 0 ≤ j := by omega
          go_wp2
          refine ⟨⟨j - 1, by omega, by omega, rfl, by rw [← Hdiv.out], kB', bel.setCell (p := ⟨g, j.toNat, none⟩) hge _⟩, by simp [intOf]; omega⟩
end Go.Proofs.YtjkfbeillmeomaaGreatDoor
namespace Go.Proofs.YtjkfbeillmeomaaGreatDoor
set_option maxRecDepth 100000
open Go.ChangeShapes Go.WideShapes Go.ChangeAt Go.RowKit
set_option maxHeartbeats 2000000 in
theorem refnumber_own (n0 x : Int) (k : Nat) (w : World) (h0 : 0 ≤ n0) (h1 : n0 < 18446744073709551616) (hx : x = (k : Int)) (hk : k ≤ 64) :
    Calls Tryz.prog 26 #[.int .u64 n0, .int .i64 x] w fun e w' => ∃ v, e = .returned v ∧ Below w.heap.size w w' ∧ OwnB w' w.heap.size 5 v (be k n0) := by
  obtain ⟨i0, hi, hz0, hz1, hz2⟩ := info_parts info_byte
  subst hx
  go_enter Tryz.func26, Tryz.ntmps26
  go_wp2
  go_loopw [0, 5, 6] (fun n v i wr => ∃ j : Nat, j ≤ k ∧ i = .int .i64 j ∧ n = .int .u64 (n0 / (256 : Int) ^ j) ∧ OwnB wr w.heap.size 5 v (be j n0) ∧ Below w.heap.size w wr) (fun _ _ i _ => k - (intOf i).toNat)
  case atStart => exact ⟨0, by omega, rfl, by simp, OwnB.nil _ _ _, Below.refl _ _⟩
  case round =>
    obtain ⟨j, hj, rfl, rfl, hown, bel⟩ := hrel
    have hq0 : 0 ≤ n0 / (256 : Int) ^ j := Int.ediv_nonneg h0 (Int.pow_nonneg (by omega))
    have hq1 : n0 / (256 : Int) ^ j < 18446744073709551616 := Int.lt_of_le_of_lt (Int.ediv_le_self _ h0) h1
    by_cases hlt : j < k
    · have Hdiv := hid (show n0 / (256 : Int) ^ j / 256 = n0 / (256 : Int) ^ (j + 1) by
        rw [Int.ediv_ediv_of_nonneg (Int.pow_nonneg (by omega)), ← Int.pow_succ])
      have HB := hid (be_front j n0)
      generalize n0 / (256 : Int) ^ j = q at *
      obtain ⟨ao, cap, rfl, hT, _⟩ := hown.text
      have hT := hT.below ((Below.refl _ _).alloc (Nat.le_refl _) (Obj.cells #[.int .u8 (q % 256)] 5))
      have kN : OwnB (wr.alloc (Obj.cells #[.int .u8 (q % 256)] 5)) w.heap.size 5 (.slice (some ⟨wr.heap.size, 0, none⟩) 1 1) [q % 256] :=
        OwnB.of_blk (Blk.new rfl _ _) bel.size rfl (by omega) (by simp; omega)
      have belN := bel.alloc bel.size (Obj.cells #[.int .u8 (q % 256)] 5)
      have Hlen := hid (be_length j n0)
      rw [Hlen.out] at hT
      rw [Hlen.out]
      clear hown bel
      go_wp2_with (at_builtin; refine wpList_append_text rfl _ _ rfl Tryz.underlying44 hi hz0 hz1 hz2 rfl kN rfl hT ?c1 ?c2 ?_)
      case c1 => simp; omega
      case c2 => exact belN.size
      intro v' w3 hown _ hb
      have hown : OwnB w3 w.heap.size 5 v' (be (j + 1) n0) := by rw [HB.out]; exact hown
      have bel := belN.trans hb
      clear hb belN kN hT
      go_wp2_with fail
      exact ⟨⟨j + 1, by omega, by go_num, by rw [Hdiv.out], hown, bel⟩, by simp [intOf]; omega⟩
    · obtain rfl : j = k := by omega
      generalize n0 / (256 : Int) ^ j = q at *
      go_wp2
      go_ret
      exact ⟨_, rfl, bel, hown⟩
end Go.Proofs.YtjkfbeillmeomaaGreatDoor
namespace Go.Proofs.YtjkfbeillmeomaaGreatDoor
set_option maxRecDepth 100000
open Go.RowKit
section
variable {P : Program} {w : World} {base : Nat} {t tn e : TypeId} {i : TypeInfo} {v : Value} {bs : List Int}
end
end Go.Proofs.YtjkfbeillmeomaaGreatDoor
