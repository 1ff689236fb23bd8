/-
  The statement DigitsOf: the walk of its text.
-/
import Derived.Test.YtkiaeepdpmcafaaDigitsRef
namespace Go.Proofs.Ytkiaeepdpmcafaa
open Go.ChangeShapes Go.WideShapes Go.ChangeAt Go.RowKit

theorem digits_small (ds : List Int) (hl : ds.length = 32) (hb : ∀ x ∈ ds, 0 ≤ x ∧ x < 256) (j : Nat) (hj : j < 67) : 0 ≤ (digits ds).getD j 0 ∧ (digits ds).getD j 0 ≤ 15 := by
  have hlen := digits_length ds hl
  have hm : (digits ds).getD j 0 ∈ digits ds := by
    rw [show (digits ds).getD j 0 = (digits ds)[j]'(by omega) by simp [show j < (digits ds).length by omega]]
    exact List.getElem_mem _
  generalize (digits ds).getD j 0 = x at *
  simp only [digits, List.mem_append, List.mem_cons, List.not_mem_nil, or_false] at hm
  rcases hm with h | h | h | h
  · exact dig_small ds hb x h
  all_goals omega

theorem of_long (ds : List Int) (a : Option Addr) (len cap : Nat) (w : World) (hlen : 1000 < len) (hm : len ≤ 9223372036854775807) :
    Calls Try.prog 3 #[ints .u8 ds, .slice a len cap] w fun e w' => e = .returned (.bool true) ∧ Below w.heap.size w w' := by
  unfold ints
  generalize (List.map (Value.int IntKind.u8) ds).toArray = A
  have h1 : (1000 : Int) < (len : Int) := by omega
  have bel : Below w.heap.size w (w.alloc (Obj.cells A 23)) := by go_grown
  go_enter Try.func3, Try.ntmps3
  go_wp2_with (go_at_call 13; refine (knows06 _).mono ?_; rintro e w5 ⟨rfl, b5⟩)
  go_ret
  exact ⟨rfl, bel.trans (b5.mono bel.size)⟩

set_option maxHeartbeats 2000000 in
set_option maxRecDepth 100000 in
theorem of_walk (ds : List Int) (hl : ds.length = 32) (hb : ∀ x ∈ ds, 0 ≤ x ∧ x < 256) (b off : Nat) (zs : List Int) (len cap : Nat) (w : World) (hzl : zs.length = len) (hlen : len ≤ 1000) (hbw : b < w.heap.size)
    (hc : ∀ i, i < len → w.cell? ⟨b, off + i, none⟩ = some (.int .i64 (zs.getD i 0))) :
    Calls Try.prog 3 #[ints .u8 ds, .slice (some ⟨b, off, none⟩) len cap] w fun e w' => e = .returned (.bool true) ∧ Below w.heap.size w w' := by
  have hoa := fun w => of_any ds hl hb w
  have hor := fun w => ref_of ds hl hb w
  have ld := digits_length ds hl
  have ia := ints_one .i64 (digits ds)
  have sa : (List.map (Value.int IntKind.u8) ds).toArray.size = 32 := by simp [hl]
  have da : (List.map (Value.int IntKind.i64) (digits ds)).toArray.size = 67 := by simp [ld]
  have ga : ∀ j, j < 67 → (List.map (Value.int IntKind.i64) (digits ds))[j]? = some (.int .i64 ((digits ds).getD j 0)) := by
    intro j hj; simp [show j < (digits ds).length by omega]
  have ga' : ∀ j, j < 67 → (List.map (Value.int IntKind.i64) (digits ds)).toArray[j]? = some (.int .i64 ((digits ds).getD j 0)) := by
    intro j hj; simp [show j < (digits ds).length by omega]
  have ga := hid ga
  have ga' := hid ga'
  have hsm := hid (digits_small ds hl hb)
  have hz := zero26
  have hc := hid hc
  unfold ints at *
  generalize List.map (Value.int IntKind.i64) (digits ds) = LD at *
  generalize (List.map (Value.int IntKind.u8) ds).toArray = A at *
  have sa := hid sa; have da := hid da
  have hzl := hid hzl
  clear ld hl hb
  have h1 : ¬ (1000 : Int) < (len : Int) := by omega
  have h1 : decide ((1000 : Int) < (len : Int)) = false := by simp; omega
  have kA : Blk (w.alloc (Obj.cells A 23)) w.heap.size A 23 := Blk.new rfl A 23
  have bel : Below w.heap.size w (w.alloc (Obj.cells A 23)) := by go_grown
  go_enter Try.func3, Try.ntmps3
  go_wp2_with (refine wpList_load_blk rfl 23 _ rfl w.heap.size rfl A 23 kA _ Try.underlying23 rfl 32 size23 sa.out ?_)
  refine (hoa _).mono ?_
  rintro e w1 ⟨rfl, b1⟩
  have kA := kA.below b1
  have nA : w.heap.size ≠ w1.heap.size := by have := kA.lt; omega
  have kA := kA.old (Obj.cells (zeros .i64 67) 26)
  have kX : Blk (w1.alloc (Obj.cells (zeros .i64 67) 26)) w1.heap.size (zeros .i64 67) 26 := Blk.new rfl _ _
  have bel := bel.trans (b1.mono bel.size)
  have hX0 := bel.size
  have bel := bel.alloc bel.size (Obj.cells (zeros .i64 67) 26)
  generalize hp : w1.heap.size = px at *
  clear b1
  have hz67 : (zeros IntKind.i64 67).size = 67 := by simp [zeros]
  have hz67 := hid hz67
  go_wp2_with (first | (refine wpList_store_blk rfl 26 _ _ rfl px LD.toArray rfl rfl _ 26 kX 67 size26 hz67.out da.out ia ?_; intro w2 hbut kX2) | (refine wpList_load_blk rfl 23 _ rfl w.heap.size rfl A 23 (hbut.blk kA nA) _ Try.underlying23 rfl 32 size23 sa.out ?_))
  have bel := hbut.below bel bel.size hX0
  clear hbut kX kA
  refine (hor _).mono ?_
  rintro e w3 ⟨g, gcap, rfl, b1, hown⟩
  have kX := kX2.below b1
  have bel := (bel.trans (b1.mono bel.size))
  have hY : ∃ cur, Blk w3 g cur 3 ∧ ∀ j, j < 67 → cur[j]? = some (.int .i64 ((digits ds).getD j 0)) := by
    obtain ⟨_, h | ⟨g', cap', cur, hv, hg, hh, _, _, _, htk⟩⟩ := hown
    · simp at h
    · simp only [Value.slice.injEq, Option.some.injEq, Addr.mk.injEq, true_and, and_true] at hv
      obtain ⟨rfl, rfl⟩ := hv
      refine ⟨cur, hh, fun j hj => ?_⟩
      have := ga.out j hj
      rw [← htk, List.getElem?_take, if_pos (by omega)] at this
      simpa using this
  obtain ⟨cur, kY, hcur⟩ := hY
  have hcur := hid hcur
  clear hown b1 kX2 hz hp hoa hor ia nA hX0 ga sa
  go_wp2_with fail
  go_loopw [7] (fun i wr => ∃ k : Nat, k ≤ 67 ∧ i = .int .i64 k ∧ Blk wr px LD.toArray 26 ∧ Blk wr g cur 3 ∧ Below w.heap.size w wr) (fun i _ => 67 - (intOf i).toNat)
  case atStart => exact ⟨0, by omega, rfl, kX, kY, bel⟩
  case round =>
    clear kX kY bel
    obtain ⟨k, hk, rfl, kX, kY, bel⟩ := hrel
    by_cases hlk : k < 67
    · have cx : wr.cell? ⟨px, k, none⟩ = some (.int .i64 ((digits ds).getD k 0)) := by rw [kX.cell]; exact ga'.out k hlk
      have cy : wr.cell? ⟨g, k, none⟩ = some (.int .i64 ((digits ds).getD k 0)) := by rw [kY.cell]; exact hcur.out k hlk
      obtain ⟨hs0, hs1⟩ := hsm.out k hlk
      generalize (digits ds).getD k 0 = x at *
      have hk0 : (0 : Int) ≤ (k : Int) := by omega
      have hk1 : (k : Int) < 67 := by omega
      have t1 : (x != x) = false := by simp
      have t2 : decide (x < 0) = false := by simp; omega
      have t3 : decide (15 < x) = false := by simp; omega
      go_wp2
      go_quiet (fail)
      go_wp2
      refine ⟨⟨k + 1, by omega, by go_num, kX, kY, ⟨bel.os, bel.tape, bel.output, bel.size, bel.block⟩⟩, by simp [intOf]; omega⟩
    · obtain rfl : k = 67 := by omega
      have hcr : ∀ i, i < len → wr.cell? ⟨b, off + i, none⟩ = some (.int .i64 (zs.getD i 0)) := fun i hi => by
        rw [bel.cell (p := ⟨b, off + i, none⟩) hbw]; exact hc.out i hi
      have hlk := lacks_row b off zs cap wr (by rw [hzl.out]; exact hlen) (by rw [hzl.out]; exact hcr)
      rw [hzl.out, ← lackSum_is] at hlk
      have hcr := hid hcr
      have hlk := hid hlk
      clear hc hcur hsm ga' kX kY
      go_wp2_with fail
      go_loop [8, 9] (fun n i => ∃ k : Nat, k ≤ len ∧ i = .int .i64 k ∧ n = .int .i64 (lackSum (zs.take k))) (fun _ i => len - (intOf i).toNat)
      case atStart => exact ⟨0, by omega, rfl, rfl⟩
      case round =>
        obtain ⟨k, hk, rfl, rfl⟩ := hrel
        by_cases hlt : k < len
        · have hck := hcr.out k hlt
          have HS := hid (take_snoc zs k (by rw [hzl.out]; exact hlt))
          have HL := hid (lackSum_snoc (zs.take k) (zs.getD k 0))
          generalize hs : lackSum (zs.take k) = s at *
          clear hs
          go_wp2
          go_round
          case rel => exact ⟨k + 1, by omega, by go_num, by rw [HS.out, HL.out]; simp [show k < zs.length by rw [hzl.out]; exact hlt]⟩
          case measure => simp [intOf]; omega
        · obtain rfl : k = len := by omega
          rw [List.take_of_length_le (by rw [hzl.out]; omega)]
          have hl0 := hlk.out
          generalize lackSum zs = s at *
          have t1 : (s == s) = true := by simp
          go_wp2_with (first | (go_at_call 16; refine hl0.mono ?_; rintro e w4 ⟨rfl, rfl⟩) | (go_at_call 13; refine (knows06 _).mono ?_; rintro e w5 ⟨rfl, b5⟩))
          go_ret
          exact ⟨rfl, bel.trans (b5.mono bel.size)⟩
set_option maxHeartbeats 2000000 in
set_option maxRecDepth 100000 in
theorem of_walk0 (ds : List Int) (hl : ds.length = 32) (hb : ∀ x ∈ ds, 0 ≤ x ∧ x < 256) (a : Option Addr) (cap : Nat) (w : World) :
    Calls Try.prog 3 #[ints .u8 ds, .slice a 0 cap] w fun e w' => e = .returned (.bool true) ∧ Below w.heap.size w w' := by
  have hoa := fun w => of_any ds hl hb w
  have hor := fun w => ref_of ds hl hb w
  have ld := digits_length ds hl
  have ia := ints_one .i64 (digits ds)
  have sa : (List.map (Value.int IntKind.u8) ds).toArray.size = 32 := by simp [hl]
  have da : (List.map (Value.int IntKind.i64) (digits ds)).toArray.size = 67 := by simp [ld]
  have ga : ∀ j, j < 67 → (List.map (Value.int IntKind.i64) (digits ds))[j]? = some (.int .i64 ((digits ds).getD j 0)) := by
    intro j hj; simp [show j < (digits ds).length by omega]
  have ga' : ∀ j, j < 67 → (List.map (Value.int IntKind.i64) (digits ds)).toArray[j]? = some (.int .i64 ((digits ds).getD j 0)) := by
    intro j hj; simp [show j < (digits ds).length by omega]
  have ga := hid ga
  have ga' := hid ga'
  have hsm := hid (digits_small ds hl hb)
  have hz := zero26
  unfold ints at *
  generalize List.map (Value.int IntKind.i64) (digits ds) = LD at *
  generalize (List.map (Value.int IntKind.u8) ds).toArray = A at *
  have sa := hid sa; have da := hid da
  clear ld hl hb
  have kA : Blk (w.alloc (Obj.cells A 23)) w.heap.size A 23 := Blk.new rfl A 23
  have bel : Below w.heap.size w (w.alloc (Obj.cells A 23)) := by go_grown
  go_enter Try.func3, Try.ntmps3
  go_wp2_with (refine wpList_load_blk rfl 23 _ rfl w.heap.size rfl A 23 kA _ Try.underlying23 rfl 32 size23 sa.out ?_)
  refine (hoa _).mono ?_
  rintro e w1 ⟨rfl, b1⟩
  have kA := kA.below b1
  have nA : w.heap.size ≠ w1.heap.size := by have := kA.lt; omega
  have kA := kA.old (Obj.cells (zeros .i64 67) 26)
  have kX : Blk (w1.alloc (Obj.cells (zeros .i64 67) 26)) w1.heap.size (zeros .i64 67) 26 := Blk.new rfl _ _
  have bel := bel.trans (b1.mono bel.size)
  have hX0 := bel.size
  have bel := bel.alloc bel.size (Obj.cells (zeros .i64 67) 26)
  generalize hp : w1.heap.size = px at *
  clear b1
  have hz67 : (zeros IntKind.i64 67).size = 67 := by simp [zeros]
  have hz67 := hid hz67
  go_wp2_with (first | (refine wpList_store_blk rfl 26 _ _ rfl px LD.toArray rfl rfl _ 26 kX 67 size26 hz67.out da.out ia ?_; intro w2 hbut kX2) | (refine wpList_load_blk rfl 23 _ rfl w.heap.size rfl A 23 (hbut.blk kA nA) _ Try.underlying23 rfl 32 size23 sa.out ?_))
  have bel := hbut.below bel bel.size hX0
  clear hbut kX kA
  refine (hor _).mono ?_
  rintro e w3 ⟨g, gcap, rfl, b1, hown⟩
  have kX := kX2.below b1
  have bel := (bel.trans (b1.mono bel.size))
  have hY : ∃ cur, Blk w3 g cur 3 ∧ ∀ j, j < 67 → cur[j]? = some (.int .i64 ((digits ds).getD j 0)) := by
    obtain ⟨_, h | ⟨g', cap', cur, hv, hg, hh, _, _, _, htk⟩⟩ := hown
    · simp at h
    · simp only [Value.slice.injEq, Option.some.injEq, Addr.mk.injEq, true_and, and_true] at hv
      obtain ⟨rfl, rfl⟩ := hv
      refine ⟨cur, hh, fun j hj => ?_⟩
      have := ga.out j hj
      rw [← htk, List.getElem?_take, if_pos (by omega)] at this
      simpa using this
  obtain ⟨cur, kY, hcur⟩ := hY
  have hcur := hid hcur
  clear hown b1 kX2 hz hp hoa hor ia nA hX0 ga sa
  go_wp2_with fail
  go_loopw [7] (fun i wr => ∃ k : Nat, k ≤ 67 ∧ i = .int .i64 k ∧ Blk wr px LD.toArray 26 ∧ Blk wr g cur 3 ∧ Below w.heap.size w wr) (fun i _ => 67 - (intOf i).toNat)
  case atStart => exact ⟨0, by omega, rfl, kX, kY, bel⟩
  case round =>
    clear kX kY bel
    obtain ⟨k, hk, rfl, kX, kY, bel⟩ := hrel
    by_cases hlk : k < 67
    · have cx : wr.cell? ⟨px, k, none⟩ = some (.int .i64 ((digits ds).getD k 0)) := by rw [kX.cell]; exact ga'.out k hlk
      have cy : wr.cell? ⟨g, k, none⟩ = some (.int .i64 ((digits ds).getD k 0)) := by rw [kY.cell]; exact hcur.out k hlk
      obtain ⟨hs0, hs1⟩ := hsm.out k hlk
      generalize (digits ds).getD k 0 = x at *
      have hk0 : (0 : Int) ≤ (k : Int) := by omega
      have hk1 : (k : Int) < 67 := by omega
      have t1 : (x != x) = false := by simp
      have t2 : decide (x < 0) = false := by simp; omega
      have t3 : decide (15 < x) = false := by simp; omega
      go_wp2
      go_quiet (fail)
      go_wp2
      refine ⟨⟨k + 1, by omega, by go_num, kX, kY, ⟨bel.os, bel.tape, bel.output, bel.size, bel.block⟩⟩, by simp [intOf]; omega⟩
    · obtain rfl : k = 67 := by omega
      have hl0 := lacks_none a cap wr
      clear hcur hsm ga' kX kY
      go_wp2_with fail
      refine wp_loop_rounds 1 ?_
      rw [rounds_succ]
      go_wp2_with (first | (go_at_call 16; refine hl0.mono ?_; rintro e w4 ⟨rfl, rfl⟩) | (go_at_call 13; refine (knows06 _).mono ?_; rintro e w5 ⟨rfl, b5⟩))
      go_ret
      exact ⟨rfl, bel.trans (b5.mono bel.size)⟩
end Go.Proofs.Ytkiaeepdpmcafaa
