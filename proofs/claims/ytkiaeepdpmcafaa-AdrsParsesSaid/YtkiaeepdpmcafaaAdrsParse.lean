/-
  Contract of adrs.Parse.
-/
import Derived.Test.YtkiaeepdpmcafaaPackSplit
import Derived.Test.YtkiaeepdpmcafaaAdrsBytes
import Derived.Test.YtkiaeepdpmcafaaFlow
namespace Go.Proofs.Ytkiaeepdpmcafaa
open Go.ChangeShapes Go.WideShapes Go.ChangeAt Go.RowKit

/-- the first k words of 32 bytes, then 0 -/
def wordsTo (bs : List Int) (k : Nat) : List Int := (List.range 8).map fun i => if i < k then numOf ((bs.drop (4 * i)).take 4) else 0
theorem wordsTo_length (bs : List Int) (k : Nat) : (wordsTo bs k).length = 8 := by simp [wordsTo]
theorem wordsTo_zero (bs : List Int) : wordsTo bs 0 = List.replicate 8 0 := by simp [wordsTo]; decide
theorem wordsTo_step (bs : List Int) (k : Nat) (_hk : k < 8) : (wordsTo bs k).set k (numOf ((bs.drop (4 * k)).take 4)) = wordsTo bs (k + 1) := by
  unfold wordsTo
  apply List.ext_getElem?
  intro j
  rw [List.getElem?_set]
  by_cases h : k = j
  · subst h
    simp [_hk]
  · rw [if_neg h]
    simp only [List.getElem?_map]
    rcases Nat.lt_or_ge j 8 with hj | hj
    · simp only [List.getElem?_range hj, Option.map_some]
      congr 1
      by_cases h2 : j < k
      · rw [if_pos h2, if_pos (by omega)]
      · rw [if_neg h2, if_neg (by omega)]
    · rw [List.getElem?_eq_none (by simp; omega)]
      rfl
theorem wordsTo_get (bs : List Int) (k : Nat) (hk : k < 8) : (wordsTo bs k)[k]? = some 0 := by
  simp [wordsTo, hk]
theorem numOf_four (bs : List Int) (hb : ∀ x ∈ bs, 0 ≤ x ∧ x < 256) (k : Nat) : 0 ≤ numOf ((bs.drop k).take 4) ∧ numOf ((bs.drop k).take 4) < 4294967296 := by
  have h := numOf_bounds ((bs.drop k).take 4) (fun x hx => hb x (List.mem_of_mem_drop (List.mem_of_mem_take hx)))
  have hl : ((bs.drop k).take 4).length ≤ 4 := by rw [List.length_take]; omega
  generalize ((bs.drop k).take 4).length = m at *
  have hp : (256 : Int) ^ m ≤ 4294967296 := by
    have hm : m = 0 ∨ m = 1 ∨ m = 2 ∨ m = 3 ∨ m = 4 := by omega
    rcases hm with rfl | rfl | rfl | rfl | rfl <;> decide
  omega

theorem parse_not (a : Option Addr) (len cap : Nat) (w : World) (h : len ≠ 32) :
    Calls Try.prog 35 #[.slice a len cap] w fun e w' => e = .returned (.tuple #[ints .u32 [0, 0, 0, 0, 0, 0, 0, 0], .int .i64 2]) ∧ Below w.heap.size w w' := by
  have h1 : ((len : Int) != 32) = true := by simp; omega
  go_enter Try.func35, Try.ntmps35
  go_wp2
  go_returns
  exact ⟨rfl, by go_grown⟩

set_option maxHeartbeats 2000000 in
theorem parse_any (a : Option Addr) (cap : Nat) (bs : List Int) (w : World) (hT : TextAt w a 32 cap bs) :
    Calls Try.prog 35 #[.slice a 32 cap] w fun e w' => e = .returned (.tuple #[ints .u32 (wordsTo bs 8), .int .i64 0]) ∧ Below w.heap.size w w' := by
  have HT := hid hT
  have hle := hT.le
  have hmx := hT.max
  have hw := numOf_four bs hT.small
  have Hw := hid hw
  clear hT hw
  go_enter Try.func35, Try.ntmps35
  go_wp2_with fail
  have kR : Blk ((w.alloc (Obj.cells #[.int .u32 0, .int .u32 0, .int .u32 0, .int .u32 0, .int .u32 0, .int .u32 0, .int .u32 0, .int .u32 0] 49)).alloc (Obj.cells #[.int .u32 0, .int .u32 0, .int .u32 0, .int .u32 0, .int .u32 0, .int .u32 0, .int .u32 0, .int .u32 0] 49)) w.heap.size #[.int .u32 0, .int .u32 0, .int .u32 0, .int .u32 0, .int .u32 0, .int .u32 0, .int .u32 0, .int .u32 0] 49 := (Blk.new rfl _ _).old _
  have kA : Blk ((w.alloc (Obj.cells #[.int .u32 0, .int .u32 0, .int .u32 0, .int .u32 0, .int .u32 0, .int .u32 0, .int .u32 0, .int .u32 0] 49)).alloc (Obj.cells #[.int .u32 0, .int .u32 0, .int .u32 0, .int .u32 0, .int .u32 0, .int .u32 0, .int .u32 0, .int .u32 0] 49)) (w.heap.size + 1) ((wordsTo bs 0).map (Value.int .u32)).toArray 49 := by
    rw [wordsTo_zero]
    exact Blk.new (by simp) _ _
  have bel : Below w.heap.size w ((w.alloc (Obj.cells #[.int .u32 0, .int .u32 0, .int .u32 0, .int .u32 0, .int .u32 0, .int .u32 0, .int .u32 0, .int .u32 0] 49)).alloc (Obj.cells #[.int .u32 0, .int .u32 0, .int .u32 0, .int .u32 0, .int .u32 0, .int .u32 0, .int .u32 0, .int .u32 0] 49)) := by go_grown
  generalize (w.alloc (Obj.cells #[.int .u32 0, .int .u32 0, .int .u32 0, .int .u32 0, .int .u32 0, .int .u32 0, .int .u32 0, .int .u32 0] 49)).alloc (Obj.cells #[.int .u32 0, .int .u32 0, .int .u32 0, .int .u32 0, .int .u32 0, .int .u32 0, .int .u32 0, .int .u32 0] 49) = w1 at *
  generalize hN0 : w.heap.size = N0 at *
  go_loopw [12] (fun i wr => ∃ k : Nat, k ≤ 8 ∧ i = .int .i64 k ∧ Blk wr N0 #[.int .u32 0, .int .u32 0, .int .u32 0, .int .u32 0, .int .u32 0, .int .u32 0, .int .u32 0, .int .u32 0] 49 ∧ Blk wr (N0 + 1) ((wordsTo bs k).map (Value.int .u32)).toArray 49 ∧ Below N0 w wr) (fun i _ => 8 - (intOf i).toNat)
  case atStart => exact ⟨0, by omega, rfl, kR, kA, bel⟩
  case round =>
    clear kR kA bel
    obtain ⟨k, hk, rfl, kR, kA, bel⟩ := hrel
    have hge := hN0
    clear hN0
    by_cases hlt : k < 8
    · have hs1 : ∀ w, (Instr.slice 56 (.slice a 32 cap) (some (.int .i64 ((k : Int) * 4))) (some (.int .i64 (((k : Int) + 1) * 4))) none).run Try.prog w = .ok (.slice (cutA a (4 * k) cap) 4 (cap - 4 * k)) w := fun w => by
        have := run_cut_lh Try.underlying56 size_byte a 32 cap ((k : Int) * 4) (((k : Int) + 1) * 4) w (by omega) (by omega) (by omega)
        rw [this, show ((k : Int) * 4).toNat = 4 * k by omega, show (((k : Int) + 1) * 4).toNat - 4 * k = 4 by omega]
      have hT4 := (HT.out.below (hge ▸ bel)).cut (4 * k) (4 * k + 4) (by omega) (by omega)
      rw [Nat.add_sub_cancel_left] at hT4
      have hof := of_text hT4 (by omega)
      have hx := Hw.out (4 * k)
      have HS := hid (wordsTo_step bs k hlt)
      have c1 : wr.cell? ⟨N0 + 1, k, none⟩ = some (.int .u32 0) := by
        rw [kA.cell]; simp [wordsTo_get bs k hlt]
      have f1 := kA.free
      generalize numOf ((bs.drop (4 * k)).take 4) = x at *
      obtain ⟨hx0, hx1⟩ := hx
      clear hT4 hge
      go_wp2_with (go_at_call 38; refine hof.mono ?_; rintro e w5 ⟨rfl, rfl⟩)
      have kA' := kA.set k (.int .u32 x)
      rw [List.setIfInBounds_toArray, ← List.map_set, HS.out] at kA'
      exact ⟨⟨k + 1, by omega, by go_num, kR.other ⟨N0 + 1, k, none⟩ (by simp) _, kA', bel.setCell (p := ⟨N0 + 1, k, none⟩) (by simp) _⟩, by simp [intOf]; omega⟩
    · obtain rfl : k = 8 := by omega
      have hsz : (List.map (Value.int IntKind.u32) (wordsTo bs 8)).toArray.size = 8 := by simp [wordsTo_length]
      have Hsz := hid hsz
      clear hsz
      go_wp2_with (first | (refine wpList_load_blk rfl 49 _ rfl (N0 + 1) rfl _ 49 kA _ Try.underlying49 rfl 8 sizeAdrs Hsz.out ?_) | (refine wpList_store_blk rfl 49 _ _ rfl N0 _ rfl rfl _ 49 kR 8 sizeAdrs rfl Hsz.out (ints_one _ _) ?_; intro w2 hbut hk2))
      have bel2 := hbut.below bel (by rw [← hge]; exact bel.size) (Nat.le_refl _)
      exact bodyPost_ret (v := .tuple #[.agg (List.map (Value.int IntKind.u32) (wordsTo bs 8)).toArray, .int .i64 0]) (results_blk_tmp Try.results35 _ N0 rfl _ rfl _ 49 hk2 _ Try.underlying49 rfl 8 sizeAdrs Hsz.out) rfl ⟨rfl, by rw [hge]; exact bel2⟩

set_option maxHeartbeats 2000000 in
theorem refparse_any (a : Option Addr) (cap : Nat) (bs : List Int) (w : World) (hT : TextAt w a 32 cap bs) :
    Calls Try.prog 36 #[.slice a 32 cap] w fun e w' => e = .returned (ints .u32 (wordsTo bs 8)) ∧ Below w.heap.size w w' := by
  obtain ⟨x, o, rfl, hx, hc⟩ := hT.at_ (by omega)
  have Hlen := hid hT.length
  have Hc := hid hc
  have hle := hT.le
  have hmx := hT.max
  have Hs := hid hT.small
  clear hT hc
  go_enter Try.func36, Try.ntmps36
  go_wp2_with fail
  have kR : Blk ((w.alloc (Obj.cells #[.int .u32 0, .int .u32 0, .int .u32 0, .int .u32 0, .int .u32 0, .int .u32 0, .int .u32 0, .int .u32 0] 49)).alloc (Obj.cells #[.int .u32 0, .int .u32 0, .int .u32 0, .int .u32 0, .int .u32 0, .int .u32 0, .int .u32 0, .int .u32 0] 49)) w.heap.size #[.int .u32 0, .int .u32 0, .int .u32 0, .int .u32 0, .int .u32 0, .int .u32 0, .int .u32 0, .int .u32 0] 49 := (Blk.new rfl _ _).old _
  have kA : Blk ((w.alloc (Obj.cells #[.int .u32 0, .int .u32 0, .int .u32 0, .int .u32 0, .int .u32 0, .int .u32 0, .int .u32 0, .int .u32 0] 49)).alloc (Obj.cells #[.int .u32 0, .int .u32 0, .int .u32 0, .int .u32 0, .int .u32 0, .int .u32 0, .int .u32 0, .int .u32 0] 49)) (w.heap.size + 1) ((wordsTo bs 0).map (Value.int .u32)).toArray 49 := by
    rw [wordsTo_zero]
    exact Blk.new (by simp) _ _
  have bel : Below w.heap.size w ((w.alloc (Obj.cells #[.int .u32 0, .int .u32 0, .int .u32 0, .int .u32 0, .int .u32 0, .int .u32 0, .int .u32 0, .int .u32 0] 49)).alloc (Obj.cells #[.int .u32 0, .int .u32 0, .int .u32 0, .int .u32 0, .int .u32 0, .int .u32 0, .int .u32 0, .int .u32 0] 49)) := by go_grown
  generalize (w.alloc (Obj.cells #[.int .u32 0, .int .u32 0, .int .u32 0, .int .u32 0, .int .u32 0, .int .u32 0, .int .u32 0, .int .u32 0] 49)).alloc (Obj.cells #[.int .u32 0, .int .u32 0, .int .u32 0, .int .u32 0, .int .u32 0, .int .u32 0, .int .u32 0, .int .u32 0] 49) = w1 at *
  generalize hN0 : w.heap.size = N0 at *
  go_loopw [4, 5] (fun i _ wr => ∃ k : Nat, k ≤ 8 ∧ i = .int .i64 k ∧ Blk wr N0 #[.int .u32 0, .int .u32 0, .int .u32 0, .int .u32 0, .int .u32 0, .int .u32 0, .int .u32 0, .int .u32 0] 49 ∧ Blk wr (N0 + 1) ((wordsTo bs k).map (Value.int .u32)).toArray 49 ∧ Below N0 w wr) (fun i _ _ => 8 - (intOf i).toNat)
  case atStart => exact ⟨0, by omega, rfl, kR, kA, bel⟩
  case round =>
    clear kR kA bel
    obtain ⟨k, hk, rfl, kR, kA, bel⟩ := hrel
    by_cases hlt : k < 8
    · go_wp2_with fail
      obtain ⟨wo, rfl⟩ : ∃ wo : World, wo = wr := ⟨_, rfl⟩
      go_loopw [5] (fun j wr => ∃ m : Nat, m ≤ 4 ∧ j = .int .i64 m ∧ Blk wr N0 #[.int .u32 0, .int .u32 0, .int .u32 0, .int .u32 0, .int .u32 0, .int .u32 0, .int .u32 0, .int .u32 0] 49 ∧ Blk wr (N0 + 1) (((wordsTo bs k).set k (numOf ((bs.drop (4 * k)).take m))).map (Value.int .u32)).toArray 49 ∧ Below N0 w wr) (fun j _ => 4 - (intOf j).toNat)
      case atStart =>
        refine ⟨0, by omega, rfl, kR, ?_, bel⟩
        rw [show (wordsTo bs k).set k (numOf ((bs.drop (4 * k)).take 0)) = wordsTo bs k by
          apply List.ext_getElem?
          intro q
          rw [List.getElem?_set]
          split
          · rename_i h; subst h; rw [if_pos (by rw [wordsTo_length]; exact hlt), wordsTo_get bs k hlt]; rfl
          · rfl]
        exact kA
      case round =>
        clear kR kA bel
        obtain ⟨m, hm, rfl, kR, kA, bel⟩ := hrel
        by_cases hm4 : m < 4
        · have hy := Hc.out (4 * k + m) (by omega)
          have hn := numOf_bounds ((bs.drop (4 * k)).take m) (fun x hx => Hs.out x (List.mem_of_mem_drop (List.mem_of_mem_take hx)))
          have hml : ((bs.drop (4 * k)).take m).length = m := by have := Hlen.out; simp; omega
          have hp : (256 : Int) ^ m ≤ 16777216 := by
            have hm : m = 0 ∨ m = 1 ∨ m = 2 ∨ m = 3 := by omega
            rcases hm with rfl | rfl | rfl | rfl <;> decide
          rw [hml] at hn
          have hy1 : 0 ≤ bs.getD (4 * k + m) 0 ∧ bs.getD (4 * k + m) 0 < 256 := by
            have hl := Hlen.out
            rw [show bs.getD (4 * k + m) 0 = bs[4 * k + m]'(by omega) by simp [show 4 * k + m < bs.length by omega]]
            exact Hs.out _ (List.getElem_mem _)
          have HS := hid (show numOf ((bs.drop (4 * k)).take (m + 1)) = 256 * numOf ((bs.drop (4 * k)).take m) + bs.getD (4 * k + m) 0 by
            have hl := Hlen.out
            rw [take_next _ m (by simp; omega), numOf_snoc]
            congr 1
            simp [List.getD_eq_getElem?_getD])
          have cA : wr.cell? ⟨N0 + 1, k, none⟩ = some (.int .u32 (numOf ((bs.drop (4 * k)).take m))) := by
            rw [kA.cell]; simp [wordsTo_length, hlt]
          have cB : wr.cell? ⟨x, o + (4 * k + m), none⟩ = some (.int .u8 (bs.getD (4 * k + m) 0)) := (bel.cell (p := ⟨x, o + (4 * k + m), none⟩) (show x < N0 from hx)).trans hy
          have hset : ∀ y : Int, (((wordsTo bs k).set k (numOf ((bs.drop (4 * k)).take m))).map (Value.int .u32)).toArray.setIfInBounds k (.int .u32 y) = (((wordsTo bs k).set k y).map (Value.int .u32)).toArray := fun y => by
            rw [List.setIfInBounds_toArray, ← List.map_set, List.set_set]
          have hset := hid hset
          generalize numOf ((bs.drop (4 * k)).take m) = z at *
          generalize bs.getD (4 * k + m) 0 = y at *
          obtain ⟨hz0, hz1⟩ := hn
          obtain ⟨hy0, hy1⟩ := hy1
          have hz1 := Int.lt_of_lt_of_le hz1 hp
          have hge := hid hN0
          clear hp hml hy hN0
          go_wp2_with fail
          refine wp_region_flow 14 [0, 1, 2, 3, 4, 5, 6, 7, 8, 9, 10, 11, 12, 13] [] [] (by kernel_rfl) (by kernel_rfl) ?_
          apply Exists.intro
          refine ⟨fun w0 hb0 hF0 => ?_, ?_⟩
          · have q1 : ∀ e : Ext w0, e.at_.cell? ⟨N0 + 1, k, none⟩ = some (.int .u32 z) := fun e => by
              rw [((kA.below hb0).below e.same).cell, ← kA.cell]; exact cA
            have q2 : ∀ e : Ext w0, e.at_.cell? ⟨x, o + (4 * k + m), none⟩ = some (.int .u8 y) := fun e => ((Below.on hb0 e.same).cell (p := ⟨x, o + (4 * k + m), none⟩) (World.block_lt_of_cell? wr _ cB)).trans cB
            simp only [pick, List.getElem?_toArray, List.getElem?_cons_succ, List.getElem?_cons_zero, Option.toList_some, List.cons_append, List.nil_append]
            repeat (go_big_quiet_step (fail))
            exact wpQuiet_nil rfl
          refine AlChk.nil ?_
          refine Walk.fin fun w3 b3 _ _ => ?_
          simp only [List.drop_succ_cons, List.drop_zero]
          have kA3 := kA.below b3
          have kR3 := kR.below b3
          have bel3 : Below N0 w w3 := bel.trans (b3.mono (by rw [← hge.out]; exact bel.size))
          have f1 := kA3.free
          have c1 : w3.cell? ⟨N0 + 1, k, none⟩ = some (.int .u32 z) := by rw [kA3.cell, ← kA.cell]; exact cA
          have kA4 := kA3.set k (.int .u32 (256 * z + y))
          rw [hset.out] at kA4
          have HZ := hid (show (0 : Int) ≤ 256 * z + y ∧ 256 * z + y < 4294967296 by omega)
          clear kA kR bel kA3 cA cB b3
          go_wp2_with fail
          refine ⟨⟨m + 1, by omega, by go_num, kR3.other ⟨N0 + 1, k, none⟩ (by simp) _, ?_, bel3.setCell (p := ⟨N0 + 1, k, none⟩) (by simp) _⟩, by simp [intOf]; omega⟩
          rw [HS.out]
          exact kA4
        · obtain rfl : m = 4 := by omega
          rw [wordsTo_step bs k hlt] at kA
          go_wp2_with fail
          exact ⟨⟨k + 1, by omega, by go_num, kR, kA, bel⟩, by simp [intOf]; omega⟩
    · obtain rfl : k = 8 := by omega
      have hsz : (List.map (Value.int IntKind.u32) (wordsTo bs 8)).toArray.size = 8 := by simp [wordsTo_length]
      have Hsz := hid hsz
      clear hsz
      have hge := hid hN0
      clear hN0
      go_wp2_with (first | (refine wpList_load_blk rfl 49 _ rfl (N0 + 1) rfl _ 49 kA _ Try.underlying49 rfl 8 sizeAdrs Hsz.out ?_) | (refine wpList_store_blk rfl 49 _ _ rfl N0 _ rfl rfl _ 49 kR 8 sizeAdrs rfl Hsz.out (ints_one _ _) ?_; intro w2 hbut hk2))
      have bel2 := hbut.below bel (by rw [← hge.out]; exact bel.size) (Nat.le_refl _)
      exact bodyPost_ret (v := .agg (List.map (Value.int IntKind.u32) (wordsTo bs 8)).toArray) (results_blk Try.results36 _ N0 rfl _ 49 hk2 _ Try.underlying49 rfl 8 sizeAdrs Hsz.out) rfl ⟨rfl, by rw [hge.out]; exact bel2⟩
end Go.Proofs.Ytkiaeepdpmcafaa
