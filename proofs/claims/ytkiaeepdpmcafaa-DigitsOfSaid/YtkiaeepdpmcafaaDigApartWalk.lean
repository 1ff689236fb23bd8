/-
  The statement DigitsApart: the walk of its text, and the plain law beneath it.
-/
import Derived.Test.YtkiaeepdpmcafaaDigits
namespace Go.Proofs.Ytkiaeepdpmcafaa
open Go.ChangeShapes Go.WideShapes Go.ChangeAt Go.RowKit
set_option maxHeartbeats 1000000 in
set_option maxRecDepth 100000 in
theorem knows06 (w : World) : Calls Try.prog 13 #[] w fun e w' => e = .returned (.bool true) ∧ Below w.heap.size w w' := by
  have hof := fun w => of_any (List.replicate 32 0) rfl (by simp) w
  have e0 : (List.map (Value.int IntKind.i64) (digits (List.replicate 32 0))).toArray[0]? = some (.int .i64 0) := by kernel_rfl
  have e64 : (List.map (Value.int IntKind.i64) (digits (List.replicate 32 0))).toArray[64]? = some (.int .i64 3) := by kernel_rfl
  have e65 : (List.map (Value.int IntKind.i64) (digits (List.replicate 32 0))).toArray[65]? = some (.int .i64 12) := by kernel_rfl
  have e66 : (List.map (Value.int IntKind.i64) (digits (List.replicate 32 0))).toArray[66]? = some (.int .i64 0) := by kernel_rfl
  have es : (List.map (Value.int IntKind.i64) (digits (List.replicate 32 0))).toArray.size = 67 := by simp [digits_length]
  have h1 := ints_one .i64 (digits (List.replicate 32 0))
  unfold ints at hof
  generalize (List.map (Value.int IntKind.i64) (digits (List.replicate 32 0))).toArray = D at *
  simp only [List.replicate, List.map_cons, List.map_nil] at hof
  have hz := zero26
  go_enter Try.func13, Try.ntmps13
  go_wp2_with fail
  refine (hof _).mono ?_
  rintro e w1 ⟨rfl, b1⟩
  have k0 : Blk (w1.alloc (Obj.cells (zeros .i64 67) 26)) w1.heap.size (zeros .i64 67) 26 := Blk.new rfl _ _
  have b2 := b1.alloc b1.size (Obj.cells (zeros .i64 67) 26)
  go_wp2_with (refine wpList_store_blk rfl 26 _ _ rfl w1.heap.size D rfl rfl _ 26 k0 67 size26 (by simp [zeros]) es h1 ?_; intro w2 hbut hk2; have c := hk2.cell; have c0 := (c 0).trans e0; have c64 := (c 64).trans e64; have c65 := (c 65).trans e65; have c66 := (c 66).trans e66; clear c k0 hz)
  have k3 : Blk (w2.alloc (Obj.cells #[Value.int IntKind.i64 15, Value.int IntKind.i64 3] 3)) w2.heap.size #[Value.int IntKind.i64 15, Value.int IntKind.i64 3] 3 := Blk.new rfl _ _
  have hla := lacks_any w2.heap.size [15, 3] 2 (w2.alloc (Obj.cells #[Value.int IntKind.i64 15, Value.int IntKind.i64 3] 3)) (by simp) (fun i hi => by
    rw [k3.cell]
    match i, hi with
    | 0, _ => rfl
    | 1, _ => rfl)
  rw [show lacks [15, 3] = 12 by simp [lacks, wrap64]] at hla
  refine hla.mono ?_
  rintro e w3 ⟨rfl, rfl⟩
  have hlt := b1.size
  go_wp2
  go_ret
  exact ⟨rfl, (hbut.below b2 b2.size hlt).alloc (by have := hbut.size; have := b2.size; omega) _⟩

theorem eql23 (xs ys : List Int) (hx : xs.length = 32) (hy : ys.length = 32) (w : World) : (binOp .eql 23 (.agg (xs.map (Value.int .u8)).toArray) (.agg (ys.map (Value.int .u8)).toArray)).run Try.prog w = .ok (.bool (decide (xs = ys))) w :=
  run_eql_ints (P := Try.prog) (t := 23) (e := 5) Try.underlying23 Try.underlying5 rfl (by kernel_rfl) xs ys hx hy w
theorem neq23 (xs ys : List Int) (hx : xs.length = 32) (hy : ys.length = 32) (w : World) : (binOp .neq 23 (.agg (xs.map (Value.int .u8)).toArray) (.agg (ys.map (Value.int .u8)).toArray)).run Try.prog w = .ok (.bool (!decide (xs = ys))) w :=
  run_neq_ints (P := Try.prog) (t := 23) (e := 5) Try.underlying23 Try.underlying5 rfl (by kernel_rfl) xs ys hx hy w

/-- has one of the first k a less number than the other list in its place? -/
def anyLt (xs ys : List Int) (k : Nat) : Bool := (List.range k).any fun j => decide (xs.getD j 0 < ys.getD j 0)
theorem anyLt_succ (xs ys : List Int) (k : Nat) : anyLt xs ys (k + 1) = (anyLt xs ys k || decide (xs.getD k 0 < ys.getD k 0)) := by
  simp [anyLt, List.range_succ]
theorem short_mono : ∀ (xs ys : List Int), xs.length = ys.length → (∀ j, j < xs.length → ys.getD j 0 ≤ xs.getD j 0) → short xs ≤ short ys ∧ (short xs = short ys → xs = ys)
  | [], [], _, _ => by simp [short]
  | x :: xs, y :: ys, hl, h => by
    have ih := short_mono xs ys (by simpa using hl) (fun j hj => by simpa using h (j + 1) (by simp; omega))
    have h0 := h 0 (by simp)
    simp only [List.getD_cons_zero] at h0
    simp only [short, List.map_cons, List.sum_cons] at *
    refine ⟨by omega, fun e => ?_⟩
    have h1 : x = y := by omega
    subst h1
    rw [ih.2 (by omega)]
  | [], _ :: _, hl, _ => by simp at hl
  | _ :: _, [], hl, _ => by simp at hl
theorem dig_inj : ∀ (xs ys : List Int), dig xs = dig ys → xs = ys
  | [], [], _ => rfl
  | x :: xs, y :: ys, h => by
    simp only [dig, List.flatMap_cons, List.cons_append, List.nil_append, List.cons.injEq] at h
    obtain ⟨h1, h2, h3⟩ := h
    have : x = y := by omega
    subst this
    rw [dig_inj xs ys h3]
  | [], _ :: _, h => by simp [dig] at h
  | _ :: _, [], h => by simp [dig] at h
theorem digits_get (ds : List Int) (hl : ds.length = 32) : (∀ j, j < 64 → (digits ds).getD j 0 = (dig ds).getD j 0) ∧ (digits ds).getD 64 0 = short (dig ds) / 16 / 16 % 16 ∧ (digits ds).getD 65 0 = short (dig ds) / 16 % 16 ∧ (digits ds).getD 66 0 = short (dig ds) % 16 := by
  have h1 : (dig ds).length = 64 := by rw [dig_length, hl]
  refine ⟨fun j hj => ?_, ?_, ?_, ?_⟩
  · simp only [digits, List.getD_eq_getElem?_getD, List.getElem?_append_left (show j < (dig ds).length by omega)]
  · simp only [digits, List.getD_eq_getElem?_getD]; rw [List.getElem?_append_right (by omega), h1]; simp
  · simp only [digits, List.getD_eq_getElem?_getD]; rw [List.getElem?_append_right (by omega), h1]; simp
  · simp only [digits, List.getD_eq_getElem?_getD]; rw [List.getElem?_append_right (by omega), h1]; simp
/-- THE PLAIN LAW: of two unlike digests one has a digit that is less. -/
theorem anyLt_digits (xa xb : List Int) (ha : xa.length = 32) (hb : xb.length = 32) (wa : ∀ x ∈ xa, 0 ≤ x ∧ x < 256) (wb : ∀ x ∈ xb, 0 ≤ x ∧ x < 256) : anyLt (digits xa) (digits xb) 67 = !decide (xa = xb) := by
  by_cases he : xa = xb
  · subst he
    simp [anyLt]
  · simp only [he, decide_false, Bool.not_false]
    apply Classical.byContradiction
    intro hn
    have hn' : ∀ j, j < 67 → (digits xb).getD j 0 ≤ (digits xa).getD j 0 := by
      intro j hj
      have : ¬ ((digits xa).getD j 0 < (digits xb).getD j 0) := by
        intro hlt
        apply hn
        simp only [anyLt, List.any_eq_true, List.mem_range, decide_eq_true_eq]
        exact ⟨j, hj, hlt⟩
      omega
    obtain ⟨g1, g2, g3, g4⟩ := digits_get xa ha
    obtain ⟨k1, k2, k3, k4⟩ := digits_get xb hb
    have la : (dig xa).length = 64 := by rw [dig_length, ha]
    have lb : (dig xb).length = 64 := by rw [dig_length, hb]
    obtain ⟨m1, m2⟩ := short_mono (dig xa) (dig xb) (by omega) (fun j hj => by
      have := hn' j (by omega)
      rw [g1 j (by omega), k1 j (by omega)] at this
      exact this)
    have hne : short (dig xa) ≠ short (dig xb) := fun e => he (dig_inj _ _ (m2 e))
    have sa := short_bounds (dig xa) (dig_small xa wa)
    have sb := short_bounds (dig xb) (dig_small xb wb)
    have h64 := hn' 64 (by omega)
    have h65 := hn' 65 (by omega)
    have h66 := hn' 66 (by omega)
    rw [g2, k2] at h64
    rw [g3, k3] at h65
    rw [g4, k4] at h66
    rw [la] at sa
    rw [lb] at sb
    omega

set_option maxHeartbeats 1000000 in
set_option maxRecDepth 100000 in
theorem apart06 (xa xb : List Int) (ha : xa.length = 32) (hb : xb.length = 32) (wa : ∀ x ∈ xa, 0 ≤ x ∧ x < 256) (wb : ∀ x ∈ xb, 0 ≤ x ∧ x < 256) (w : World) :
    Calls Try.prog 4 #[ints .u8 xa, ints .u8 xb] w fun e w' => e = .returned (.bool true) ∧ Below w.heap.size w w' := by
  have hoa := fun w => of_any xa ha wa w
  have hob := fun w => of_any xb hb wb w
  have hlt := hid (anyLt_digits xa xb ha hb wa wb)
  have hgt := hid (anyLt_digits xb xa hb ha wb wa)
  have hneq := fun w => neq23 xa xb ha hb w
  have la := digits_length xa ha
  have lb := digits_length xb hb
  have ia := ints_one .i64 (digits xa)
  have ib := ints_one .i64 (digits xb)
  have sa : (List.map (Value.int IntKind.u8) xa).toArray.size = 32 := by simp [ha]
  have sb : (List.map (Value.int IntKind.u8) xb).toArray.size = 32 := by simp [hb]
  have da : (List.map (Value.int IntKind.i64) (digits xa)).toArray.size = 67 := by simp [la]
  have db : (List.map (Value.int IntKind.i64) (digits xb)).toArray.size = 67 := by simp [lb]
  have ga : ∀ j, j < 67 → (List.map (Value.int IntKind.i64) (digits xa)).toArray[j]? = some (.int .i64 ((digits xa).getD j 0)) := by
    intro j hj; simp [show j < (digits xa).length by omega]
  have gb : ∀ j, j < 67 → (List.map (Value.int IntKind.i64) (digits xb)).toArray[j]? = some (.int .i64 ((digits xb).getD j 0)) := by
    intro j hj; simp [show j < (digits xb).length by omega]
  have ga := hid ga
  have gb := hid gb
  have hz := zero26
  unfold ints at *
  generalize (List.map (Value.int IntKind.i64) (digits xa)).toArray = DA at *
  generalize (List.map (Value.int IntKind.i64) (digits xb)).toArray = DB at *
  generalize (List.map (Value.int IntKind.u8) xa).toArray = A at *
  generalize (List.map (Value.int IntKind.u8) xb).toArray = B at *
  have sa := hid sa; have sb := hid sb; have da := hid da; have db := hid db
  clear la lb ha hb wa wb
  have kA : Blk ((w.alloc (Obj.cells A 23)).alloc (Obj.cells B 23)) w.heap.size A 23 := (Blk.new rfl A 23 : Blk (w.alloc _) w.heap.size A 23).old _
  have kB : Blk ((w.alloc (Obj.cells A 23)).alloc (Obj.cells B 23)) (w.heap.size + 1) B 23 := Blk.new (by simp) B 23
  have bel : Below w.heap.size w ((w.alloc (Obj.cells A 23)).alloc (Obj.cells B 23)) := by go_grown
  go_enter Try.func4, Try.ntmps4
  go_wp2_with (refine wpList_load_blk rfl 23 _ rfl w.heap.size rfl A 23 kA _ Try.underlying23 rfl 32 size23 sa.out ?_)
  refine (hoa _).mono ?_
  rintro e w1 ⟨rfl, b1⟩
  have kA0 := kA
  have kB0 := kB
  have kA := (kA.below b1).old (Obj.cells (zeros .i64 67) 26)
  have kB := (kB.below b1).old (Obj.cells (zeros .i64 67) 26)
  have kX : Blk (w1.alloc (Obj.cells (zeros .i64 67) 26)) w1.heap.size (zeros .i64 67) 26 := Blk.new rfl _ _
  have bel := bel.trans (b1.mono bel.size)
  have hX0 := bel.size
  have bel := bel.alloc bel.size (Obj.cells (zeros .i64 67) 26)
  have nB : w.heap.size + 1 ≠ w1.heap.size := by have := (kB0.below b1).lt; omega
  have nA : w.heap.size ≠ w1.heap.size := by have := (kA0.below b1).lt; omega
  generalize hp : w1.heap.size = px at *
  clear b1 kA0 kB0
  have hz67 : (zeros IntKind.i64 67).size = 67 := by simp [zeros]
  have hz67 := hid hz67
  go_wp2_with (first | (refine wpList_store_blk rfl 26 _ _ rfl px DA rfl rfl _ 26 kX 67 size26 hz67.out da.out ia ?_; intro w2 hbut kX2) | (refine wpList_load_blk rfl 23 _ rfl (w.heap.size + 1) rfl B 23 (hbut.blk kB nB) _ Try.underlying23 rfl 32 size23 sb.out ?_))
  have kA := hbut.blk kA nA
  have kB := hbut.blk kB nB
  have bel := hbut.below bel bel.size hX0
  clear hbut kX
  refine (hob _).mono ?_
  rintro e w3 ⟨rfl, b1⟩
  have kA := kA.below b1
  have kB := kB.below b1
  have kX := kX2.below b1
  have nX : px ≠ w3.heap.size := by have := kX.lt; omega
  have nA : w.heap.size ≠ w3.heap.size := by have := kA.lt; omega
  have nB : w.heap.size + 1 ≠ w3.heap.size := by have := kB.lt; omega
  have kA := kA.old (Obj.cells (zeros .i64 67) 26)
  have kB := kB.old (Obj.cells (zeros .i64 67) 26)
  have kX := kX.old (Obj.cells (zeros .i64 67) 26)
  have kY : Blk (w3.alloc (Obj.cells (zeros .i64 67) 26)) w3.heap.size (zeros .i64 67) 26 := Blk.new rfl _ _
  have bel := (bel.trans (b1.mono bel.size))
  have hY0 := bel.size
  have bel := bel.alloc bel.size (Obj.cells (zeros .i64 67) 26)
  generalize hpy : w3.heap.size = py at *
  clear b1 kX2 hp
  go_wp2_with (refine wpList_store_blk rfl 26 _ _ rfl py DB rfl rfl _ 26 kY 67 size26 hz67.out db.out ib ?_; intro w4 hbut kY2)
  have kA := hbut.blk kA nA
  have kB := hbut.blk kB nB
  have kX := hbut.blk kX nX
  have bel := hbut.below bel bel.size hY0
  clear hbut kY hz hpy hoa hob ia ib nA nB nX hX0 hY0
  go_loopw [7, 8, 9] (fun l m i wr => ∃ k : Nat, k ≤ 67 ∧ i = .int .i64 k ∧ l = .bool (anyLt (digits xa) (digits xb) k) ∧ m = .bool (anyLt (digits xb) (digits xa) k) ∧ Blk wr w.heap.size A 23 ∧ Blk wr (w.heap.size + 1) B 23 ∧ Blk wr px DA 26 ∧ Blk wr py DB 26 ∧ Below w.heap.size w wr) (fun _ _ i _ => 67 - (intOf i).toNat)
  case atStart => exact ⟨0, by omega, rfl, rfl, rfl, kA, kB, kX, kY2, bel⟩
  case round =>
    clear kA kB kX kY2 bel
    obtain ⟨k, hk, rfl, rfl, rfl, kA, kB, kX, kY, bel⟩ := hrel
    by_cases hlk : k < 67
    · have cx : wr.cell? ⟨px, k, none⟩ = some (.int .i64 ((digits xa).getD k 0)) := by rw [kX.cell]; exact ga.out k hlk
      have cy : wr.cell? ⟨py, k, none⟩ = some (.int .i64 ((digits xb).getD k 0)) := by rw [kY.cell]; exact gb.out k hlk
      have s1 := hid (anyLt_succ (digits xa) (digits xb) k)
      have s2 := hid (anyLt_succ (digits xb) (digits xa) k)
      generalize (digits xa).getD k 0 = x at *
      generalize (digits xb).getD k 0 = y at *
      have hk0 : (0 : Int) ≤ (k : Int) := by omega
      have hk1 : (k : Int) < 67 := by omega
      cases e1 : anyLt (digits xa) (digits xb) k <;> cases e2 : anyLt (digits xb) (digits xa) k
      all_goals
        have e1 := hid e1
        have e2 := hid e2
        go_wp2
        go_quiet (fail)
        go_wp2
        go_quiet (fail)
        go_wp2
        refine ⟨⟨k + 1, by omega, by go_num, by rw [s1.out, e1.out]; simp, by rw [s2.out, e2.out]; simp, kA, kB, kX, kY, ⟨bel.os, bel.tape, bel.output, bel.size, bel.block⟩⟩, by simp [intOf]; omega⟩
    · obtain rfl : k = 67 := by omega
      rw [hlt.out, hgt.out, show (decide (xb = xa)) = decide (xa = xb) by simp [eq_comm]]
      clear hlt hgt ga gb
      cases hd : decide (xa = xb)
      all_goals
        simp only [hd, Bool.not_true, Bool.not_false] at hneq
        clear hd
        go_wp2_with (first | (refine wpList_load_blk_if rfl 23 _ rfl w.heap.size rfl A 23 kA _ Try.underlying23 rfl 32 size23 sa.out ?_) | (refine wpList_load_blk_if rfl 23 _ rfl (w.heap.size + 1) rfl B 23 kB _ Try.underlying23 rfl 32 size23 sb.out ?_) | (go_at_call 13; refine (knows06 _).mono ?_; rintro e w5 ⟨rfl, b5⟩))
        go_ret
        exact ⟨rfl, bel.trans (b5.mono bel.size)⟩
end Go.Proofs.Ytkiaeepdpmcafaa
