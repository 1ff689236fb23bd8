/-
  Layer 12: the document's disk: its cells; the first bytes of a new text, and behind them those of an old one.
-/
import Derived.Test.YtmpgnpkodapidaaSkM
namespace Go.Proofs.Ytmpgnpkodapidaa
open Go.ChangeShapes Go.WideShapes Go.ChangeAt Go.RowKit

theorem strOfNums_take (xs : List Int) (n : Nat) : (strOfNums xs).extract 0 n = strOfNums (xs.take n) := by
  apply ByteArray.ext
  apply Array.ext'
  simp [strOfNums]
theorem strOfNums_drop (xs : List Int) (n : Nat) : (strOfNums xs).extract n (strOfNums xs).size = strOfNums (xs.drop n) := by
  apply ByteArray.ext
  apply Array.ext'
  simp [strOfNums, ByteArray.size]
  exact List.take_of_length_le (by simp)
theorem strOfNums_append (xs ys : List Int) : strOfNums xs ++ strOfNums ys = strOfNums (xs ++ ys) := by
  apply ByteArray.ext
  apply Array.ext'
  simp [strOfNums]
theorem strOfNums_size (xs : List Int) : (strOfNums xs).size = xs.length := by
  simp [strOfNums, ByteArray.size]
theorem guard_str : Try.prog.eqGuardType Try.prog.depth 9 = false := by kernel_rfl
theorem quiet_str_add {op : Oper} {a : Act} {C : World → Prop} {K : Act → Prop} {bop : BinOp} {tr : TypeId} (x y : Operand) (ho : op.op = .binOp bop 9 x y tr) (xs ys : ByteArray) (v : Value) (hx : a.eval x = .string xs) (hy : a.eval y = .string ys)
    (hr : ∀ W : World, (binOp bop 9 (.string xs) (.string ys)).run Try.prog W = .ok v W) (h : K (a.put op.dst v)) : op.quiet Try.prog a C K :=
  ⟨v, fun w' _ => by
    unfold Oper.quietAt execOp
    have hg : (eqGuard bop 9 x y (.string xs) (.string ys)).run Try.prog w' = .ok () w' := by unfold eqGuard; simp [Sem.run_pure]
    simp only [ho, hx, hy, Sem.run_bind, Sem.run_pure, Result.andThen_ok, hg, hr w']
    simp [Oper.quietUpon], h⟩
set_option maxHeartbeats 4000000 in
set_option maxRecDepth 100000 in
theorem refpart_any (z : Nat) (old now : List Int) (n : Int) (w : World) (hz : z ≤ 512) (ho : old.length = z) (hn : now.length = z) :
    Calls Try.prog 59 #[.string (strOfNums old), .string (strOfNums now), .int .i64 n] w fun e w' => e = .returned (.string (strOfNums (now.take (clampZ z n) ++ old.drop (clampZ z n)))) ∧ Below w.heap.size w w' := by
  have Hb := hid (Below.refl w.heap.size w)
  have hs := strOfNums_size now
  have hs2 := strOfNums_size old
  go_enter Try.func59, Try.ntmps59
  by_cases h0 : n ≤ 0
  · have e : now.take (clampZ z n) ++ old.drop (clampZ z n) = old := by
      have : clampZ z n = 0 := by unfold clampZ; split <;> first | rfl | (split <;> omega)
      rw [this]; simp
    rw [e]
    go_wp2_with fail
    go_returns
    exact ⟨rfl, Hb.out⟩
  by_cases h1 : (z : Int) ≤ n
  · have e : now.take (clampZ z n) ++ old.drop (clampZ z n) = now := by
      have : clampZ z n = z := by unfold clampZ; rw [if_neg (by omega)]; split <;> omega
      rw [this, List.take_of_length_le (by omega), List.drop_of_length_le (by omega), List.append_nil]
    have h1I : (now.length : Int) ≤ n := by omega
    rw [e]
    go_wp2_with fail
    go_returns
    exact ⟨rfl, Hb.out⟩
  · obtain ⟨k, rfl⟩ := Int.eq_ofNat_of_zero_le (show 0 ≤ n by omega)
    have e : clampZ z (k : Int) = k := by unfold clampZ; rw [if_neg (by omega), if_neg (by omega), Int.toNat_natCast]
    rw [e]
    have h1I : ¬ (now.length : Int) ≤ (k : Int) := by omega
    have g1 : (0 : Int) ≤ k ∧ (k : Int) ≤ ((strOfNums now).size : Int) := by omega
    have g2 : (0 : Int) ≤ k ∧ (k : Int) ≤ ((strOfNums old).size : Int) := by omega
    have q1 := strOfNums_take now k
    have q2 := strOfNums_drop old k
    have q3 := strOfNums_append (now.take k) (old.drop k)
    rw [hs2, ho] at q2
    have s1 := strOfNums_size (now.take k)
    have s2 := strOfNums_size (old.drop k)
    have cc : (strOfNums (now.take k)).size + (strOfNums (old.drop k)).size ≤ 9223372036854775807 := by rw [s1, s2, List.length_take, List.length_drop]; omega
    have HA := hid (fun W : World => run_string_add_sum (P := Try.prog) (w := W) (strOfNums (now.take k)) (strOfNums (old.drop k)) cc)
    rw [q3] at HA
    go_wp2_with fail
    refine wp_region_flow 8 (List.range 8) [] [] (by kernel_rfl) (by kernel_rfl) ?_
    apply Exists.intro
    refine ⟨fun w0 hb0 hF0 => ?_, ?_⟩
    · skip
      simp only [pick, List.range, List.range.loop, List.getElem?_toArray, List.getElem?_cons_succ, List.getElem?_cons_zero, Option.toList_some, List.cons_append, List.nil_append]
      repeat (first | go_big_quiet_step (fail) | (go_big_quiet_want; refine quiet_str_add _ _ rfl _ _ _ rfl rfl (fun W => by rw [binOp_string_add]; exact HA.out W) ?_; go_big_quiet_on; simp only [Act.put, List.setIfInBounds_toArray, List.set_cons_zero, List.set_cons_succ]))
      exact wpQuiet_nil rfl
    refine AlChk.nil ?_
    refine Walk.fin fun w2 hw2 _ _ => ?_
    simp only [List.drop_succ_cons, List.drop_zero]
    go_wp2_with fail
    go_returns
    exact ⟨rfl, Below.on Hb.out hw2⟩
end Go.Proofs.Ytmpgnpkodapidaa
