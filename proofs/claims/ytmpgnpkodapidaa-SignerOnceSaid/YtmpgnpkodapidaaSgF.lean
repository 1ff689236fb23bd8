/-
  Layer 14: a fence.
-/
import Derived.Test.YtmpgnpkodapidaaSgE
namespace Go.Proofs.Ytmpgnpkodapidaa
open Go.ChangeShapes Go.WideShapes Go.ChangeAt Go.RowKit

theorem least_gt (g k h g' k' h' : Int) (w : World) (hk : k' < k) :
    Calls Try.prog 66 #[.agg #[.int .i64 g, .int .i64 k, .int .i64 h], .agg #[.int .i64 g', .int .i64 k', .int .i64 h']] w fun e w' => e = .returned (.agg #[.int .i64 (max g g'), .int .i64 k, .int .i64 h]) ∧ Below w.heap.size w w' := by
  go_enter Try.func66, Try.ntmps66
  go_wp2
  all_goals
    go_returns
    refine ⟨?_, by go_grown⟩
    congr; omega
theorem least_lt (g k h g' k' h' : Int) (w : World) (hk : k < k') :
    Calls Try.prog 66 #[.agg #[.int .i64 g, .int .i64 k, .int .i64 h], .agg #[.int .i64 g', .int .i64 k', .int .i64 h']] w fun e w' => e = .returned (.agg #[.int .i64 (max g g'), .int .i64 k', .int .i64 h']) ∧ Below w.heap.size w w' := by
  have hk' : ¬ k' < k := by omega
  go_enter Try.func66, Try.ntmps66
  go_wp2
  all_goals
    go_returns
    refine ⟨?_, by go_grown⟩
    congr; omega
theorem least_eq (g k h g' h' : Int) (w : World) :
    Calls Try.prog 66 #[.agg #[.int .i64 g, .int .i64 k, .int .i64 h], .agg #[.int .i64 g', .int .i64 k, .int .i64 h']] w fun e w' => e = .returned (.agg #[.int .i64 (max g g'), .int .i64 k, .int .i64 (max h h')]) ∧ Below w.heap.size w w' := by
  go_enter Try.func66, Try.ntmps66
  go_wp2
  all_goals
    go_returns
    refine ⟨?_, by go_grown⟩
    congr <;> omega
/-- plain -/
def lk (k h k' h' : Int) : Int × Int := if k' < k then (k, h) else if k < k' then (k', h') else (k, max h h')
theorem least_any (g k h g' k' h' : Int) (w : World) :
    Calls Try.prog 66 #[.agg #[.int .i64 g, .int .i64 k, .int .i64 h], .agg #[.int .i64 g', .int .i64 k', .int .i64 h']] w fun e w' => e = .returned (.agg #[.int .i64 (max g g'), .int .i64 (lk k h k' h').1, .int .i64 (lk k h k' h').2]) ∧ Below w.heap.size w w' := by
  by_cases h1 : k' < k
  · simpa [lk, h1] using least_gt g k h g' k' h' w h1
  · by_cases h2 : k < k'
    · simpa [lk, h1, h2] using least_lt g k h g' k' h' w h2
    · obtain rfl : k = k' := by omega
      simpa [lk] using least_eq g k h g' h' w
theorem neq3 (a b c a' b' c' : Int) (w : World) : (binOp .neq 94 (.agg #[.int .i64 a, .int .i64 b, .int .i64 c]) (.agg #[.int .i64 a', .int .i64 b', .int .i64 c'])).run Try.prog w = .ok (.bool (!decide (a = a' ∧ b = b' ∧ c = c'))) w := by
  simp [go_sem] <;> by_cases h1 : a = a' <;> by_cases h2 : b = b' <;> by_cases h3 : c = c' <;> simp [h1, h2, h3]

set_option maxHeartbeats 1600000 in
set_option maxRecDepth 100000 in
theorem raise_any (b : Nat) (g k h g' k' h' : Int) (w : World) (hb : Blk w b #[.int .i64 g, .int .i64 k, .int .i64 h] 96) :
    Calls Try.prog 68 #[.pointer (some ⟨b, 0, none⟩), .agg #[.int .i64 g', .int .i64 k', .int .i64 h']] w fun e w' => 
      e = .returned (.agg #[.int .i64 (max g g'), .int .i64 (lk k h k' h').1, .int .i64 (lk k h k' h').2]) ∧ But b w w' ∧ Blk w' b #[.int .i64 (max g g'), .int .i64 (lk k h k' h').1, .int .i64 (lk k h k' h').2] 96 := by
  generalize hL : lk k h k' h' = L
  obtain ⟨lk1, lh1⟩ := L
  have HL := hid hL; clear hL
  generalize hG : max g g' = lg
  have HG := hid hG; clear hG
  have hlt := hb.lt
  go_enter Try.func68, Try.ntmps68
  go_wp2_with fail
  have k0 := (hb.old (Obj.cells #[.int .i64 g', .int .i64 k', .int .i64 h'] 94)).old (Obj.cells #[.int .i64 0, .int .i64 0, .int .i64 0] 94)
  have k1 := (Blk.new rfl #[.int .i64 g', .int .i64 k', .int .i64 h'] 94 : Blk (w.alloc _) _ _ _).old (Obj.cells #[.int .i64 0, .int .i64 0, .int .i64 0] 94)
  have kr := (Blk.new (by simp) #[.int .i64 0, .int .i64 0, .int .i64 0] 94 : Blk ((w.alloc (Obj.cells #[.int .i64 g', .int .i64 k', .int .i64 h'] 94)).alloc _) (w.heap.size + 1) _ _)
  have hz0 : w.heap.size + 2 ≤ ((w.alloc (Obj.cells #[.int .i64 g', .int .i64 k', .int .i64 h'] 94)).alloc (Obj.cells #[.int .i64 0, .int .i64 0, .int .i64 0] 94)).heap.size := by simp
  have bel : Below w.heap.size w ((w.alloc (Obj.cells #[.int .i64 g', .int .i64 k', .int .i64 h'] 94)).alloc (Obj.cells #[.int .i64 0, .int .i64 0, .int .i64 0] 94)) := by go_grown
  generalize (w.alloc (Obj.cells #[.int .i64 g', .int .i64 k', .int .i64 h'] 94)).alloc (Obj.cells #[.int .i64 0, .int .i64 0, .int .i64 0] 94) = w0 at k0 k1 kr bel hz0 ⊢
  refine wp_region_hda (n := 6) _ 5 #[.int .i64 0, .int .i64 0, .int .i64 0] 94 (by kernel_rfl) (by kernel_rfl) rfl rfl rfl (fun a' w' => by go_simp) ?_
  apply Exists.intro
  refine ⟨fun w1 hw1 => ?_, fun w1 b1 hw1 hb1 hblk => ?_⟩
  · have x0 := (k0.below hw1).ext
    have x1 := (k1.below hw1).ext
    simp only [List.take_succ_cons, List.take_zero]
    have hq := least_any g k h g' k' h'
    rw [HL.out, HG.out] at hq
    repeat (go_big_quiet_step ((go_at_call 66; exact Calls.ext (hq _))))
    exact wpQuiet_nil rfl
  · have hblk : Blk w1 b1 #[.int .i64 0, .int .i64 0, .int .i64 0] 94 := hblk
    have bel : Below w.heap.size w w1 := bel.trans (hw1.mono bel.size)
    have k0 := k0.below hw1
    have kr := kr.below hw1
    have c2 := hblk.cell
    have f2 := hblk.free
    simp only [List.drop_succ_cons, List.drop_zero, Act.put, List.setIfInBounds_toArray, List.set_cons_zero, List.set_cons_succ]
    go_wp2
    have hn0 : b1 ≠ b := by omega
    have hnr : b1 ≠ w.heap.size + 1 := by omega
    have k0 := ((k0.other ⟨b1, 0, none⟩ hn0 (.int .i64 lg)).other ⟨b1, 1, none⟩ hn0 (.int .i64 lk1)).other ⟨b1, 2, none⟩ hn0 (.int .i64 lh1)
    have kr := ((kr.other ⟨b1, 0, none⟩ hnr (.int .i64 lg)).other ⟨b1, 1, none⟩ hnr (.int .i64 lk1)).other ⟨b1, 2, none⟩ hnr (.int .i64 lh1)
    have k2 := ((hblk.set 0 (Value.int IntKind.i64 lg)).set 1 (Value.int IntKind.i64 lk1)).set 2 (Value.int IntKind.i64 lh1)
    have bel := ((bel.setCell (p := ⟨b1, 0, none⟩) (by simp; omega) (.int .i64 lg)).setCell (p := ⟨b1, 1, none⟩) (by simp; omega) (.int .i64 lk1)).setCell (p := ⟨b1, 2, none⟩) (by simp; omega) (.int .i64 lh1)
    simp only [List.setIfInBounds_toArray, List.set_cons_zero, List.set_cons_succ] at k2
    generalize ((w1.setCell ⟨b1, 0, none⟩ (Value.int IntKind.i64 lg)).setCell ⟨b1, 1, none⟩ (Value.int IntKind.i64 lk1)).setCell ⟨b1, 2, none⟩ (Value.int IntKind.i64 lh1) = w2 at k0 k2 kr bel ⊢
    clear c2 f2 hblk hw1
    refine wp_region_ext (by kernel_rfl) (by kernel_rfl) ?_
    have x0 := k0.ext
    have x2 := k2.ext
    have hn := fun w => neq3 lg lk1 lh1 g k h w
    by_cases heq : lg = g ∧ lk1 = k ∧ lh1 = h
    · obtain ⟨rfl, rfl, rfl⟩ := heq
      simp only [true_and, decide_true, Bool.not_true] at hn
      repeat (go_big_quiet_step (fail))
      refine wpQuiet_nil ?_
      rintro _ ⟨y, rfl⟩
      have c0 := (k0.below y.same).cell
      have cr := (kr.below y.same).cell
      have fr := (kr.below y.same).free
      clear x0 x2 hn
      go_wp2
      have bel := bel.trans (y.same.mono bel.size)
      have hk := (((k0.below y.same).other ⟨w.heap.size + 1, 0, none⟩ (by simp; omega) (.int .i64 lg)).other ⟨w.heap.size + 1, 1, none⟩ (by simp; omega) (.int .i64 lk1)).other ⟨w.heap.size + 1, 2, none⟩ (by simp; omega) (.int .i64 lh1)
      have kr := (((kr.below y.same).set 0 (Value.int IntKind.i64 lg)).set 1 (Value.int IntKind.i64 lk1)).set 2 (Value.int IntKind.i64 lh1)
      have bel := ((bel.setCell (p := ⟨w.heap.size + 1, 0, none⟩) (by simp) (.int .i64 lg)).setCell (p := ⟨w.heap.size + 1, 1, none⟩) (by simp) (.int .i64 lk1)).setCell (p := ⟨w.heap.size + 1, 2, none⟩) (by simp) (.int .i64 lh1)
      simp only [List.setIfInBounds_toArray, List.set_cons_zero, List.set_cons_succ] at kr
      have cr := kr.cell
      generalize ((y.at_.setCell ⟨w.heap.size + 1, 0, none⟩ (.int .i64 lg)).setCell ⟨w.heap.size + 1, 1, none⟩ (.int .i64 lk1)).setCell ⟨w.heap.size + 1, 2, none⟩ (.int .i64 lh1) = w3 at hk cr bel ⊢
      exact bodyPost_ret (v := .agg #[.int .i64 lg, .int .i64 lk1, .int .i64 lh1]) (by simp [results, Try.results68, go_sem, cr]) rfl ⟨rfl, But.of bel, hk⟩
    · simp only [heq, decide_false, Bool.not_false] at hn
      repeat (go_big_quiet_step (fail))
      refine wpQuiet_nil ?_
      rintro _ ⟨y, rfl⟩
      have c0 := (k0.below y.same).cell
      have f0 := (k0.below y.same).free
      have c2 := (k2.below y.same).cell
      have cr := (kr.below y.same).cell
      have fr := (kr.below y.same).free
      have hnb : ¬ w.heap.size + 1 = b := by omega
      have hnb' : ¬ b = w.heap.size + 1 := by omega
      clear x0 x2 hn heq
      go_wp2_with fail
      have bel := bel.trans (y.same.mono bel.size)
      have hk := (((((k0.below y.same).set 0 (Value.int IntKind.i64 lg)).set 1 (Value.int IntKind.i64 lk1)).set 2 (Value.int IntKind.i64 lh1)).other ⟨w.heap.size + 1, 0, none⟩ (by simp; omega) (.int .i64 lg)).other ⟨w.heap.size + 1, 1, none⟩ (by simp; omega) (.int .i64 lk1) |>.other ⟨w.heap.size + 1, 2, none⟩ (by simp; omega) (.int .i64 lh1)
      have but := (((But.of (b := b) bel).set (p := ⟨b, 0, none⟩) (.inl rfl) (Value.int IntKind.i64 lg)).set (p := ⟨b, 1, none⟩) (.inl rfl) (Value.int IntKind.i64 lk1)).set (p := ⟨b, 2, none⟩) (.inl rfl) (Value.int IntKind.i64 lh1)
      have but := ((but.set (p := ⟨w.heap.size + 1, 0, none⟩) (.inr (by simp)) (Value.int IntKind.i64 lg)).set (p := ⟨w.heap.size + 1, 1, none⟩) (.inr (by simp)) (Value.int IntKind.i64 lk1)).set (p := ⟨w.heap.size + 1, 2, none⟩) (.inr (by simp)) (Value.int IntKind.i64 lh1)
      have kr := ((((((kr.below y.same).other ⟨b, 0, none⟩ hnb' (Value.int IntKind.i64 lg)).other ⟨b, 1, none⟩ hnb' (Value.int IntKind.i64 lk1)).other ⟨b, 2, none⟩ hnb' (Value.int IntKind.i64 lh1)).set 0 (Value.int IntKind.i64 lg)).set 1 (Value.int IntKind.i64 lk1)).set 2 (Value.int IntKind.i64 lh1)
      simp only [List.setIfInBounds_toArray, List.set_cons_zero, List.set_cons_succ] at kr hk
      have cr := kr.cell
      exact bodyPost_ret (v := .agg #[.int .i64 lg, .int .i64 lk1, .int .i64 lh1]) (by simp [results, Try.results68, go_sem, cr]) rfl ⟨rfl, but, hk⟩
theorem marks_any (b : Nat) (g k h : Int) (T : TypeId) (w : World) (hb : Blk w b #[.int .i64 g, .int .i64 k, .int .i64 h] T) :
    Calls Try.prog 65 #[.pointer (some ⟨b, 0, none⟩)] w fun e w' => e = .returned (.agg #[.int .i64 g, .int .i64 k, .int .i64 h]) ∧ Below w.heap.size w w' := by
  have hc := (hb.old (Obj.cells #[Value.int IntKind.i64 0, Value.int IntKind.i64 0, Value.int IntKind.i64 0] 94)).cell
  go_enter Try.func65, Try.ntmps65
  go_wp2
  go_returns
  exact ⟨rfl, by go_grown⟩
theorem raise_nil (g k h : Int) (w : World) :
    Calls Try.prog 68 #[.pointer none, .agg #[.int .i64 g, .int .i64 k, .int .i64 h]] w fun e w' => e = .returned (.agg #[.int .i64 0, .int .i64 0, .int .i64 0]) ∧ Below w.heap.size w w' := by
  go_enter Try.func68, Try.ntmps68
  go_wp2
  go_returns
  exact ⟨rfl, by go_grown⟩
theorem new_any (w : World) :
    Calls Try.prog 26 #[] w fun e w' => e = .returned (.pointer (some ⟨w.heap.size, 0, none⟩)) ∧ Below w.heap.size w w' ∧ Blk w' w.heap.size #[.int .i64 0, .int .i64 0, .int .i64 0] 96 := by
  go_enter Try.func26, Try.ntmps26
  go_wp2
  go_ret
  exact ⟨rfl, by go_grown, Blk.new rfl _ _⟩
end Go.Proofs.Ytmpgnpkodapidaa
