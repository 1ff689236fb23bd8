/-
  Contracts of the methods of a fence: what they answer, and what they leave of memory; and that the statement's examples hold.
-/
import Derived.Test.YtkiaeepdpmcafaaFence
namespace Go.Proofs.Ytkiaeepdpmcafaa
open Go.ChangeShapes Go.WideShapes Go.ChangeAt Go.RowKit

theorem eql3 {t : TypeId} (ht : t = 38 ∨ t = 36) (a b c a' b' c' : Int) (w : World) : (binOp .eql t (.agg #[.int .i64 a, .int .i64 b, .int .i64 c]) (.agg #[.int .i64 a', .int .i64 b', .int .i64 c'])).run Try.prog w = .ok (.bool (decide (a = a' ∧ b = b' ∧ c = c'))) w := by
  rcases ht with rfl | rfl <;> simp [go_sem] <;> by_cases h1 : a = a' <;> by_cases h2 : b = b' <;> by_cases h3 : c = c' <;> simp [h1, h2, h3]
theorem neq3 {t : TypeId} (ht : t = 38 ∨ t = 36) (a b c a' b' c' : Int) (w : World) : (binOp .neq t (.agg #[.int .i64 a, .int .i64 b, .int .i64 c]) (.agg #[.int .i64 a', .int .i64 b', .int .i64 c'])).run Try.prog w = .ok (.bool (!decide (a = a' ∧ b = b' ∧ c = c'))) w := by
  rcases ht with rfl | rfl <;> simp [go_sem] <;> by_cases h1 : a = a' <;> by_cases h2 : b = b' <;> by_cases h3 : c = c' <;> simp [h1, h2, h3]

set_option maxHeartbeats 1600000 in
set_option maxRecDepth 100000 in
theorem raise_any (b : Nat) (g k h g' k' h' : Int) (w : World) (hb : Blk w b #[.int .i64 g, .int .i64 k, .int .i64 h] 84) :
    Calls Try.prog 23 #[.pointer (some ⟨b, 0, none⟩), .agg #[.int .i64 g', .int .i64 k', .int .i64 h']] w fun e w' => 
      e = .returned (.agg #[.int .i64 (max g g'), .int .i64 (lk k h k' h').1, .int .i64 (lk k h k' h').2]) ∧ But b w w' ∧ Blk w' b #[.int .i64 (max g g'), .int .i64 (lk k h k' h').1, .int .i64 (lk k h k' h').2] 84 := by
  generalize hL : lk k h k' h' = L
  obtain ⟨lk1, lh1⟩ := L
  have HL := hid hL; clear hL
  generalize hG : max g g' = lg
  have HG := hid hG; clear hG
  have hlt := hb.lt
  go_enter Try.func23, Try.ntmps23
  go_wp2_with fail
  have k0 := (hb.old (Obj.cells #[.int .i64 g', .int .i64 k', .int .i64 h'] 38)).old (Obj.cells #[.int .i64 0, .int .i64 0, .int .i64 0] 38)
  have k1 := (Blk.new rfl #[.int .i64 g', .int .i64 k', .int .i64 h'] 38 : Blk (w.alloc _) _ _ _).old (Obj.cells #[.int .i64 0, .int .i64 0, .int .i64 0] 38)
  have kr := (Blk.new (by simp) #[.int .i64 0, .int .i64 0, .int .i64 0] 38 : Blk ((w.alloc (Obj.cells #[.int .i64 g', .int .i64 k', .int .i64 h'] 38)).alloc _) (w.heap.size + 1) _ _)
  have hz0 : w.heap.size + 2 ≤ ((w.alloc (Obj.cells #[.int .i64 g', .int .i64 k', .int .i64 h'] 38)).alloc (Obj.cells #[.int .i64 0, .int .i64 0, .int .i64 0] 38)).heap.size := by simp
  have bel : Below w.heap.size w ((w.alloc (Obj.cells #[.int .i64 g', .int .i64 k', .int .i64 h'] 38)).alloc (Obj.cells #[.int .i64 0, .int .i64 0, .int .i64 0] 38)) := by go_grown
  generalize (w.alloc (Obj.cells #[.int .i64 g', .int .i64 k', .int .i64 h'] 38)).alloc (Obj.cells #[.int .i64 0, .int .i64 0, .int .i64 0] 38) = w0 at k0 k1 kr bel hz0 ⊢
  refine wp_region_hda (n := 6) _ 5 #[.int .i64 0, .int .i64 0, .int .i64 0] 38 (by kernel_rfl) (by kernel_rfl) rfl rfl rfl (fun a' w' => by go_simp) ?_
  apply Exists.intro
  refine ⟨fun w1 hw1 => ?_, fun w1 b1 hw1 hb1 hblk => ?_⟩
  · have x0 := (k0.below hw1).ext
    have x1 := (k1.below hw1).ext
    simp only [List.take_succ_cons, List.take_zero]
    have hq := least_any g k h g' k' h'
    rw [HL.out, HG.out] at hq
    repeat (go_big_quiet_step ((go_at_call 20; exact Calls.ext (hq _))))
    exact wpQuiet_nil rfl
  · have hblk : Blk w1 b1 #[.int .i64 0, .int .i64 0, .int .i64 0] 38 := hblk
    have bel : Below w.heap.size w w1 := bel.trans (hw1.mono bel.size)
    have k0 := k0.below hw1
    have kr := kr.below hw1
    have c2 := hblk.cell
    have f2 := hblk.free
    simp only [List.drop_succ_cons, List.drop_zero, Act.put, List.setIfInBounds_toArray, List.set_cons_zero, List.set_cons_succ]
    go_wp2
    have hn0 : b1 ≠ b := by omega
    have hnr : b1 ≠ w.heap.size + 1 := by omega
    have k0 := ((k0.other ⟨b1, 0, none⟩ hn0 (.int .i64 lg)).other ⟨b1, 1, none⟩ hn0 (.int .i64 lk1)).other ⟨b1, 2, none⟩ hn0 (.int .i64 lh1)
    have kr := ((kr.other ⟨b1, 0, none⟩ hnr (.int .i64 lg)).other ⟨b1, 1, none⟩ hnr (.int .i64 lk1)).other ⟨b1, 2, none⟩ hnr (.int .i64 lh1)
    have k2 := ((hblk.set 0 (Value.int IntKind.i64 lg)).set 1 (Value.int IntKind.i64 lk1)).set 2 (Value.int IntKind.i64 lh1)
    have bel := ((bel.setCell (p := ⟨b1, 0, none⟩) (by simp; omega) (.int .i64 lg)).setCell (p := ⟨b1, 1, none⟩) (by simp; omega) (.int .i64 lk1)).setCell (p := ⟨b1, 2, none⟩) (by simp; omega) (.int .i64 lh1)
    simp only [List.setIfInBounds_toArray, List.set_cons_zero, List.set_cons_succ] at k2
    generalize ((w1.setCell ⟨b1, 0, none⟩ (Value.int IntKind.i64 lg)).setCell ⟨b1, 1, none⟩ (Value.int IntKind.i64 lk1)).setCell ⟨b1, 2, none⟩ (Value.int IntKind.i64 lh1) = w2 at k0 k2 kr bel ⊢
    clear c2 f2 hblk hw1
    refine wp_region_ext (by kernel_rfl) (by kernel_rfl) ?_
    have x0 := k0.ext
    have x2 := k2.ext
    have hn := fun w => neq3 (t := 38) (.inl rfl) lg lk1 lh1 g k h w
    by_cases heq : lg = g ∧ lk1 = k ∧ lh1 = h
    · obtain ⟨rfl, rfl, rfl⟩ := heq
      simp only [true_and, decide_true, Bool.not_true] at hn
      repeat (go_big_quiet_step (fail))
      refine wpQuiet_nil ?_
      rintro _ ⟨y, rfl⟩
      have c0 := (k0.below y.same).cell
      have cr := (kr.below y.same).cell
      have fr := (kr.below y.same).free
      clear x0 x2 hn
      go_wp2
      have bel := bel.trans (y.same.mono bel.size)
      have hk := (((k0.below y.same).other ⟨w.heap.size + 1, 0, none⟩ (by simp; omega) (.int .i64 lg)).other ⟨w.heap.size + 1, 1, none⟩ (by simp; omega) (.int .i64 lk1)).other ⟨w.heap.size + 1, 2, none⟩ (by simp; omega) (.int .i64 lh1)
      have kr := (((kr.below y.same).set 0 (Value.int IntKind.i64 lg)).set 1 (Value.int IntKind.i64 lk1)).set 2 (Value.int IntKind.i64 lh1)
      have bel := ((bel.setCell (p := ⟨w.heap.size + 1, 0, none⟩) (by simp) (.int .i64 lg)).setCell (p := ⟨w.heap.size + 1, 1, none⟩) (by simp) (.int .i64 lk1)).setCell (p := ⟨w.heap.size + 1, 2, none⟩) (by simp) (.int .i64 lh1)
      simp only [List.setIfInBounds_toArray, List.set_cons_zero, List.set_cons_succ] at kr
      have cr := kr.cell
      generalize ((y.at_.setCell ⟨w.heap.size + 1, 0, none⟩ (.int .i64 lg)).setCell ⟨w.heap.size + 1, 1, none⟩ (.int .i64 lk1)).setCell ⟨w.heap.size + 1, 2, none⟩ (.int .i64 lh1) = w3 at hk cr bel ⊢
      exact bodyPost_ret (v := .agg #[.int .i64 lg, .int .i64 lk1, .int .i64 lh1]) (by simp [results, Try.results23, go_sem, cr]) rfl ⟨rfl, But.of bel, hk⟩
    · simp only [heq, decide_false, Bool.not_false] at hn
      repeat (go_big_quiet_step (fail))
      refine wpQuiet_nil ?_
      rintro _ ⟨y, rfl⟩
      have c0 := (k0.below y.same).cell
      have f0 := (k0.below y.same).free
      have c2 := (k2.below y.same).cell
      have cr := (kr.below y.same).cell
      have fr := (kr.below y.same).free
      have hnb : ¬ w.heap.size + 1 = b := by omega
      have hnb' : ¬ b = w.heap.size + 1 := by omega
      clear x0 x2 hn heq
      go_wp2_with fail
      have bel := bel.trans (y.same.mono bel.size)
      have hk := (((((k0.below y.same).set 0 (Value.int IntKind.i64 lg)).set 1 (Value.int IntKind.i64 lk1)).set 2 (Value.int IntKind.i64 lh1)).other ⟨w.heap.size + 1, 0, none⟩ (by simp; omega) (.int .i64 lg)).other ⟨w.heap.size + 1, 1, none⟩ (by simp; omega) (.int .i64 lk1) |>.other ⟨w.heap.size + 1, 2, none⟩ (by simp; omega) (.int .i64 lh1)
      have but := (((But.of (b := b) bel).set (p := ⟨b, 0, none⟩) (.inl rfl) (Value.int IntKind.i64 lg)).set (p := ⟨b, 1, none⟩) (.inl rfl) (Value.int IntKind.i64 lk1)).set (p := ⟨b, 2, none⟩) (.inl rfl) (Value.int IntKind.i64 lh1)
      have but := ((but.set (p := ⟨w.heap.size + 1, 0, none⟩) (.inr (by simp)) (Value.int IntKind.i64 lg)).set (p := ⟨w.heap.size + 1, 1, none⟩) (.inr (by simp)) (Value.int IntKind.i64 lk1)).set (p := ⟨w.heap.size + 1, 2, none⟩) (.inr (by simp)) (Value.int IntKind.i64 lh1)
      have kr := ((((((kr.below y.same).other ⟨b, 0, none⟩ hnb' (Value.int IntKind.i64 lg)).other ⟨b, 1, none⟩ hnb' (Value.int IntKind.i64 lk1)).other ⟨b, 2, none⟩ hnb' (Value.int IntKind.i64 lh1)).set 0 (Value.int IntKind.i64 lg)).set 1 (Value.int IntKind.i64 lk1)).set 2 (Value.int IntKind.i64 lh1)
      simp only [List.setIfInBounds_toArray, List.set_cons_zero, List.set_cons_succ] at kr hk
      have cr := kr.cell
      exact bodyPost_ret (v := .agg #[.int .i64 lg, .int .i64 lk1, .int .i64 lh1]) (by simp [results, Try.results23, go_sem, cr]) rfl ⟨rfl, but, hk⟩
theorem marks_any (b : Nat) (g k h : Int) (T : TypeId) (w : World) (hb : Blk w b #[.int .i64 g, .int .i64 k, .int .i64 h] T) :
    Calls Try.prog 21 #[.pointer (some ⟨b, 0, none⟩)] w fun e w' => e = .returned (.agg #[.int .i64 g, .int .i64 k, .int .i64 h]) ∧ Below w.heap.size w w' := by
  have hc := (hb.old (Obj.cells #[Value.int IntKind.i64 0, Value.int IntKind.i64 0, Value.int IntKind.i64 0] 38)).cell
  go_enter Try.func21, Try.ntmps21
  go_wp2
  go_returns
  exact ⟨rfl, by go_grown⟩
theorem raise_nil (g k h : Int) (w : World) :
    Calls Try.prog 23 #[.pointer none, .agg #[.int .i64 g, .int .i64 k, .int .i64 h]] w fun e w' => e = .returned (.agg #[.int .i64 0, .int .i64 0, .int .i64 0]) ∧ Below w.heap.size w w' := by
  go_enter Try.func23, Try.ntmps23
  go_wp2
  go_returns
  exact ⟨rfl, by go_grown⟩
theorem new_any (w : World) :
    Calls Try.prog 17 #[] w fun e w' => e = .returned (.pointer (some ⟨w.heap.size, 0, none⟩)) ∧ Below w.heap.size w w' ∧ Blk w' w.heap.size #[.int .i64 0, .int .i64 0, .int .i64 0] 84 := by
  go_enter Try.func17, Try.ntmps17
  go_wp2
  go_ret
  exact ⟨rfl, by go_grown, Blk.new rfl _ _⟩
set_option maxHeartbeats 400000 in
theorem knows_fence (w : World) :
    Calls Try.prog 18 #[] w fun e w' => e = .returned (.bool true) ∧ Below w.heap.size w w' := by
  go_enter Try.func18, Try.ntmps18
  go_wp2_with fail
  refine (new_any w).mono ?_
  rintro e w1 ⟨rfl, bel, k0⟩
  have hlt := k0.lt
  go_wp2_with fail
  refine (raise_any w.heap.size 0 0 0 1 0 5 _ k0).mono ?_
  rintro e w2 ⟨rfl, but, k1⟩
  have bel := but.below bel (by omega) (Nat.le_refl _)
  have hlt := k1.lt
  rw [show lk 0 0 0 5 = (0, 5) from by decide, show max (0 : Int) 1 = 1 from by decide] at *
  clear but k0
  go_wp2_with fail
  have k1 := k1.old (Obj.cells #[Value.int IntKind.i64 1, Value.int IntKind.i64 0, Value.int IntKind.i64 5] 38)
  have k3 : Blk (w2.alloc (Obj.cells #[Value.int IntKind.i64 1, Value.int IntKind.i64 0, Value.int IntKind.i64 5] 38)) w2.heap.size _ _ := Blk.new rfl _ _
  have bel := bel.alloc (by omega) (Obj.cells #[Value.int IntKind.i64 1, Value.int IntKind.i64 0, Value.int IntKind.i64 5] 38)
  refine (raise_any w.heap.size 1 0 5 0 1 2 _ k1).mono ?_
  rintro e w3 ⟨rfl, but, k1⟩
  have k3 := but.blk k3 (by omega)
  have bel := but.below bel (by simp; omega) (Nat.le_refl _)
  have hlt2 := k3.lt
  rw [show lk 0 5 1 2 = (1, 2) from by decide, show max (1 : Int) 0 = 1 from by decide] at *
  clear but
  go_wp2_with fail
  have k1 := k1.old (Obj.cells #[Value.int IntKind.i64 1, Value.int IntKind.i64 1, Value.int IntKind.i64 2] 38)
  have k3 := k3.old (Obj.cells #[Value.int IntKind.i64 1, Value.int IntKind.i64 1, Value.int IntKind.i64 2] 38)
  have k4 : Blk (w3.alloc (Obj.cells #[Value.int IntKind.i64 1, Value.int IntKind.i64 1, Value.int IntKind.i64 2] 38)) w3.heap.size _ _ := Blk.new rfl _ _
  have bel := bel.alloc (by omega) (Obj.cells #[Value.int IntKind.i64 1, Value.int IntKind.i64 1, Value.int IntKind.i64 2] 38)
  generalize w3.alloc (Obj.cells #[Value.int IntKind.i64 1, Value.int IntKind.i64 1, Value.int IntKind.i64 2] 38) = w4 at k1 k3 k4 bel ⊢
  refine wp_region_ext (by kernel_rfl) (by kernel_rfl) ?_
  have x1 := k1.ext
  have x3 := k3.ext
  have x4 := k4.ext
  have h1 := fun w => eql3 (t := 38) (.inl rfl) 1 0 5 1 0 5 w
  have h2 := fun w => eql3 (t := 38) (.inl rfl) 1 1 2 1 1 2 w
  have h3 := fun w => eql3 (t := 38) (.inl rfl) 0 0 0 0 0 0 w
  simp only [and_self, decide_true] at h1 h2 h3
  repeat (go_big_quiet_step (first | (go_at_call 21; exact Calls.ext (marks_any _ _ _ _ _ _ (k1.below (Ext.same _)))) | (go_at_call 23; exact Calls.ext (raise_nil _ _ _ _))))
  refine wpQuiet_nil ?_
  rintro _ ⟨y, rfl⟩
  go_wp2
  go_returns
  exact ⟨rfl, bel.trans (y.same.mono bel.size)⟩
end Go.Proofs.Ytkiaeepdpmcafaa
