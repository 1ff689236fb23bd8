/-
  The statement FenceRaises: the walk of its text.
-/
import Derived.Test.YtkiaeepdpmcafaaRefLeast
import Derived.Test.YtkiaeepdpmcafaaPhases

namespace Go.Proofs.Ytkiaeepdpmcafaa
open Go.ChangeShapes Go.WideShapes Go.ChangeAt Go.RowKit

theorem raises_long (a : Option Addr) (len cap : Nat) (w : World) (hl : 100 < len) (hm : len ≤ 9223372036854775807) :
    Calls Try.prog 5 #[.slice a len cap] w fun e w' => e = .returned (.bool true) ∧ Below w.heap.size w w' := by
  have h1 : (100 : Int) < (len : Int) := by omega
  go_enter Try.func5, Try.ntmps5
  go_wp2_with (first | (go_at_call 17; refine (new_any _).mono ?_; rintro e w1 ⟨rfl, bel, kP⟩) | (go_at_call 18; refine (knows_fence _).mono ?_; rintro e w2 ⟨rfl, b2⟩))
  go_returns
  exact ⟨rfl, Below.on bel b2⟩

set_option maxHeartbeats 1000000 in
theorem raises_zero (a : Option Addr) (cap : Nat) (w : World) :
    Calls Try.prog 5 #[.slice a 0 cap] w fun e w' => e = .returned (.bool true) ∧ Below w.heap.size w w' := by
  go_enter Try.func5, Try.ntmps5
  go_wp2_with (first | (go_at_call 17; refine (new_any _).mono ?_; rintro e w1 ⟨rfl, bel, kP⟩))
  have bel := bel.alloc bel.size (Obj.cells #[Value.int IntKind.i64 0, Value.int IntKind.i64 0, Value.int IntKind.i64 0] 36)
  generalize w1.alloc (Obj.cells #[Value.int IntKind.i64 0, Value.int IntKind.i64 0, Value.int IntKind.i64 0] 36) = w2 at *
  generalize w1.heap.size = pn at *
  go_loopw [5] (fun i wr => i = .int .i64 0 ∧ Below w.heap.size w wr) (fun _ _ => 0)
  case atStart => exact ⟨rfl, bel⟩
  case round =>
    clear kP bel
    obtain ⟨rfl, bel⟩ := hrel
    go_wp2_with (first | (go_at_call 18; refine (knows_fence _).mono ?_; rintro e w5 ⟨rfl, b5⟩))
    go_returns
    exact ⟨rfl, Below.on bel b5⟩

set_option maxHeartbeats 4000000 in
theorem raises_walk (b off : Nat) (X Y Z : Nat → Int) (len cap : Nat) (w : World) (hl : ¬ 100 < len) (hb : 0 < len → b < w.heap.size)
    (hx : ∀ i, i < len → w.cell? ⟨b, off + i * 3, none⟩ = some (.int .i64 (X i)) ∧ w.cell? ⟨b, off + i * 3 + 1, none⟩ = some (.int .i64 (Y i)) ∧ w.cell? ⟨b, off + i * 3 + 2, none⟩ = some (.int .i64 (Z i))) :
    Calls Try.prog 5 #[.slice (some ⟨b, off, none⟩) len cap] w fun e w' => e = .returned (.bool true) ∧ Below w.heap.size w w' := by
  have h1 : ¬ (100 : Int) < (len : Int) := by omega
  have HX := hid hx
  clear hx
  go_enter Try.func5, Try.ntmps5
  go_wp2_with (first | (go_at_call 17; refine (new_any _).mono ?_; rintro e w1 ⟨rfl, bel, kP⟩))
  have kN : Blk (w1.alloc _) w1.heap.size #[.int .i64 0, .int .i64 0, .int .i64 0] 36 := Blk.new rfl _ _
  have hne := kP.lt
  have kP := kP.old (Obj.cells #[Value.int IntKind.i64 0, Value.int IntKind.i64 0, Value.int IntKind.i64 0] 36)
  have bel := bel.alloc bel.size (Obj.cells #[Value.int IntKind.i64 0, Value.int IntKind.i64 0, Value.int IntKind.i64 0] 36)
  have hlt := kP.lt
  generalize w1.alloc (Obj.cells #[Value.int IntKind.i64 0, Value.int IntKind.i64 0, Value.int IntKind.i64 0] 36) = w2 at *
  generalize w1.heap.size = pn at *
  go_loopw [5] (fun i wr => ∃ k : Nat, k ≤ len ∧ i = .int .i64 k ∧ ∃ g q h : Int, Blk wr w.heap.size #[.int .i64 g, .int .i64 q, .int .i64 h] 84 ∧ Blk wr pn #[.int .i64 g, .int .i64 q, .int .i64 h] 36 ∧ Below w.heap.size w wr) (fun i _ => len - (intOf i).toNat)
  case atStart => exact ⟨0, by omega, rfl, 0, 0, 0, kP, kN, bel⟩
  case round =>
    clear kP kN bel hlt
    obtain ⟨k, hk, rfl, g, q, h, kP, kN, bel⟩ := hrel
    by_cases hlt : k < len
    · have hbl := hb (by omega)
      obtain ⟨c0, c1, c2⟩ := HX.out k hlt
      have hrow : ∀ w', Below w.heap.size w w' → w'.cell? ⟨b, off + k * 3, none⟩ = some (.int .i64 (X k)) ∧ w'.cell? ⟨b, off + k * 3 + 1, none⟩ = some (.int .i64 (Y k)) ∧ w'.cell? ⟨b, off + k * 3 + 2, none⟩ = some (.int .i64 (Z k)) :=
        fun w' h => ⟨(h.cell (p := ⟨b, off + k * 3, none⟩) hbl).trans c0, (h.cell (p := ⟨b, off + k * 3 + 1, none⟩) hbl).trans c1, (h.cell (p := ⟨b, off + k * 3 + 2, none⟩) hbl).trans c2⟩
      clear c0 c1 c2
      generalize X k = x at hrow
      generalize Y k = y at hrow
      generalize Z k = z at hrow
      have Hrow := hid hrow
      clear hrow
      have cl := least_any g q h x y z
      have cr := refleast_any g q h x y z
      have cs := raise_any w.heap.size g q h x y z
      generalize lk q h y z = L at cl cr cs
      obtain ⟨L1, L2⟩ := L
      generalize max g x = M at cl cr cs
      simp only at cl cr cs
      go_wp2_with fail
      refine wp_region_hda (n := 8) _ 6 #[.int .i64 0, .int .i64 0, .int .i64 0] 36 (by kernel_rfl) (by kernel_rfl) rfl rfl rfl (fun a' w' => by go_simp) ?_
      apply Exists.intro
      refine ⟨fun v1 hv1 => ?_, fun v1 pX hv1 hp hblk => ?_⟩
      · have xR : ∀ e : Ext v1, e.at_.cell? ⟨b, off + k * 3, none⟩ = some (.int .i64 x) ∧ e.at_.cell? ⟨b, off + k * 3 + 1, none⟩ = some (.int .i64 y) ∧ e.at_.cell? ⟨b, off + k * 3 + 2, none⟩ = some (.int .i64 z) :=
          fun e => Hrow.out _ (Below.on (Below.on bel hv1) e.same)
        have xR0 := fun e => (xR e).1
        have xR1 := fun e => (xR e).2.1
        have xR2 := fun e => (xR e).2.2
        clear xR
        simp only [List.take_succ_cons, List.take_zero]
        repeat (go_big_quiet_step (first | (go_at_call 21; exact Calls.ext (marks_any _ _ _ _ 84 _ ((kP.below hv1).below (Ext.same _)))) | (go_at_call 20; exact Calls.ext (cl _)) | (go_at_call 19; exact Calls.ext (as_any _ _ _ _))))
        exact wpQuiet_nil rfl
      have hblk : Blk v1 pX #[.int .i64 0, .int .i64 0, .int .i64 0] 36 := hblk
      simp only [List.drop_succ_cons, List.drop_zero, Act.put, List.setIfInBounds_toArray, List.set_cons_zero, List.set_cons_succ]
      have hgeX : w.heap.size ≤ pX := Nat.le_trans bel.size hp
      have c2 := hblk.cell
      have f2 := hblk.free
      go_wp2_with fail
      clear c2 f2
      change Code.wp _ _ _ _ (setAll v1 pX 0 [.int .i64 M, .int .i64 L1, .int .i64 L2])
      have hneP := kP.ne hp
      have hneN := kN.ne hp
      have kP := Blk.setAll_other hneP [.int .i64 M, .int .i64 L1, .int .i64 L2] 0 _ (kP.below hv1)
      have kN := Blk.setAll_other hneN [.int .i64 M, .int .i64 L1, .int .i64 L2] 0 _ (kN.below hv1)
      have kX := hblk.setAll_self [.int .i64 M, .int .i64 L1, .int .i64 L2] rfl
      have bel := Below.setAll hgeX [.int .i64 M, .int .i64 L1, .int .i64 L2] 0 _ (Below.on bel hv1)
      generalize setAll v1 pX 0 [.int .i64 M, .int .i64 L1, .int .i64 L2] = w3 at kP kN kX bel ⊢
      clear hv1 hblk hp
      refine wp_region_hd (n := 7) (by kernel_rfl) (by kernel_rfl) ?_
      apply Exists.intro
      refine ⟨fun v1 hv1 => ?_, fun v1 hv1 => ?_⟩
      · have xR : ∀ e : Ext v1, e.at_.cell? ⟨b, off + k * 3, none⟩ = some (.int .i64 x) ∧ e.at_.cell? ⟨b, off + k * 3 + 1, none⟩ = some (.int .i64 y) ∧ e.at_.cell? ⟨b, off + k * 3 + 2, none⟩ = some (.int .i64 z) :=
          fun e => Hrow.out _ (Below.on (Below.on bel hv1) e.same)
        have xR0 := fun e => (xR e).1
        have xR1 := fun e => (xR e).2.1
        have xR2 := fun e => (xR e).2.2
        clear xR
        have xN := (kN.below hv1).ext
        simp only [List.take_succ_cons, List.take_zero]
        repeat (go_big_quiet_step (first | (go_at_call 22; exact Calls.ext (cr _)) | (go_at_call 19; exact Calls.ext (as_any _ _ _ _))))
        exact wpQuiet_nil rfl
      simp only [List.drop_succ_cons, List.drop_zero]
      have hgeN : w.heap.size ≤ pn := by omega
      have kN1 := kN.below hv1
      have c2 := kN1.cell
      have f2 := kN1.free
      go_wp2_with fail
      clear c2 f2
      change Code.wp _ _ _ _ (setAll v1 pn 0 [.int .i64 M, .int .i64 L1, .int .i64 L2])
      have kP4 := Blk.setAll_other (b := pn) (by omega) [.int .i64 M, .int .i64 L1, .int .i64 L2] 0 _ (kP.below hv1)
      have kX4 := Blk.setAll_other hneN.symm [.int .i64 M, .int .i64 L1, .int .i64 L2] 0 _ (kX.below hv1)
      have kN4 := kN1.setAll_self [.int .i64 M, .int .i64 L1, .int .i64 L2] rfl
      have bel4 := Below.setAll hgeN [.int .i64 M, .int .i64 L1, .int .i64 L2] 0 _ (Below.on bel hv1)
      generalize setAll v1 pn 0 [.int .i64 M, .int .i64 L1, .int .i64 L2] = w4 at kP4 kN4 kX4 bel4 ⊢
      clear hv1 kN1
      have hn := fun w => neq3 (t := 36) (.inr rfl) M L1 L2 M L1 L2 w
      simp only [and_self, decide_true, Bool.not_true] at hn
      refine wp_region_phases_in (rel_but w.heap.size) (fun w' => Blk w' w.heap.size #[.int .i64 g, .int .i64 q, .int .i64 h] 84) (N1 := 21) (lev := [0,1,2,3,4,5,6,7,8,11]) (ph := [(9, [10,12,13,14,15,16,17,18,19,20])]) (by kernel_rfl) (by kernel_rfl) kP4 (fun _ _ h hb => h.below hb) ?_
      apply Exists.intro
      refine ⟨fun v1 hv1 => ?_, ?_⟩
      · have bel1 := But.below hv1 bel4 bel4.size (Nat.le_refl _)
        have xR : ∀ e : Ext v1, e.at_.cell? ⟨b, off + k * 3, none⟩ = some (.int .i64 x) ∧ e.at_.cell? ⟨b, off + k * 3 + 1, none⟩ = some (.int .i64 y) ∧ e.at_.cell? ⟨b, off + k * 3 + 2, none⟩ = some (.int .i64 z) :=
          fun e => Hrow.out _ (Below.on bel1 e.same)
        have xR0 := fun e => (xR e).1
        have xR1 := fun e => (xR e).2.1
        have xR2 := fun e => (xR e).2.2
        clear xR
        have xN := (But.blk hv1 kN4 (by omega)).ext
        have xX := (But.blk hv1 kX4 hneP).ext
        simp only [pick, List.getElem?_toArray, List.getElem?_cons_succ, List.getElem?_cons_zero, Option.toList_some, List.cons_append, List.nil_append]
        repeat (go_big_quiet_step (fail))
        exact wpQuiet_nil rfl
      refine LexP.cons (o := ?oo) ?ho (fun v w' => v = .agg #[.int .i64 M, .int .i64 L1, .int .i64 L2] ∧ Blk w' w.heap.size #[.int .i64 M, .int .i64 L1, .int .i64 L2] 84) (fun _ _ => True) ?_ ?_ ?_ ?_ ?_
      case ho =>
        simp only [List.getElem?_toArray, List.getElem?_cons_succ, List.getElem?_cons_zero]
        rfl
      · rintro v w' w'' ⟨h1, h2⟩ hb'
        exact ⟨h1, h2.below hb'⟩
      · exact fun _ _ _ _ _ => trivial
      · exact fun _ _ _ => trivial
      · intro v1 hv1 _ hG
        refine ⟨rfl, .inr ⟨23, #[.pointer (some ⟨w.heap.size, 0, none⟩), .agg #[.int .i64 x, .int .i64 y, .int .i64 z]], by go_simp, ?_⟩⟩
        refine (cs v1 hG).mono ?_
        rintro e w2 ⟨rfl, hb2, hk2⟩
        exact ⟨_, rfl, hb2, ⟨rfl, hk2⟩, trivial⟩
      rintro v0 w0 ⟨rfl, -⟩
      apply Exists.intro
      refine ⟨fun v1 hv1 hf => ?_, ?_⟩
      · have kP1 := hf.2
        simp only [pick, List.getElem?_toArray, List.getElem?_cons_succ, List.getElem?_cons_zero, Option.toList_some, List.cons_append, List.nil_append, Act.put, List.setIfInBounds_toArray, List.set_cons_zero, List.set_cons_succ]
        have xN := (But.blk hv1 kN4 (by omega)).ext
        repeat (go_big_quiet_step (first | (go_at_call 21; exact Calls.ext (marks_any _ _ _ _ 84 _ (kP1.below (Ext.same _)))) | (go_at_call 19; exact Calls.ext (as_any _ _ _ _))))
        exact wpQuiet_nil rfl
      refine LexP.nil fun v1 hv1 hf _ => ?_
      have kP1 := hf.2
      have kN1 := But.blk hv1 kN4 (by omega)
      have bel1 := But.below hv1 bel4 bel4.size (Nat.le_refl _)
      simp only [List.drop_succ_cons, List.drop_zero]
      go_wp2_with fail
      refine ⟨⟨k + 1, by omega, by go_num, M, L1, L2, kP1, kN1, bel1⟩, by simp [intOf]; omega⟩
    · obtain rfl : k = len := by omega
      go_wp2_with (first | (go_at_call 18; refine (knows_fence _).mono ?_; rintro e w5 ⟨rfl, b5⟩))
      go_returns
      exact ⟨rfl, Below.on bel b5⟩
end Go.Proofs.Ytkiaeepdpmcafaa
