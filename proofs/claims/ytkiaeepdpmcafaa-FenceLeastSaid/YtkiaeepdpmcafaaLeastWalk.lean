/-
  The statement FenceLeast: the walk of its text.
-/
import Derived.Test.YtkiaeepdpmcafaaFenceMore

namespace Go.Proofs.Ytkiaeepdpmcafaa
open Go.ChangeShapes Go.WideShapes Go.ChangeAt Go.RowKit

/-- plain facts on the order of marks -/
theorem high_least (ag ak ah bg bk bh : Int) : highB (max ag bg) (lk ak ah bk bh).1 (lk ak ah bk bh).2 ag ak ah = true ∧ highB (max ag bg) (lk ak ah bk bh).1 (lk ak ah bk bh).2 bg bk bh = true := by
  simp only [lk]; unfold highB; grind
theorem least_high (ag ak ah bg bk bh cg ck ch : Int) (h1 : highB cg ck ch ag ak ah = true) (h2 : highB cg ck ch bg bk bh = true) : highB cg ck ch (max ag bg) (lk ak ah bk bh).1 (lk ak ah bk bh).2 = true := by
  simp only [lk] at *; unfold highB at *; grind
theorem lk_comm (ak ah bk bh : Int) : lk bk bh ak ah = lk ak ah bk bh := by simp only [lk]; grind
theorem lk_assoc (ak ah bk bh ck ch : Int) : lk ak ah (lk bk bh ck ch).1 (lk bk bh ck ch).2 = lk (lk ak ah bk bh).1 (lk ak ah bk bh).2 ck ch := by simp only [lk]; grind
theorem lk_self (ak ah : Int) : lk ak ah ak ah = (ak, ah) := by simp [lk]

set_option maxHeartbeats 1000000 in
theorem law_walk (ag ak ah bg bk bh cg ck ch : Int) (w : World) :
    Calls Try.prog 6 #[.agg #[.int .i64 ag, .int .i64 ak, .int .i64 ah], .agg #[.int .i64 bg, .int .i64 bk, .int .i64 bh], .agg #[.int .i64 cg, .int .i64 ck, .int .i64 ch]] w fun e w' => e = .returned (.bool true) ∧ Below w.heap.size w w' := by
  have hl := high_least ag ak ah bg bk bh
  have lh := least_high ag ak ah bg bk bh cg ck ch
  have cab := least_any ag ak ah bg bk bh
  have cba := least_any bg bk bh ag ak ah
  have cbc := least_any bg bk bh cg ck ch
  have cabc := least_any ag ak ah (max bg cg) (lk bk bh ck ch).1 (lk bk bh ck ch).2
  have clc := least_any (max ag bg) (lk ak ah bk bh).1 (lk ak ah bk bh).2 cg ck ch
  have caa := least_any ag ak ah ag ak ah
  rw [lk_comm, show max bg ag = max ag bg by omega] at cba
  rw [lk_assoc, show max ag (max bg cg) = max (max ag bg) cg by omega] at cabc
  rw [lk_self, show max ag ag = ag by omega] at caa
  generalize (lk (lk ak ah bk bh).1 (lk ak ah bk bh).2 ck ch) = M at *
  obtain ⟨mk1, mh1⟩ := M
  generalize max (max ag bg) cg = mg at *
  generalize (lk bk bh ck ch) = N at *
  obtain ⟨nk1, nh1⟩ := N
  generalize max bg cg = ng at *
  generalize lk ak ah bk bh = L at *
  obtain ⟨lk1, lh1⟩ := L
  generalize max ag bg = lg at *
  obtain ⟨hiA, hiB⟩ := hl
  simp only at *
  have h1 := fun w => eql3 (t := 38) (.inl rfl) lg lk1 lh1 lg lk1 lh1 w
  have h2 := fun w => eql3 (t := 38) (.inl rfl) mg mk1 mh1 mg mk1 mh1 w
  have h3 := fun w => eql3 (t := 38) (.inl rfl) ag ak ah ag ak ah w
  simp only [and_self, decide_true] at h1 h2 h3
  go_enter Try.func6, Try.ntmps6
  go_wp2_with fail
  refine (cab _).mono ?_
  rintro e w1 ⟨rfl, hb⟩
  have k0 := (((Blk.new rfl #[.int .i64 ag, .int .i64 ak, .int .i64 ah] 38).old _).old _).below hb
  have k1 := ((Blk.new (by simp : (w.alloc _).heap.size = w.heap.size + 1) #[.int .i64 bg, .int .i64 bk, .int .i64 bh] 38).old _).below hb
  have k2 := ((Blk.new (by simp : ((w.alloc _).alloc _).heap.size = w.heap.size + 1 + 1) #[.int .i64 cg, .int .i64 ck, .int .i64 ch] 38)).below hb
  have b1 : Below w.heap.size w w1 := Below.on (by go_grown) hb
  clear hb
  go_wp2_with fail
  have k0 := k0.old (Obj.cells #[Value.int IntKind.i64 lg, Value.int IntKind.i64 lk1, Value.int IntKind.i64 lh1] 38)
  have k1 := k1.old (Obj.cells #[Value.int IntKind.i64 lg, Value.int IntKind.i64 lk1, Value.int IntKind.i64 lh1] 38)
  have k2 := k2.old (Obj.cells #[Value.int IntKind.i64 lg, Value.int IntKind.i64 lk1, Value.int IntKind.i64 lh1] 38)
  have k3 := Blk.new (w := w1) rfl #[Value.int IntKind.i64 lg, Value.int IntKind.i64 lk1, Value.int IntKind.i64 lh1] 38
  have b2 := b1.alloc b1.size (Obj.cells #[Value.int IntKind.i64 lg, Value.int IntKind.i64 lk1, Value.int IntKind.i64 lh1] 38)
  generalize w1.alloc (Obj.cells #[Value.int IntKind.i64 lg, Value.int IntKind.i64 lk1, Value.int IntKind.i64 lh1] 38) = w2 at k0 k1 k2 k3 b2 ⊢
  clear b1
  refine wp_region_ext (by kernel_rfl) (by kernel_rfl) ?_
  have x0 := k0.ext
  have x1 := k1.ext
  have x2 := k2.ext
  have x3 := k3.ext
  repeat (go_big_quiet_step (first | (go_at_call 19; exact Calls.ext (as_any _ _ _ _)) | (go_at_call 24; exact Calls.ext ((high_any _ _ _ _ _ _ _)))))
  refine wpQuiet_nil ?_
  rintro _ ⟨y, rfl⟩
  have k0 := k0.below y.same
  have k1 := k1.below y.same
  have k2 := k2.below y.same
  have k3 := k3.below y.same
  have b2 := b2.trans (y.same.mono b2.size)
  clear x0 x1 x2 x3
  generalize y.at_ = w3 at k0 k1 k2 k3 b2 ⊢
  clear y
  go_wp2_with fail
  refine wp_region_ext (by kernel_rfl) (by kernel_rfl) ?_
  have x0 := k0.ext
  have x1 := k1.ext
  have x2 := k2.ext
  have x3 := k3.ext
  have hthree : highB cg ck ch ag ak ah = false ∨ (highB cg ck ch ag ak ah = true ∧ highB cg ck ch bg bk bh = false) ∨ (highB cg ck ch ag ak ah = true ∧ highB cg ck ch bg bk bh = true ∧ highB cg ck ch lg lk1 lh1 = true) := by
    cases e1 : highB cg ck ch ag ak ah
    · simp
    · cases e2 : highB cg ck ch bg bk bh
      · simp
      · simp [lh e1 e2]
  clear lh
  have hca := fun w => high_any cg ck ch ag ak ah w
  have hcb := fun w => high_any cg ck ch bg bk bh w
  have hcl := fun w => high_any cg ck ch lg lk1 lh1 w
  rcases hthree with e1 | ⟨e1, e2⟩ | ⟨e1, e2, e3⟩
  case' inl => rw [e1] at hca; clear e1
  case' inr.inl => rw [e1] at hca; rw [e2] at hcb; clear e1 e2
  case' inr.inr => rw [e1] at hca; rw [e2] at hcb; rw [e3] at hcl; clear e1 e2 e3
  all_goals
    repeat (go_big_quiet_step (first | (go_at_call 19; exact Calls.ext (as_any _ _ _ _)) | (go_at_call 24; first | (with_reducible exact Calls.ext (hca _)) | (with_reducible exact Calls.ext (hcb _)) | (with_reducible exact Calls.ext (hcl _)))))
    refine wpQuiet_nil ?_
    rintro _ ⟨y, rfl⟩
    have k0 := k0.below y.same
    have k1 := k1.below y.same
    have k2 := k2.below y.same
    have k3 := k3.below y.same
    have b2 := b2.trans (y.same.mono b2.size)
    clear x0 x1 x2 x3 hca hcb hcl
    generalize y.at_ = w4 at k0 k1 k2 k3 b2 ⊢
    clear y
    go_wp2_with fail
    refine wp_region_ext (by kernel_rfl) (by kernel_rfl) ?_
    have x0 := k0.ext
    have x1 := k1.ext
    have x2 := k2.ext
    have x3 := k3.ext
    repeat (go_big_quiet_step (first | (go_at_call 20; first | (with_reducible exact Calls.ext (cba _)) | (with_reducible exact Calls.ext (cbc _)) | (with_reducible exact Calls.ext (cabc _)) | (with_reducible exact Calls.ext (clc _)) | (with_reducible exact Calls.ext (caa _))) | (go_at_call 18; exact Calls.ext (knows_fence _))))
    refine wpQuiet_nil ?_
    rintro _ ⟨y, rfl⟩
    go_wp2
    go_returns
    exact ⟨rfl, b2.trans (y.same.mono b2.size)⟩
end Go.Proofs.Ytkiaeepdpmcafaa
