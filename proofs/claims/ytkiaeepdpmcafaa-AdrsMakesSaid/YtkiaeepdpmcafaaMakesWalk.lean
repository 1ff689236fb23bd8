/-
  The statement AdrsMakes: the walk of its text.
-/
import Derived.Test.YtkiaeepdpmcafaaApartWalk
import Derived.Test.YtkiaeepdpmcafaaAdrsRef
import Derived.Test.YtkiaeepdpmcafaaPhases

namespace Go.Proofs.Ytkiaeepdpmcafaa
open Go.ChangeShapes Go.WideShapes Go.ChangeAt Go.RowKit

set_option maxHeartbeats 4000000 in
theorem makes_walk (la tr le s a0 a1 a2 a3 a4 a5 a6 a7 : Int) (w : World) (ht0 : 0 ≤ tr) (ht1 : tr < 18446744073709551616) (hb : ∀ x ∈ [a0, a1, a2, a3, a4, a5, a6, a7], 0 ≤ x ∧ x < 4294967296) :
    Calls Try.prog 7 #[.int .u32 la, .int .u64 tr, .int .u32 le, .agg #[.int .u32 a0, .int .u32 a1, .int .u32 a2, .int .u32 a3, .int .u32 a4, .int .u32 a5, .int .u32 a6, .int .u32 a7], .int .u32 s] w fun e w' => e = .returned (.bool true) ∧ Below w.heap.size w w' := by
  have h1 := fun w => eql49 [la, tr / 4294967296, tr % 4294967296, 0, le, 0, 0, 0] [la, tr / 4294967296, tr % 4294967296, 0, le, 0, 0, 0] rfl rfl w
  have h2 := fun w => eql49 [la, tr / 4294967296, tr % 4294967296, 1, le, 0, 0, 0] [la, tr / 4294967296, tr % 4294967296, 1, le, 0, 0, 0] rfl rfl w
  have h3 := fun w => eql49 [la, tr / 4294967296, tr % 4294967296, 2, 0, 0, 0, 0] [la, tr / 4294967296, tr % 4294967296, 2, 0, 0, 0, 0] rfl rfl w
  have h4 := fun w => eql49 [a0, a1, a2, a3, a4, le, la, 0] [a0, a1, a2, a3, a4, le, la, 0] rfl rfl w
  have h5 := fun w => eql49 [a0, a1, a2, a3, a4, a5, a6, s] [a0, a1, a2, a3, a4, a5, a6, s] rfl rfl w
  simp only [List.map_cons, List.map_nil, decide_true] at h1 h2 h3 h4 h5
  have kX : Blk (w.alloc (Obj.cells #[.int .u32 a0, .int .u32 a1, .int .u32 a2, .int .u32 a3, .int .u32 a4, .int .u32 a5, .int .u32 a6, .int .u32 a7] 49)) w.heap.size #[.int .u32 a0, .int .u32 a1, .int .u32 a2, .int .u32 a3, .int .u32 a4, .int .u32 a5, .int .u32 a6, .int .u32 a7] 49 := Blk.new rfl _ _
  have bel : Below w.heap.size w (w.alloc (Obj.cells #[.int .u32 a0, .int .u32 a1, .int .u32 a2, .int .u32 a3, .int .u32 a4, .int .u32 a5, .int .u32 a6, .int .u32 a7] 49)) := by go_grown
  obtain ⟨S, hS⟩ : ∃ S, strOfNums (wordBytes [a0, a1, a2, a3, a4, a5, a6, a7]) = S := ⟨_, rfl⟩
  have hS := hid hS
  go_enter Try.func7, Try.ntmps7
  go_wp2_with (first | (go_at_call 25; refine (ots_any _ _ _ _ (by assumption) (by assumption)).mono ?_; rintro e w5 ⟨rfl, b5⟩; replace bel := Below.on bel b5; replace kX := kX.below b5; clear b5) | (go_at_call 26; refine (ref_base _ _ _ _ _ (by assumption) (by assumption)).mono ?_; rintro e w5 ⟨rfl, b5⟩; replace bel := Below.on bel b5; replace kX := kX.below b5; clear b5) | (go_at_call 27; refine (ltree_any _ _ _ _ (by assumption) (by assumption)).mono ?_; rintro e w5 ⟨rfl, b5⟩; replace bel := Below.on bel b5; replace kX := kX.below b5; clear b5) | (go_at_call 28; refine (tree_any _ _ _ (by assumption) (by assumption)).mono ?_; rintro e w5 ⟨rfl, b5⟩; replace bel := Below.on bel b5; replace kX := kX.below b5; clear b5))
  refine wp_region_phases (N1 := 37) (lev := [0,1,2,3,4,5,6,7,8,9,10,11,12,13,14,15,16,17,18,19,20,21,22,23,24,25,26,29]) (ph := [(27, [28]), (30, [31,32,33,34,35,36])]) (by kernel_rfl) (by kernel_rfl) ?_
  apply Exists.intro
  refine ⟨fun w1 hb1 => ?_, ?_⟩
  · have xX := (kX.below hb1).ext
    simp only [pick, List.getElem?_toArray, List.getElem?_cons_succ, List.getElem?_cons_zero, Option.toList_some, List.cons_append, List.nil_append]
    repeat (go_big_quiet_step (first | (go_at_call 29; exact Calls.ext (at_any _ _ _ _ _ _ _ _ _ _ _)) | (go_at_call 30; exact Calls.ext (ref_at _ _ _ _ _ _ _ _ _ _ _ _)) | (go_at_call 31; exact Calls.ext (for_any _ _ _ _ _ _ _ _ _ _))))
    exact wpQuiet_nil rfl
  refine LexP.cons (o := ?oo) ?ho (fun v w' => ∃ g cap, v = .slice (some ⟨g, 0, none⟩) 32 cap ∧ Row8 w' g (wordBytes [a0, a1, a2, a3, a4, a5, a6, a7])) ?_ ?_ ?_
  case ho =>
    simp only [List.getElem?_toArray, List.getElem?_cons_succ, List.getElem?_cons_zero]
    rfl
  · rintro v w' w'' ⟨g, cap, h, hr⟩ hb'
    exact ⟨g, cap, h, hr.below hb'⟩
  · intro w1 hb1 _
    refine ⟨rfl, .inr ⟨32, #[.agg #[.int .u32 a0, .int .u32 a1, .int .u32 a2, .int .u32 a3, .int .u32 a4, .int .u32 a5, .int .u32 a6, .int .u32 a7]], by go_simp, ?_⟩⟩
    refine (adrs_bytes [a0, a1, a2, a3, a4, a5, a6, a7] rfl hb w1).mono ?_
    rintro e w2 ⟨g, cap, _, rfl, hb2, hr⟩
    exact ⟨_, rfl, hb2, g, cap, rfl, hr⟩
  rintro v0 w0 ⟨g, cap, rfl, -⟩
  apply Exists.intro
  refine ⟨fun w1 hb1 _ hf => ?_, ?_⟩
  · obtain ⟨g', cap', he, hr⟩ := hf
    injection he with e1 e2 e3
    injection e1 with e1
    injection e1 with e1 e4 e5
    subst e1 e3
    have hs : ∀ x : Ext w1, (convert 56 9 (.slice (some ⟨g, 0, none⟩) 32 cap)).run Try.prog x.at_ = .ok (.string S) x.at_ := fun x => hS.out ▸
      (hr.below x.same).string (bs := wordBytes [a0, a1, a2, a3, a4, a5, a6, a7]) Try.underlying56 Try.underlying5 Try.underlying9
    simp only [pick, List.getElem?_toArray, List.getElem?_cons_succ, List.getElem?_cons_zero, Option.toList_some, List.cons_append, List.nil_append, Act.put, List.setIfInBounds_toArray, List.set_cons_zero, List.set_cons_succ]
    repeat (go_big_quiet_step (fail))
    exact wpQuiet_nil rfl
  refine LexP.cons (o := ?oo2) ?ho2 (fun v w' => ∃ g cap, v = .slice (some ⟨g, 0, none⟩) 32 cap ∧ Row8 w' g (wordBytes [a0, a1, a2, a3, a4, a5, a6, a7])) ?_ ?_ ?_
  case ho2 =>
    simp only [List.getElem?_toArray, List.getElem?_cons_succ, List.getElem?_cons_zero]
    rfl
  · rintro v w' w'' ⟨g, cap, h, hr⟩ hb'
    exact ⟨g, cap, h, hr.below hb'⟩
  · intro w1 hb1 _
    refine ⟨rfl, .inr ⟨33, #[.agg #[.int .u32 a0, .int .u32 a1, .int .u32 a2, .int .u32 a3, .int .u32 a4, .int .u32 a5, .int .u32 a6, .int .u32 a7]], by go_simp, ?_⟩⟩
    refine (ref_bytes [a0, a1, a2, a3, a4, a5, a6, a7] rfl hb w1).mono ?_
    rintro e w2 ⟨g, cap, _, rfl, hb2, hr⟩
    exact ⟨_, rfl, hb2, g, cap, rfl, hr⟩
  rintro v0 w0 ⟨g2, cap2, rfl, -⟩
  apply Exists.intro
  refine ⟨fun w1 hb1 _ hf => ?_, ?_⟩
  · obtain ⟨g', cap', he, hr⟩ := hf
    injection he with e1 e2 e3
    injection e1 with e1
    injection e1 with e1 e4 e5
    subst e1 e3
    have hs : ∀ x : Ext w1, (convert 56 9 (.slice (some ⟨g2, 0, none⟩) 32 cap2)).run Try.prog x.at_ = .ok (.string S) x.at_ := fun x => hS.out ▸
      (hr.below x.same).string (bs := wordBytes [a0, a1, a2, a3, a4, a5, a6, a7]) Try.underlying56 Try.underlying5 Try.underlying9
    simp only [pick, List.getElem?_toArray, List.getElem?_cons_succ, List.getElem?_cons_zero, Option.toList_some, List.cons_append, List.nil_append, Act.put, List.setIfInBounds_toArray, List.set_cons_zero, List.set_cons_succ]
    repeat (go_big_quiet_step (first | (go_at_call 34; exact Calls.ext (knows04 _))))
    exact wpQuiet_nil rfl
  refine LexP.nil fun w1 hb1 _ => ?_
  simp only [List.drop_succ_cons, List.drop_zero]
  go_wp2_with fail
  go_returns
  exact ⟨rfl, bel.trans (hb1.mono bel.size)⟩
end Go.Proofs.Ytkiaeepdpmcafaa
