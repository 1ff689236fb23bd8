/-
  Contract of the statements' rows for pack.
-/
import Derived.Test.YtkiaeepdpmcafaaPackRow
import Derived.Lib.SmallJoins

namespace Go.Proofs.Ytkiaeepdpmcafaa
open Go.ChangeShapes Go.WideShapes Go.ChangeAt Go.RowKit

theorem conv_bytes {w : World} {g n cap : Nat} {bs : List Int} {S : ByteArray} (hr : Row8 w g bs) (hn : bs.length = n) (hS : strOfNums bs = S) : (convert 56 9 (.slice (some ⟨g, 0, none⟩) n cap)).run Try.prog w = .ok (.string S) w := by
  subst hn hS
  exact hr.string Try.underlying56 Try.underlying5 Try.underlying9

theorem eql_str (S S' : ByteArray) (h : S = S') (w : World) : (binOp .eql 9 (.string S) (.string S')).run Try.prog w = .ok (.bool true) w := by
  subst h
  simp [go_sem]

theorem row_of {w : World} {g : Nat} {bs cs : List Int} {T : TypeId} (h : Blk w g (bs.map (Value.int .u8)).toArray T) (e : bs = cs) : Row8 w g cs := e ▸ Row8.of_blk h
theorem row_as {w : World} {g : Nat} {bs cs : List Int} (h : Row8 w g bs) (e : bs = cs) : Row8 w g cs := e ▸ h

set_option maxHeartbeats 400000 in
theorem knows03 (w : World) :
    Calls Try.prog 37 #[] w fun e w' => e = .returned (.bool true) ∧ Below w.heap.size w w' := by
  have hs1 : strOfNums [0, 0, 1, 2] = { data := #[0, 0, 1, 2] } := by rfl
  have hs2 : strOfNums [0, 1, 0, 1, 97] = { data := #[0, 1, 0, 1, 97] } := by rfl
  have q := fun (S : ByteArray) (w : World) => eql_str S S rfl w
  have e1 : be 4 258 = [0, 0, 1, 2] := by decide
  have e2 : be 2 ((1 : Nat) : Int) ++ rowB [[97]] = [0, 1, 0, 1, 97] := by decide
  have H := hid (And.intro (And.intro hs1 hs2) (And.intro e1 e2))
  clear hs1 hs2 e1 e2
  have hcv := Go.Lib.run_convert_bytes_const (P := Try.prog) w 56 5 #[.int .u8 97] 1 1 Try.underlying56 Try.underlying5
  simp only [List.size_toArray, List.length_cons, List.length_nil, Nat.zero_add] at hcv
  have k1 : Blk ((w.alloc (Obj.cells #[.int .u8 97] 5 (1, 2))).alloc (Obj.cells #[.slice (some ⟨w.heap.size, 0, none⟩) 1 1] 56)) (w.heap.size + 1) #[.slice (some ⟨w.heap.size, 0, none⟩) 1 1] 56 := Blk.new (by simp) _ _
  have hT : TextsAt ((w.alloc (Obj.cells #[.int .u8 97] 5 (1, 2))).alloc (Obj.cells #[.slice (some ⟨w.heap.size, 0, none⟩) 1 1] 56)) (some ⟨w.heap.size + 1, 0, none⟩) 1 1 [[97]] := by
    refine ⟨rfl, Nat.le_refl _, by decide, .inr ⟨_, _, rfl, k1.lt, fun i hi => ?_⟩⟩
    obtain rfl : i = 0 := by omega
    refine ⟨some ⟨w.heap.size, 0, none⟩, 1, 1, by rw [k1.cell]; rfl, rfl, Nat.le_refl _, by decide, by simp, .inr ⟨_, _, _, rfl, fun j hj => ?_⟩⟩
    obtain rfl : j = 0 := by omega
    exact ⟨rfl, by show _ < ((w.heap.push _).push _).size; simp; omega, (((Below.refl _ (w.alloc (Obj.cells #[.int .u8 97] 5 (1, 2)))).alloc (Nat.le_refl _) (Obj.cells #[.slice (some ⟨w.heap.size, 0, none⟩) 1 1] 56)).cell (p := ⟨w.heap.size, 0, none⟩) (by simp)).trans (World.cell?_alloc_mark w _ 5 (1, 2) 0)⟩
  have hrow := row_any _ 1 1 [[97]] _ hT (by decide) (by simp)
  have bel : Below w.heap.size w ((w.alloc (Obj.cells #[.int .u8 97] 5 (1, 2))).alloc (Obj.cells #[.slice (some ⟨w.heap.size, 0, none⟩) 1 1] 56)) := by go_grown
  clear k1 hT
  have hrow := hid hrow
  go_enter Try.func37, Try.ntmps37
  go_wp2_with (first | (go_at_call 43; refine hrow.out.mono ?_; rintro e w2 ⟨g, m, cap, rfl, hm, _, _, hg, b2, hr⟩; obtain rfl : m = 5 := hm.trans (by decide); clear hm hrow hcv; replace bel := Below.on bel b2; clear b2; replace hr := row_as hr H.out.2.2))
  refine (number_any 258 4 4 _ (by decide) (by decide) (by decide)).mono ?_
  rintro e w3 ⟨gA, hgA, rfl, b3, kA⟩
  have hr := Row8.below hr b3
  have bel := Below.on bel b3
  have hsA : (convert 56 9 (.slice (some ⟨gA, 0, none⟩) 4 4)).run Try.prog w3 = .ok (.string { data := #[0, 0, 1, 2] }) w3 := conv_bytes (row_of kA H.out.2.1) rfl H.out.1.1
  have hsB : (convert 56 9 (.slice (some ⟨g, 0, none⟩) 5 cap)).run Try.prog w3 = .ok (.string { data := #[0, 1, 0, 1, 97] }) w3 := conv_bytes hr rfl H.out.1.2
  clear kA hr b3
  go_wp2_with fail
  refine (number_any 1 (-1) 0 _ (by decide) (by decide) (by decide)).mono ?_
  rintro e w4 ⟨gC, hgC, rfl, b4, kC⟩
  have bel := Below.on bel b4
  clear kC b4 hsA hsB
  go_wp2_with fail
  refine (number_any 1 99 64 _ (by decide) (by decide) (by decide)).mono ?_
  rintro e w5 ⟨gD, hgD, rfl, b5, kD⟩
  have bel := Below.on bel b5
  clear kD b5
  go_wp2_with fail
  go_returns
  exact ⟨rfl, bel⟩
end Go.Proofs.Ytkiaeepdpmcafaa
