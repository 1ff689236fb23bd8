/-
  The rows of the document's examples for layer 1.
-/
import Derived.Test.YtkiaeepdpmcafaaDoorDig
import Derived.Lib.SlBytesConst
namespace Go.Proofs.YtkiaeepdpmcafaaDoor
open Go.ChangeShapes Go.WideShapes Go.ChangeAt Go.RowKit

theorem sum_abc : (sumZ [97, 98, 99]).getD 0 0 = 186 ∧ (sumZ [97, 98, 99]).getD 1 0 = 120 ∧ (sumZ [97, 98, 99]).getD 2 0 = 22 ∧ (sumZ [97, 98, 99]).getD 3 0 = 191 := by decide +kernel
theorem sum_nil : (sumZ []).getD 0 0 = 227 ∧ (sumZ []).getD 1 0 = 176 := by decide +kernel
theorem digest_get {xs : List Int} (hx : xs.length = 32) (j : Nat) (hj : j < 32) (v : Int) (hv : xs.getD j 0 = v) : ((xs.map (Value.int .u8)).toArray)[j]? = some (.int .u8 v) := by
  subst hv
  simp [show j < xs.length by omega]

set_option maxHeartbeats 2000000 in
set_option maxRecDepth 100000 in
theorem knows01 (w : World) (tab : ShaTab w) : Calls Tryd.prog 13 #[] w fun e w' => e = .returned (.bool true) ∧ Below w.heap.size w w' := by
  have Htab := hid tab
  have HzA := hid zsize
  clear tab
  have hcv := Go.Lib.run_convert_bytes_const (P := Tryd.prog) w 29 5 #[.int .u8 97, .int .u8 98, .int .u8 99] 3 3 Tryd.underlying29 Tryd.underlying5
  simp only [List.size_toArray, List.length_cons, List.length_nil, Nat.zero_add] at hcv
  go_enter Tryd.func13, Tryd.ntmps13
  go_wp2_with fail
  have hA := TextAt.made (w := w) (bs := [97, 98, 99]) (n := 3) (T := 5) (3, 4) rfl (by omega) (by simp)
  have bA := (Below.refl w.heap.size w).alloc (Nat.le_refl _) (Obj.cells #[Value.int IntKind.u8 97, Value.int IntKind.u8 98, Value.int IntKind.u8 99] 5 (3, 4))
  have hB := hA.below ((Below.refl _ _).alloc (Nat.le_refl _) (Obj.cells #[Value.slice (some ⟨w.heap.size, 0, none⟩) 3 3] 29))
  have bB := bA.alloc bA.size (Obj.cells #[Value.slice (some ⟨w.heap.size, 0, none⟩) 3 3] 29)
  have hT : TextsAt ((w.alloc (Obj.cells #[Value.int IntKind.u8 97, Value.int IntKind.u8 98, Value.int IntKind.u8 99] 5 (3, 4))).alloc (Obj.cells #[Value.slice (some ⟨w.heap.size, 0, none⟩) 3 3] 29)) (some ⟨w.heap.size + 1, 0, none⟩) 1 1 [[97, 98, 99]] :=
    TextsAt.of_blk (Blk.new (by rw [World.size_alloc]) _ _) rfl (Nat.le_refl _) (by omega) fun j hj => by
      obtain rfl : j = 0 := by omega
      exact ⟨_, _, _, rfl, hB⟩
  refine (sum_any _ 1 1 [[97, 98, 99]] _ hT (by decide) (Htab.out.below bB)).mono ?_
  rintro e w2 ⟨rfl, b2⟩
  have HB2 := hid (Below.on bB b2)
  have hz2 := HB2.out.size
  rw [show ([[97, 98, 99]] : List (List Int)).flatten = [97, 98, 99] from rfl]
  have Hl := hid (sumZ_length [97, 98, 99])
  have HS := hid sum_abc
  clear hA bA hB bB hT b2 hcv
  generalize sumZ [97, 98, 99] = S1 at *
  go_wp2_with (refine wpList_store_blk rfl 26 _ _ rfl w2.heap.size _ rfl rfl _ 26 (Blk.new rfl (byteCells 32 []) _) 32 size_digest HzA.out (dsize Hl.out) (ints_one _ _) ?_; intro w3 hb3 hk3)
  have HB3 := hid (hb3.below (HB2.out.alloc hz2 _) (by rw [World.size_alloc]; omega) hz2)
  have Hk3 := hid hk3
  clear hb3 hk3
  refine (sum_any _ 0 0 [] _ TextsAt.none_ (by simp [sumLen]) (Htab.out.below HB3.out)).mono ?_
  rintro e w4 ⟨rfl, b4⟩
  have HB4 := hid (Below.on HB3.out b4)
  have Hk4 := hid (Hk3.out.below b4)
  have hz4 := HB4.out.size
  rw [show ([] : List (List Int)).flatten = [] from rfl]
  have Hl2 := hid (sumZ_length [])
  have HS2 := hid sum_nil
  clear b4 Hk3
  generalize sumZ [] = S2 at *
  have hk4lt := Hk4.out.lt
  generalize w2.heap.size = g1 at *
  go_wp2_with (
    refine wpList_store_blk rfl 26 _ _ rfl w4.heap.size _ rfl rfl _ 26 (Blk.new rfl (byteCells 32 []) _) 32 size_digest HzA.out (dsize Hl2.out) (ints_one _ _) ?_
    intro w5 hb5 hk5
    have HB5 := hid (hb5.below (HB4.out.alloc hz4 _) (by rw [World.size_alloc]; omega) hz4)
    have hk5a := hb5.blk (Hk4.out.old _) (by omega)
    have c0 := (hk5a.cell 0).trans (digest_get Hl.out 0 (by omega) _ HS.out.1)
    have c1 := (hk5a.cell 1).trans (digest_get Hl.out 1 (by omega) _ HS.out.2.1)
    have c2 := (hk5a.cell 2).trans (digest_get Hl.out 2 (by omega) _ HS.out.2.2.1)
    have c3 := (hk5a.cell 3).trans (digest_get Hl.out 3 (by omega) _ HS.out.2.2.2)
    have d0 := (hk5.cell 0).trans (digest_get Hl2.out 0 (by omega) _ HS2.out.1)
    have d1 := (hk5.cell 1).trans (digest_get Hl2.out 1 (by omega) _ HS2.out.2)
    have hlt5 := hk5.lt
    have hlt5a := hk5a.lt
    clear hb5 hk5 hk5a)
  go_returns
  exact ⟨rfl, HB5.out⟩
end Go.Proofs.YtkiaeepdpmcafaaDoor
