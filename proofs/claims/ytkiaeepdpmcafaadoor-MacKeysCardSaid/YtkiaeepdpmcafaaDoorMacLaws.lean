/-
  The statements of layer 2: the walks of their texts.
-/
import Derived.Test.YtkiaeepdpmcafaaDoorMacSame
import Derived.Test.YtkiaeepdpmcafaaDoorMacRef
import Derived.Test.YtkiaeepdpmcafaaDoorShaLaws
import Derived.Lib.Bytes
namespace Go.Proofs.YtkiaeepdpmcafaaDoor
open Go.ChangeShapes Go.WideShapes Go.ChangeAt Go.RowKit

theorem strOfNums_inj {xs ys : List Int} (hx : ∀ x ∈ xs, 0 ≤ x ∧ x < 256) (hy : ∀ x ∈ ys, 0 ≤ x ∧ x < 256) : strOfNums xs = strOfNums ys ↔ xs = ys := by
  constructor
  · intro h
    have key : ∀ zs : List Int, (∀ x ∈ zs, 0 ≤ x ∧ x < 256) → ((strOfNums zs).data.toList.map fun u : UInt8 => (u.toNat : Int)) = zs := fun zs hz => by
      rw [strOfNums_data, List.map_map]
      conv => rhs; rw [← List.map_id zs]
      apply List.map_congr_left
      intro z hzm
      have := hz z hzm
      simp
      omega
    rw [← key xs hx, ← key ys hy, h]
  · rintro rfl; rfl
theorem eqStr {xs ys : List Int} (hx : ∀ x ∈ xs, 0 ≤ x ∧ x < 256) (hy : ∀ x ∈ ys, 0 ≤ x ∧ x < 256) (w : World) : (binOp .eql 9 (.string (strOfNums xs)) (.string (strOfNums ys))).run Tryd.prog w = .ok (.bool (decide (xs = ys))) w := by
  have h := strOfNums_inj hx hy
  by_cases e : xs = ys
  · subst e; simp [go_sem]
  · have : ¬ strOfNums xs = strOfNums ys := fun q => e (h.1 q)
    have : ¬ (strOfNums xs).toList = (strOfNums ys).toList := fun q => this (by
      rw [Lib.strOfNums_toList, Lib.strOfNums_toList] at q
      exact congrArg (fun l : List UInt8 => (⟨l.toArray⟩ : ByteArray)) q)
    simp [go_sem, e, this]
theorem conv_str {w : World} {a : Option Addr} {len cap : Nat} {bs : List Int} (h : TextAt w a len cap bs) : ∀ x : Ext w, (convert 29 9 (.slice a len cap)).run Tryd.prog x.at_ = .ok (.string (strOfNums bs)) x.at_ :=
  fun x => (h.below x.same).string Tryd.underlying29 Tryd.underlying5 Tryd.underlying9

theorem mac_jefe : (macZ [74, 101, 102, 101] [119, 104, 97, 116, 32, 100, 111, 32, 121, 97, 32, 119, 97, 110, 116, 32, 102, 111, 114, 32, 110, 111, 116, 104, 105, 110, 103, 63]).getD 0 0 = 91 ∧ (macZ [74, 101, 102, 101] [119, 104, 97, 116, 32, 100, 111, 32, 121, 97, 32, 119, 97, 110, 116, 32, 102, 111, 114, 32, 110, 111, 116, 104, 105, 110, 103, 63]).getD 1 0 = 220 ∧ (macZ [74, 101, 102, 101] [119, 104, 97, 116, 32, 100, 111, 32, 121, 97, 32, 119, 97, 110, 116, 32, 102, 111, 114, 32, 110, 111, 116, 104, 105, 110, 103, 63]).getD 2 0 = 193 ∧ (macZ [74, 101, 102, 101] [119, 104, 97, 116, 32, 100, 111, 32, 121, 97, 32, 119, 97, 110, 116, 32, 102, 111, 114, 32, 110, 111, 116, 104, 105, 110, 103, 63]).getD 3 0 = 70 := by decide +kernel

set_option maxHeartbeats 2000000 in
set_option maxRecDepth 100000 in
theorem knows02 (w : World) (tab : ShaTab w) : Calls Tryd.prog 20 #[] w fun e w' => e = .returned (.bool true) ∧ Below w.heap.size w w' := by
  have Htab := hid tab
  have HzA := hid zsize
  clear tab
  obtain ⟨cA, hA⟩ : ∃ c, c = #[Value.int IntKind.u8 74, Value.int IntKind.u8 101, Value.int IntKind.u8 102, Value.int IntKind.u8 101] := ⟨_, rfl⟩
  have hc1 := Go.Lib.run_convert_bytes_const (P := Tryd.prog) w 29 5 #[Value.int IntKind.u8 74, Value.int IntKind.u8 101, Value.int IntKind.u8 102, Value.int IntKind.u8 101] 4 4 Tryd.underlying29 Tryd.underlying5
  have hc2 := Go.Lib.run_convert_bytes_const (P := Tryd.prog) (w.alloc (Obj.cells #[Value.int IntKind.u8 74, Value.int IntKind.u8 101, Value.int IntKind.u8 102, Value.int IntKind.u8 101] 5 (4, 5))) 29 5 #[Value.int IntKind.u8 119, Value.int IntKind.u8 104, Value.int IntKind.u8 97, Value.int IntKind.u8 116, Value.int IntKind.u8 32, Value.int IntKind.u8 100, Value.int IntKind.u8 111, Value.int IntKind.u8 32, Value.int IntKind.u8 121, Value.int IntKind.u8 97, Value.int IntKind.u8 32, Value.int IntKind.u8 119, Value.int IntKind.u8 97, Value.int IntKind.u8 110, Value.int IntKind.u8 116, Value.int IntKind.u8 32] 16 16 Tryd.underlying29 Tryd.underlying5
  have hc3 := Go.Lib.run_convert_bytes_const (P := Tryd.prog) ((w.alloc (Obj.cells #[Value.int IntKind.u8 74, Value.int IntKind.u8 101, Value.int IntKind.u8 102, Value.int IntKind.u8 101] 5 (4, 5))).alloc (Obj.cells #[Value.int IntKind.u8 119, Value.int IntKind.u8 104, Value.int IntKind.u8 97, Value.int IntKind.u8 116, Value.int IntKind.u8 32, Value.int IntKind.u8 100, Value.int IntKind.u8 111, Value.int IntKind.u8 32, Value.int IntKind.u8 121, Value.int IntKind.u8 97, Value.int IntKind.u8 32, Value.int IntKind.u8 119, Value.int IntKind.u8 97, Value.int IntKind.u8 110, Value.int IntKind.u8 116, Value.int IntKind.u8 32] 5 (16, 17))) 29 5 #[Value.int IntKind.u8 102, Value.int IntKind.u8 111, Value.int IntKind.u8 114, Value.int IntKind.u8 32, Value.int IntKind.u8 110, Value.int IntKind.u8 111, Value.int IntKind.u8 116, Value.int IntKind.u8 104, Value.int IntKind.u8 105, Value.int IntKind.u8 110, Value.int IntKind.u8 103, Value.int IntKind.u8 63] 12 12 Tryd.underlying29 Tryd.underlying5
  have bA := (Below.refl w.heap.size w).alloc (Nat.le_refl _) (Obj.cells #[Value.int IntKind.u8 74, Value.int IntKind.u8 101, Value.int IntKind.u8 102, Value.int IntKind.u8 101] 5 (4, 5))
  have bB := bA.alloc bA.size (Obj.cells #[Value.int IntKind.u8 119, Value.int IntKind.u8 104, Value.int IntKind.u8 97, Value.int IntKind.u8 116, Value.int IntKind.u8 32, Value.int IntKind.u8 100, Value.int IntKind.u8 111, Value.int IntKind.u8 32, Value.int IntKind.u8 121, Value.int IntKind.u8 97, Value.int IntKind.u8 32, Value.int IntKind.u8 119, Value.int IntKind.u8 97, Value.int IntKind.u8 110, Value.int IntKind.u8 116, Value.int IntKind.u8 32] 5 (16, 17))
  have bC := bB.alloc bB.size (Obj.cells #[Value.int IntKind.u8 102, Value.int IntKind.u8 111, Value.int IntKind.u8 114, Value.int IntKind.u8 32, Value.int IntKind.u8 110, Value.int IntKind.u8 111, Value.int IntKind.u8 116, Value.int IntKind.u8 104, Value.int IntKind.u8 105, Value.int IntKind.u8 110, Value.int IntKind.u8 103, Value.int IntKind.u8 63] 5 (12, 13))
  have tA := TextAt.made (w := w) (bs := [74, 101, 102, 101]) (n := 4) (T := 5) (4, 5) rfl (by omega) (by simp)
  have tB := TextAt.made (w := w.alloc (Obj.cells #[Value.int IntKind.u8 74, Value.int IntKind.u8 101, Value.int IntKind.u8 102, Value.int IntKind.u8 101] 5 (4, 5))) (bs := [119, 104, 97, 116, 32, 100, 111, 32, 121, 97, 32, 119, 97, 110, 116, 32]) (n := 16) (T := 5) (16, 17) rfl (by omega) (by simp)
  have tC := TextAt.made (w := (w.alloc (Obj.cells #[Value.int IntKind.u8 74, Value.int IntKind.u8 101, Value.int IntKind.u8 102, Value.int IntKind.u8 101] 5 (4, 5))).alloc (Obj.cells #[Value.int IntKind.u8 119, Value.int IntKind.u8 104, Value.int IntKind.u8 97, Value.int IntKind.u8 116, Value.int IntKind.u8 32, Value.int IntKind.u8 100, Value.int IntKind.u8 111, Value.int IntKind.u8 32, Value.int IntKind.u8 121, Value.int IntKind.u8 97, Value.int IntKind.u8 32, Value.int IntKind.u8 119, Value.int IntKind.u8 97, Value.int IntKind.u8 110, Value.int IntKind.u8 116, Value.int IntKind.u8 32] 5 (16, 17))) (bs := [102, 111, 114, 32, 110, 111, 116, 104, 105, 110, 103, 63]) (n := 12) (T := 5) (12, 13) rfl (by omega) (by simp)
  simp only [List.size_toArray, List.length_cons, List.length_nil, Nat.zero_add, World.size_alloc] at hc1 hc2 hc3
  simp only [List.map_cons, List.map_nil] at tA tB tC
  have tA2 := (tA.below ((Below.refl _ _).alloc (Nat.le_refl _) (Obj.cells #[Value.int IntKind.u8 119, Value.int IntKind.u8 104, Value.int IntKind.u8 97, Value.int IntKind.u8 116, Value.int IntKind.u8 32, Value.int IntKind.u8 100, Value.int IntKind.u8 111, Value.int IntKind.u8 32, Value.int IntKind.u8 121, Value.int IntKind.u8 97, Value.int IntKind.u8 32, Value.int IntKind.u8 119, Value.int IntKind.u8 97, Value.int IntKind.u8 110, Value.int IntKind.u8 116, Value.int IntKind.u8 32] 5 (16, 17)))).below ((Below.refl _ _).alloc (Nat.le_refl _) (Obj.cells #[Value.int IntKind.u8 102, Value.int IntKind.u8 111, Value.int IntKind.u8 114, Value.int IntKind.u8 32, Value.int IntKind.u8 110, Value.int IntKind.u8 111, Value.int IntKind.u8 116, Value.int IntKind.u8 104, Value.int IntKind.u8 105, Value.int IntKind.u8 110, Value.int IntKind.u8 103, Value.int IntKind.u8 63] 5 (12, 13)))
  have tB2 := tB.below ((Below.refl _ _).alloc (Nat.le_refl _) (Obj.cells #[Value.int IntKind.u8 102, Value.int IntKind.u8 111, Value.int IntKind.u8 114, Value.int IntKind.u8 32, Value.int IntKind.u8 110, Value.int IntKind.u8 111, Value.int IntKind.u8 116, Value.int IntKind.u8 104, Value.int IntKind.u8 105, Value.int IntKind.u8 110, Value.int IntKind.u8 103, Value.int IntKind.u8 63] 5 (12, 13)))
  simp only [World.size_alloc] at tB2 tC
  have HtA := hid tA2
  have HtB := hid tB2
  have HtC := hid tC
  have HbC := hid bC
  have HJ := hid mac_jefe
  clear tA tB tC tA2 tB2 bA bB bC hA cA
  go_enter Tryd.func20, Tryd.ntmps20
  go_wp2_with fail
  generalize hwx : ((w.alloc (Obj.cells #[Value.int IntKind.u8 74, Value.int IntKind.u8 101, Value.int IntKind.u8 102, Value.int IntKind.u8 101] 5 (4, 5))).alloc (Obj.cells #[Value.int IntKind.u8 119, Value.int IntKind.u8 104, Value.int IntKind.u8 97, Value.int IntKind.u8 116, Value.int IntKind.u8 32, Value.int IntKind.u8 100, Value.int IntKind.u8 111, Value.int IntKind.u8 32, Value.int IntKind.u8 121, Value.int IntKind.u8 97, Value.int IntKind.u8 32, Value.int IntKind.u8 119, Value.int IntKind.u8 97, Value.int IntKind.u8 110, Value.int IntKind.u8 116, Value.int IntKind.u8 32] 5 (16, 17))).alloc (Obj.cells #[Value.int IntKind.u8 102, Value.int IntKind.u8 111, Value.int IntKind.u8 114, Value.int IntKind.u8 32, Value.int IntKind.u8 110, Value.int IntKind.u8 111, Value.int IntKind.u8 116, Value.int IntKind.u8 104, Value.int IntKind.u8 105, Value.int IntKind.u8 110, Value.int IntKind.u8 103, Value.int IntKind.u8 63] 5 (12, 13)) = wx at HtA HtB HtC HbC ⊢
  have hsx : wx.heap.size = w.heap.size + 1 + 1 + 1 := by rw [← hwx]; simp
  have Hsx := hid hsx
  have hT : TextsAt (wx.alloc (Obj.cells #[Value.slice (some ⟨w.heap.size + 1, 0, none⟩) 16 16, Value.slice (some ⟨w.heap.size + 1 + 1, 0, none⟩) 12 12] 29)) (some ⟨w.heap.size + 1 + 1 + 1, 0, none⟩) 2 2 [[119, 104, 97, 116, 32, 100, 111, 32, 121, 97, 32, 119, 97, 110, 116, 32], [102, 111, 114, 32, 110, 111, 116, 104, 105, 110, 103, 63]] :=
    TextsAt.of_blk (Blk.new hsx _ _) rfl (Nat.le_refl _) (by omega) fun j hj => by
      match j, hj with
      | 0, _ => exact ⟨_, _, _, rfl, HtB.out.below ((Below.refl _ _).alloc (Nat.le_refl _) _)⟩
      | 1, _ => exact ⟨_, _, _, rfl, HtC.out.below ((Below.refl _ _).alloc (Nat.le_refl _) _)⟩
  have HbD := hid (HbC.out.alloc (by omega) (Obj.cells #[Value.slice (some ⟨w.heap.size + 1, 0, none⟩) 16 16, Value.slice (some ⟨w.heap.size + 1 + 1, 0, none⟩) 12 12] 29))
  refine (code_any _ 4 4 [74, 101, 102, 101] _ 2 2 [[119, 104, 97, 116, 32, 100, 111, 32, 121, 97, 32, 119, 97, 110, 116, 32], [102, 111, 114, 32, 110, 111, 116, 104, 105, 110, 103, 63]] _ (HtA.out.below ((Below.refl _ _).alloc (Nat.le_refl _) _)) hT (by omega) (by omega) (by decide) (Htab.out.below HbD.out)).mono ?_
  rintro e w2 ⟨rfl, b2⟩
  rw [show ([[119, 104, 97, 116, 32, 100, 111, 32, 121, 97, 32, 119, 97, 110, 116, 32], [102, 111, 114, 32, 110, 111, 116, 104, 105, 110, 103, 63]] : List (List Int)).flatten = [119, 104, 97, 116, 32, 100, 111, 32, 121, 97, 32, 119, 97, 110, 116, 32] ++ [102, 111, 114, 32, 110, 111, 116, 104, 105, 110, 103, 63] from rfl]
  have HB2 := hid (Below.on HbD.out b2)
  have hz2 := HB2.out.size
  have Hl := hid (macZ_length [74, 101, 102, 101] ([119, 104, 97, 116, 32, 100, 111, 32, 121, 97, 32, 119, 97, 110, 116, 32] ++ [102, 111, 114, 32, 110, 111, 116, 104, 105, 110, 103, 63]))
  simp only [List.cons_append, List.nil_append] at Hl ⊢
  clear b2 hT hc1 hc2 hc3 hwx hsx HtA HtB HtC HbC HbD Hsx
  generalize macZ [74, 101, 102, 101] [119, 104, 97, 116, 32, 100, 111, 32, 121, 97, 32, 119, 97, 110, 116, 32, 102, 111, 114, 32, 110, 111, 116, 104, 105, 110, 103, 63] = S at *
  go_wp2_with (
    refine wpList_store_blk rfl 26 _ _ rfl w2.heap.size _ rfl rfl _ 26 (Blk.new rfl (byteCells 32 []) _) 32 size_digest HzA.out (dsize Hl.out) (ints_one _ _) ?_
    intro w5 hb5 hk5
    have HB5 := hid (hb5.below (HB2.out.alloc hz2 _) (by rw [World.size_alloc]; omega) hz2)
    have c0 := (hk5.cell 0).trans (digest_get Hl.out 0 (by omega) _ HJ.out.1)
    have c1 := (hk5.cell 1).trans (digest_get Hl.out 1 (by omega) _ HJ.out.2.1)
    have c2 := (hk5.cell 2).trans (digest_get Hl.out 2 (by omega) _ HJ.out.2.2.1)
    have c3 := (hk5.cell 3).trans (digest_get Hl.out 3 (by omega) _ HJ.out.2.2.2)
    have hlt5 := hk5.lt
    clear hb5 hk5)
  refine (same_any none (some ⟨w5.heap.size, 0, none⟩) 0 0 0 0 [] [] _ TextAt.nil ?_).mono ?_
  · exact TextAt.of_ints (T := 5) (Blk.new rfl ((([] : List Int).map (Value.int .u8)).toArray) _) rfl (by omega) (by simp)
  rintro e w6 ⟨rfl, b6⟩
  have HB6 := hid (Below.on (HB5.out.alloc HB5.out.size (Obj.cells #[] 5)) b6)
  rw [decide_eq_true rfl]
  clear b6 c0 c1 c2 c3
  go_wp2_with fail
  go_returns
  exact ⟨rfl, HB6.out⟩
end Go.Proofs.YtkiaeepdpmcafaaDoor
