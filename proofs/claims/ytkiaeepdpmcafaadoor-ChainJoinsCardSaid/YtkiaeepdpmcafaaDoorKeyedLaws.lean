/-
  The rows of the document's examples for layer 5.
-/
import Derived.Test.YtkiaeepdpmcafaaDoorKeyedRef2
import Derived.Test.YtkiaeepdpmcafaaDoorKeyed3
import Derived.Test.YtkiaeepdpmcafaaDoorShaLaws
namespace Go.Proofs.YtkiaeepdpmcafaaDoor
open Go.ChangeShapes Go.WideShapes Go.ChangeAt Go.RowKit

def zD : List Int := List.replicate 32 0
theorem Dg.zero : Dg zD := ⟨by simp [zD], fun x hx => by have := List.eq_of_mem_replicate hx; omega⟩
theorem zD_cells : byteCells 32 [] = (zD.map (Value.int .u8)).toArray := by kernel_rfl
theorem xorZ_zero {x : Int} (h : 0 ≤ x) : xorZ x 0 = x := by unfold xorZ; simp; omega
theorem xorD_zero {a : List Int} (ha : Dg a) : xorD a zD = a := by
  apply List.ext_getElem (by simp [xorD, ha.len, zD])
  intro i h1 h2
  simp only [xorD, zD, List.getElem_zipWith, List.getElem_replicate]
  exact xorZ_zero (ha.small _ (List.getElem_mem _)).1
theorem fZ_zero : fZ zD zD = sumZ (List.replicate 96 0) := by
  unfold fZ
  congr 1
theorem fZ_zero_ne : ¬ fZ zD zD = zD := by
  have h : (fZ zD zD).getD 0 0 ≠ 0 := by decide +kernel
  intro e
  rw [e] at h
  exact h (by decide)

theorem exec_make {P : Program} {o : Oper} {A : Act} {w w' : World} {l c : Operand} {t : TypeId} {vl vc v' : Value} (ho : o.op = .makeSlice t l c) (hl : A.eval l = vl) (hc : A.eval c = vc)
    (hr : (Instr.makeSlice t vl vc).run P w = .ok v' w') : (execOp A.eval o).run P w = .ok (.value v') w' := by
  unfold execOp
  simp [ho, hl, hc, hr]
theorem make_cells (n : Nat) : madeCells #[Value.int IntKind.u8 0] n = byteCells n [] := by
  have := made_zeros n 0
  simp only [be, List.append_nil] at this
  apply Array.ext'
  rw [this]
  simp [byteCells]

set_option maxHeartbeats 2000000 in
set_option maxRecDepth 100000 in
theorem knows05 (w : World) (tab : ShaTab w) : Calls Tryd.prog 24 #[] w fun e w' => e = .returned (.bool true) ∧ Below w.heap.size w w' := by
  have Htab := hid tab
  have HzA := hid zsize
  have bz := (Below.refl w.heap.size w).alloc (Nat.le_refl _) (.cells (zD.map (Value.int .u8)).toArray 26 (0, 0))
  have Kz := hid (Blk.new (w := w) rfl (zD.map (Value.int .u8)).toArray 26)
  have Hb := hid bz
  have HX := hid (Dg.f zD zD)
  have Hne := hid fZ_zero_ne
  have Heq := hid fZ_zero
  clear tab bz
  go_enter Tryd.func24, Tryd.ntmps24
  go_wp2_with (refine wpList_load_blk rfl 26 _ rfl w.heap.size rfl _ 26 Kz.out _ Tryd.underlying26 rfl 32 size_digest Dg.zero.size ?_)
  refine (F_any zD zD _ Dg.zero Dg.zero (Htab.out.below Hb.out)).mono ?_
  rintro e w2 ⟨rfl, b2⟩
  have HB2 := hid (Below.on Hb.out b2)
  have Kz2 := hid (Kz.out.below b2)
  have hz2 := HB2.out.size
  have hlt := Kz2.out.lt
  clear b2 Kz Hb
  generalize fZ zD zD = X at *
  go_wp2_with (
    refine wpList_store_blk rfl 26 _ _ rfl w2.heap.size _ rfl rfl _ 26 (Blk.new rfl (byteCells 32 []) _) 32 size_digest HzA.out HX.out.size (ints_one _ _) ?_
    intro w3 hb3 hk3
    have HB3 := hid (hb3.below (HB2.out.alloc hz2 _) (by rw [World.size_alloc]; omega) hz2)
    have Kz3 := hid (hb3.blk (Kz2.out.old _) (by omega))
    have Kx3 := hid hk3
    clear hb3 hk3)
  generalize w2.heap.size = gx at *
  simp only [Act.put]
  have q1 := fun W => neD X zD HX.out.len Dg.zero.len W
  have q2 := eqD_self X HX.out.len
  have q3 := eqD_self zD Dg.zero.len
  rw [decide_eq_false Hne.out] at q1
  have Q := hid (And.intro q1 (And.intro q2 q3))
  clear q1 q2 q3
  refine wp_region_flow 24 [0, 1, 2, 3, 4] [5] [(.b 5, [6, 7, 8, 9, 10, 11, 12, 13, 14, 15, 16, 17, 18, 19, 20, 21, 22, 23], [])] (by kernel_rfl) (by kernel_rfl) ?_
  apply Exists.intro
  refine ⟨fun w0 hb0 hF0 => ?_, ?_⟩
  · have x0 : ∀ w', (∃ x : Ext w0, w' = x.at_) → ∃ T, Blk w' w.heap.size (zD.map (Value.int .u8)).toArray T := fun w' ⟨x, hx⟩ => ⟨_, hx ▸ (Kz3.out.below hb0).below x.same⟩
    have x1 : ∀ w', (∃ x : Ext w0, w' = x.at_) → ∃ T, Blk w' gx (X.map (Value.int .u8)).toArray T := fun w' ⟨x, hx⟩ => ⟨_, hx ▸ (Kx3.out.below hb0).below x.same⟩
    obtain ⟨q1, q2, q3⟩ := Q.out
    simp only [pick, List.getElem?_toArray, List.getElem?_cons_succ, List.getElem?_cons_zero, Option.toList_some, List.cons_append, List.nil_append]
    repeat (first | (go_big_quiet_want; refine quiet_load_blk 26 _ rfl w.heap.size rfl _ x0 _ Tryd.underlying26 rfl 32 size_digest Dg.zero.size ?_; go_big_quiet_on; simp only [Act.put, List.setIfInBounds_toArray, List.set_cons_zero, List.set_cons_succ]) | (go_big_quiet_want; refine quiet_load_blk 26 _ rfl gx rfl _ x1 _ Tryd.underlying26 rfl 32 size_digest HX.out.size ?_; go_big_quiet_on; simp only [Act.put, List.setIfInBounds_toArray, List.set_cons_zero, List.set_cons_succ]) | go_big_quiet_step (fail))
    exact wpQuiet_nil rfl
  refine AlChk.one rfl (fun b => .slice (some ⟨b, 0, none⟩) 96 96) (.cells (byteCells 96 []) 5 (0, 0)) rfl (fun w0 hb0 hF0 => ?_) ?_
  · obtain ⟨i0, hi, hz0, hz1, hz2⟩ := info_parts info_byte
    have hr := run_makeSlice (P := Tryd.prog) w0 29 5 i0 (.int .u8 0) Tryd.underlying29 hi hz0 .i64 .i64 96 96 (by omega) (by omega) (by rw [hz1]; decide) (by rw [hz2]; decide) (by omega)
    rw [hz1] at hr
    have hr2 : (Instr.makeSlice 29 (.int .i64 96) (.int .i64 96)).run Tryd.prog w0 = .ok (.slice (some ⟨w0.heap.size, 0, none⟩) 96 96) (w0.alloc (.cells (byteCells 96 []) 5)) := by
      rw [hr, ← make_cells]; rfl
    exact exec_make rfl rfl rfl hr2
  refine AlChk.nil ?_
  refine Walk.blk rfl (fun b => .slice (some ⟨b, 0, none⟩) 96 96) (.cells (byteCells 96 []) 5 (0, 0)) (by simp) ?_
  intro b9 w2 hb2 hF2 hge9 _
  apply Exists.intro
  refine ⟨fun w0 hb0 hF0 => ?_, ?_⟩
  · have k9 : Blk w0 b9 (byteCells 96 []) 5 := hF0.2
    have hT : TextAt w0 (some ⟨b9, 0, none⟩) 96 96 (List.replicate 96 0) := TextAt.of_ints (T := 5) (by rw [show ((List.replicate 96 (0 : Int)).map (Value.int .u8)).toArray = byteCells 96 [] by simp [byteCells]]; exact k9) (by simp) (by omega) (fun x hx => by have := List.eq_of_mem_replicate hx; omega)
    have x0 : ∀ w', (∃ x : Ext w0, w' = x.at_) → ∃ T, Blk w' w.heap.size (zD.map (Value.int .u8)).toArray T := fun w' ⟨x, hx⟩ => ⟨_, hx ▸ (Kz3.out.below hb0).below x.same⟩
    have x1 : ∀ w', (∃ x : Ext w0, w' = x.at_) → ∃ T, Blk w' gx (X.map (Value.int .u8)).toArray T := fun w' ⟨x, hx⟩ => ⟨_, hx ▸ (Kx3.out.below hb0).below x.same⟩
    have hs := fun e : Ext w0 => refsum_any (some ⟨b9, 0, none⟩) 96 96 (List.replicate 96 0) e.at_ (hT.below e.same) (by omega)
    rw [← Heq.out] at hs
    have hm1 := fun e : Ext w0 => Mask_any zD zD e.at_ Dg.zero Dg.zero
    have hm2 := fun e : Ext w0 => Mask_any X zD e.at_ HX.out Dg.zero
    rw [xorD_zero Dg.zero] at hm1
    rw [xorD_zero HX.out] at hm2
    obtain ⟨q1, q2, q3⟩ := Q.out
    simp only [pick, List.getElem?_toArray, List.getElem?_cons_succ, List.getElem?_cons_zero, Option.toList_some, List.cons_append, List.nil_append, Act.put, List.setIfInBounds_toArray, List.set_cons_zero, List.set_cons_succ]
    repeat (first | (go_big_quiet_want; refine quiet_load_blk 26 _ rfl w.heap.size rfl _ x0 _ Tryd.underlying26 rfl 32 size_digest Dg.zero.size ?_; go_big_quiet_on; simp only [Act.put, List.setIfInBounds_toArray, List.set_cons_zero, List.set_cons_succ]) | (go_big_quiet_want; refine quiet_load_blk 26 _ rfl gx rfl _ x1 _ Tryd.underlying26 rfl 32 size_digest HX.out.size ?_; go_big_quiet_on; simp only [Act.put, List.setIfInBounds_toArray, List.set_cons_zero, List.set_cons_succ]) | go_big_quiet_step (first | (go_at_call 15; with_reducible exact Calls.ext (hs _)) | (go_at_call 35; with_reducible exact Calls.ext (hm1 _)) | (go_at_call 35; with_reducible exact Calls.ext (hm2 _))))
    exact wpQuiet_nil rfl
  refine AlChk.nil ?_
  refine Walk.fin fun w11 h11 _ _ => ?_
  simp only [List.drop_succ_cons, List.drop_zero]
  go_wp2_with fail
  go_returns
  exact ⟨rfl, Below.on HB3.out h11⟩
end Go.Proofs.YtkiaeepdpmcafaaDoor
