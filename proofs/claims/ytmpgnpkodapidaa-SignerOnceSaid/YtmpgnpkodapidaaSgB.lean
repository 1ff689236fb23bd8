/-
  Layer 13: slots; what a slot holds.
-/
import Derived.Test.YtmpgnpkodapidaaSgA
namespace Go.Proofs.Ytmpgnpkodapidaa
open Go.ChangeShapes Go.WideShapes Go.ChangeAt Go.RowKit

/-- The cells of slots. -/
def slC (p : Nat) (at_ turn : Int) (tv : Value) (st : Bool) : Array Value := #[.pointer (some ⟨p, 0, none⟩), .int .i64 at_, .int .i64 turn, tv, .bool st]
theorem size_slots : (Try.prog.info? 88).map (·.size) = some 5 := by kernel_rfl
/-- Does a slot count? -/
def slotOk (b : List Int) : Bool := decide (numOf (b.take 8) = numOf (b.drop (b.length - 8)) ∧ 1 ≤ numOf (b.take 8) ∧ numOf (b.take 8) ≤ 4611686018427387904 ∧ numOf ((b.drop 8).take 2) ≤ (b.length : Int) - 18)
def slotTurn (b : List Int) : Int := if slotOk b then numOf (b.take 8) else 0
def slotText (b : List Int) : List Int := if slotOk b then (b.drop 10).take (numOf ((b.drop 8).take 2)).toNat else []
theorem run_cut_u {P : Program} {t e : TypeId} (ht : P.underlying t = some (.slice e)) (hs : (P.info? e).map (·.size) = some 1) (k : IntKind) (a : Option Addr) (len cap : Nat) (hi : Int) (w : World) (h0 : 0 ≤ hi) (h2 : hi ≤ cap) :
    (Instr.slice t (.slice a len cap) none (some (.int k hi)) none).run P w = .ok (.slice a hi.toNat cap) w := by
  have he : P.elem t = e := by simp [Program.elem, ht]
  rw [run_slice_h (w := w) t a len cap (by rw [he]; exact ht) _ hi h0 h2]
  obtain ⟨i, hi1, hi2⟩ := Option.map_eq_some_iff.1 hs
  have := cutA_zero a cap
  unfold cutA at this
  simp [sizeOf, typeInfo, he, hi1, hi2, sliced, this]
theorem quiet_cut_hu {op : Oper} {a : Act} {C : World → Prop} {K : Act → Prop} (k : IntKind) (x y : Operand) (ho : op.op = .slice 31 x none (some y) none) (a0 : Option Addr) (len cap j : Nat) (vx : Value) (hx : a.eval x = vx) (v : Int) (hy : a.eval y = .int k v) (hvx : vx = .slice a0 len cap) (hv : v = j) (hn : j ≤ cap)
    (h : K (a.put op.dst (.slice a0 j cap))) : op.quiet Try.prog a C K :=
  ⟨.slice a0 j cap, fun w' _ => by
    subst hv
    subst hvx
    have he : Try.prog.elem 31 = 5 := by simp [Program.elem, Try.underlying31]
    have hr := run_cut_u (P := Try.prog) Try.underlying31 size_u8 k a0 len cap (j : Int) w' (by omega) (by omega)
    have hs := run_sliceAt_slice (P := Try.prog) (w := w') 31 (.slice a0 len cap) none (some (.int k j)) none (by rw [he]; exact Try.underlying31)
    rw [hr] at hs
    unfold Oper.quietAt execOp
    simp only [ho, hx, hy, Option.map_none, Option.map_some, Sem.run_bind, Sem.run_pure, Result.andThen_ok, hs, Int.toNat_natCast]
    simp [Oper.quietUpon], h⟩
theorem quiet_cut_lo {op : Oper} {a : Act} {C : World → Prop} {K : Act → Prop} (x y : Operand) (ho : op.op = .slice 31 x (some y) none none) (a0 : Option Addr) (len cap j : Nat) (vx : Value) (hx : a.eval x = vx) (v : Int) (hy : a.eval y = .int .i64 v) (hvx : vx = .slice a0 len cap) (hv : v = j) (hn : j ≤ len)
    (h : K (a.put op.dst (.slice (cutA a0 j cap) (len - j) (cap - j)))) : op.quiet Try.prog a C K :=
  ⟨.slice (cutA a0 j cap) (len - j) (cap - j), fun w' _ => by
    subst hv
    subst hvx
    have he : Try.prog.elem 31 = 5 := by simp [Program.elem, Try.underlying31]
    have hr := run_cut_l (P := Try.prog) Try.underlying31 size_u8 a0 len cap (j : Int) w' (by omega) (by omega)
    have hs := run_sliceAt_slice (P := Try.prog) (w := w') 31 (.slice a0 len cap) (some (.int .i64 j)) none none (by rw [he]; exact Try.underlying31)
    rw [hr] at hs
    unfold Oper.quietAt execOp
    simp only [ho, hx, hy, Option.map_none, Option.map_some, Sem.run_bind, Sem.run_pure, Result.andThen_ok, hs, Int.toNat_natCast]
    simp [Oper.quietUpon], h⟩
set_option maxHeartbeats 4000000 in
set_option maxRecDepth 100000 in
theorem room_any (w : World) (q p : Nat) (at_ turn : Int) (tv : Value) (st : Bool) (bb z n : Nat) (B : List Int) (wv : Value) (on set : Bool) (af : Int) (kv : Value) (hd : DkAt w p bb z n B wv on set af kv) (hk : Blk w q (slC p at_ turn tv st) 88) (hz : 18 ≤ z) :
    Calls Try.prog 46 #[.pointer (some ⟨q, 0, none⟩)] w fun e w' => e = .returned (.int .i64 ((z : Int) - 18)) ∧ Below w.heap.size w w' := by
  have hz0 : (0 : Int) ≤ (z : Int) - 18 := by omega
  have hz1 := hd.z2
  have hm : max (0 : Int) ((z : Int) - 18) = (z : Int) - 18 := by omega
  have Ks := hid hk
  have Hb := hid (Below.refl w.heap.size w)
  clear hk
  have c0 : w.cell? ⟨q, 0, none⟩ = some (.pointer (some ⟨p, 0, none⟩)) := by rw [Ks.out.cell]; rfl
  go_enter Try.func46, Try.ntmps46
  go_wp2_with fail
  refine (size_any _ p bb z n B wv on set af kv hd).mono ?_
  rintro e w1 ⟨rfl, b1⟩
  have HB1 := hid b1
  clear b1
  go_wp2_with fail
  all_goals (go_returns; exact ⟨by first | rfl | (show Ending.returned (Value.int .i64 0) = Ending.returned (Value.int .i64 ((z : Int) - 18)); have h0 : (z : Int) - 18 = 0 := (by omega); rw [h0]), HB1.out⟩)
set_option maxHeartbeats 4000000 in
set_option maxRecDepth 100000 in
theorem turn_any (w : World) (q p : Nat) (at_ turn : Int) (tv : Value) (st : Bool) (hk : Blk w q (slC p at_ turn tv st) 88) :
    Calls Try.prog 47 #[.pointer (some ⟨q, 0, none⟩)] w fun e w' => e = .returned (.int .i64 turn) ∧ Below w.heap.size w w' := by
  have Ks := hid hk
  have Hb := hid (Below.refl w.heap.size w)
  clear hk
  have c2 : w.cell? ⟨q, 2, none⟩ = some (.int .i64 turn) := by rw [Ks.out.cell]; rfl
  go_enter Try.func47, Try.ntmps47
  go_wp2_with fail
  go_returns
  exact ⟨rfl, Hb.out⟩
set_option maxHeartbeats 4000000 in
set_option maxRecDepth 100000 in
theorem text_any (w : World) (q p : Nat) (at_ turn : Int) (ta : Option Addr) (tn tc : Nat) (t : List Int) (st : Bool) (hk : Blk w q (slC p at_ turn (.slice ta tn tc) st) 88) (hT : TextAt w ta tn tc t) (htn : tn ≤ 1000) :
    Calls Try.prog 25 #[.pointer (some ⟨q, 0, none⟩)] w fun e w' => ∃ a c, e = .returned (.slice a tn c) ∧ Below w.heap.size w w' ∧ TextAt w' a tn c t ∧ ∀ p : Addr, a = some p → w.heap.size ≤ p.block := by
  have Ks := hid hk
  have Hb := hid (Below.refl w.heap.size w)
  clear hk
  have c3 : w.cell? ⟨q, 3, none⟩ = some (.slice ta tn tc) := by rw [Ks.out.cell]; rfl
  go_enter Try.func25, Try.ntmps25
  go_wp2_with fail
  refine (clone_any hT (by omega)).mono ?_
  rintro e w1 ⟨a1, k1, rfl, b1, t1, o1⟩
  have HB1 := hid b1
  have HT1 := hid t1
  have HO1 := hid o1
  clear b1 t1 o1
  go_wp2_with fail
  go_returns
  exact ⟨_, _, rfl, HB1.out, HT1.out, fun p hp => (HO1.out p hp).1⟩
set_option maxHeartbeats 4000000 in
set_option maxRecDepth 100000 in
theorem content_ne {w : World} {a : Option Addr} {len cap : Nat} {b : List Int} (hT : TextAt w a len cap b) (h18 : 18 ≤ len) (h512 : len ≤ 512) (h1 : ¬ numOf (b.take 8) = numOf (b.drop (b.length - 8))) :
    Calls Try.prog 49 #[.slice a len cap] w fun e w' => e = .returned (.tuple #[.int .i64 0, .slice none 0 0, .bool false]) ∧ Below w.heap.size w w' := by
  have hle := hT.le
  have hmx := hT.max
  have hbl := hT.length
  have s1 : ∀ w, (Instr.slice 31 (.slice a len cap) none (some (.int .i64 8)) none).run Try.prog w = .ok (.slice a 8 cap) w := fun w => run_cut_h Try.underlying31 size_u8 a len cap 8 w (by omega) (by omega)
  have s2 : ∀ w, (Instr.slice 31 (.slice a len cap) (some (.int .i64 ((len : Int) - 8))) none none).run Try.prog w = .ok (.slice (cutA a (len - 8) cap) 8 (cap - (len - 8))) w := fun w => by
    have := run_cut_l (P := Try.prog) Try.underlying31 size_u8 a len cap ((len - 8 : Nat) : Int) w (by omega) (by omega)
    rw [show ((len - 8 : Nat) : Int) = (len : Int) - 8 by omega, show ((len : Int) - 8).toNat = len - 8 by omega, show len - (len - 8) = 8 by omega] at this
    exact this
  have s3 : ∀ w, (Instr.slice 31 (.slice a len cap) (some (.int .i64 8)) (some (.int .i64 10)) none).run Try.prog w = .ok (.slice (cutA a 8 cap) 2 (cap - 8)) w := fun w => run_cut_lh Try.underlying31 size_u8 a len cap 8 10 w (by omega) (by omega) (by omega)
  have t1 := hT.cut 0 8 (by omega) (by omega)
  have t2 := hT.cut (len - 8) len (by omega) (by omega)
  have t3 := hT.cut 8 10 (by omega) (by omega)
  simp only [cutA_zero, List.drop_zero, Nat.sub_zero] at t1
  rw [show len - (len - 8) = 8 by omega] at t2
  have n1 := numOf_bounds _ t1.small
  have n2 := numOf_bounds _ t2.small
  have n3 := numOf_bounds _ t3.small
  have l1 := t1.length
  have l2 := t2.length
  have l3 := t3.length
  rw [l1] at n1
  rw [l2] at n2
  rw [l3] at n3
  have O1 := hid (fun W : World => fun h => of_text (w := W) (a := a) (len := 8) (cap := cap) (bs := b.take 8) h (by omega))
  have O2 := hid (fun W : World => fun h => of_text (w := W) (a := cutA a (len - 8) cap) (len := 8) (cap := cap - (len - 8)) (bs := (b.drop (len - 8)).take 8) h (by omega))
  have O3 := hid (fun W : World => fun h => of_text (w := W) (a := cutA a 8 cap) (len := 2) (cap := cap - 8) (bs := (b.drop 8).take 2) h (by omega))
  have e2 : (b.drop (len - 8)).take 8 = b.drop (b.length - 8) := by rw [hbl]; exact List.take_of_length_le (by rw [List.length_drop]; omega)
  have T1 := hid t1
  have T2 := hid t2
  have T3 := hid t3
  clear t1 t2 t3
  rw [e2] at n2 O2 T2
  clear e2
  generalize numOf (b.take 8) = A at *
  generalize numOf ((b.drop 8).take 2) = N at *
  generalize numOf (b.drop (b.length - 8)) = C at *
  have q1 : (A != C) = true := by simp [h1]
  clear h1
  go_enter Try.func49, Try.ntmps49
  go_wp2_with fail
  refine (O1.out _ T1.out).mono ?_
  rintro e wq ⟨rfl, rfl⟩
  go_wp2_with fail
  refine (O2.out _ T2.out).mono ?_
  rintro e wq ⟨rfl, rfl⟩
  go_wp2_with fail
  refine (O3.out _ T3.out).mono ?_
  rintro e wq ⟨rfl, rfl⟩
  go_wp2_with fail
  go_returns
  exact ⟨rfl, Below.refl _ _⟩
set_option maxHeartbeats 4000000 in
set_option maxRecDepth 100000 in
theorem content_low {w : World} {a : Option Addr} {len cap : Nat} {b : List Int} (hT : TextAt w a len cap b) (h18 : 18 ≤ len) (h512 : len ≤ 512) (h1 : numOf (b.take 8) = numOf (b.drop (b.length - 8))) (h2 : numOf (b.take 8) < 1) :
    Calls Try.prog 49 #[.slice a len cap] w fun e w' => e = .returned (.tuple #[.int .i64 0, .slice none 0 0, .bool false]) ∧ Below w.heap.size w w' := by
  have hle := hT.le
  have hmx := hT.max
  have hbl := hT.length
  have s1 : ∀ w, (Instr.slice 31 (.slice a len cap) none (some (.int .i64 8)) none).run Try.prog w = .ok (.slice a 8 cap) w := fun w => run_cut_h Try.underlying31 size_u8 a len cap 8 w (by omega) (by omega)
  have s2 : ∀ w, (Instr.slice 31 (.slice a len cap) (some (.int .i64 ((len : Int) - 8))) none none).run Try.prog w = .ok (.slice (cutA a (len - 8) cap) 8 (cap - (len - 8))) w := fun w => by
    have := run_cut_l (P := Try.prog) Try.underlying31 size_u8 a len cap ((len - 8 : Nat) : Int) w (by omega) (by omega)
    rw [show ((len - 8 : Nat) : Int) = (len : Int) - 8 by omega, show ((len : Int) - 8).toNat = len - 8 by omega, show len - (len - 8) = 8 by omega] at this
    exact this
  have s3 : ∀ w, (Instr.slice 31 (.slice a len cap) (some (.int .i64 8)) (some (.int .i64 10)) none).run Try.prog w = .ok (.slice (cutA a 8 cap) 2 (cap - 8)) w := fun w => run_cut_lh Try.underlying31 size_u8 a len cap 8 10 w (by omega) (by omega) (by omega)
  have t1 := hT.cut 0 8 (by omega) (by omega)
  have t2 := hT.cut (len - 8) len (by omega) (by omega)
  have t3 := hT.cut 8 10 (by omega) (by omega)
  simp only [cutA_zero, List.drop_zero, Nat.sub_zero] at t1
  rw [show len - (len - 8) = 8 by omega] at t2
  have n1 := numOf_bounds _ t1.small
  have n2 := numOf_bounds _ t2.small
  have n3 := numOf_bounds _ t3.small
  have l1 := t1.length
  have l2 := t2.length
  have l3 := t3.length
  rw [l1] at n1
  rw [l2] at n2
  rw [l3] at n3
  have O1 := hid (fun W : World => fun h => of_text (w := W) (a := a) (len := 8) (cap := cap) (bs := b.take 8) h (by omega))
  have O2 := hid (fun W : World => fun h => of_text (w := W) (a := cutA a (len - 8) cap) (len := 8) (cap := cap - (len - 8)) (bs := (b.drop (len - 8)).take 8) h (by omega))
  have O3 := hid (fun W : World => fun h => of_text (w := W) (a := cutA a 8 cap) (len := 2) (cap := cap - 8) (bs := (b.drop 8).take 2) h (by omega))
  have e2 : (b.drop (len - 8)).take 8 = b.drop (b.length - 8) := by rw [hbl]; exact List.take_of_length_le (by rw [List.length_drop]; omega)
  have T1 := hid t1
  have T2 := hid t2
  have T3 := hid t3
  clear t1 t2 t3
  rw [e2] at n2 O2 T2
  clear e2
  rw [← h1] at n2 O2
  generalize numOf (b.take 8) = A at *
  generalize numOf ((b.drop 8).take 2) = N at *
  have q2 : A < 1 := h2
  clear h1
  go_enter Try.func49, Try.ntmps49
  go_wp2_with fail
  refine (O1.out _ T1.out).mono ?_
  rintro e wq ⟨rfl, rfl⟩
  go_wp2_with fail
  refine (O2.out _ T2.out).mono ?_
  rintro e wq ⟨rfl, rfl⟩
  go_wp2_with fail
  refine (O3.out _ T3.out).mono ?_
  rintro e wq ⟨rfl, rfl⟩
  go_wp2_with fail
  go_returns
  exact ⟨rfl, Below.refl _ _⟩
set_option maxHeartbeats 4000000 in
set_option maxRecDepth 100000 in
theorem content_big {w : World} {a : Option Addr} {len cap : Nat} {b : List Int} (hT : TextAt w a len cap b) (h18 : 18 ≤ len) (h512 : len ≤ 512) (h1 : numOf (b.take 8) = numOf (b.drop (b.length - 8))) (h2 : 1 ≤ numOf (b.take 8)) (h3 : 4611686018427387904 < numOf (b.take 8)) :
    Calls Try.prog 49 #[.slice a len cap] w fun e w' => e = .returned (.tuple #[.int .i64 0, .slice none 0 0, .bool false]) ∧ Below w.heap.size w w' := by
  have hle := hT.le
  have hmx := hT.max
  have hbl := hT.length
  have s1 : ∀ w, (Instr.slice 31 (.slice a len cap) none (some (.int .i64 8)) none).run Try.prog w = .ok (.slice a 8 cap) w := fun w => run_cut_h Try.underlying31 size_u8 a len cap 8 w (by omega) (by omega)
  have s2 : ∀ w, (Instr.slice 31 (.slice a len cap) (some (.int .i64 ((len : Int) - 8))) none none).run Try.prog w = .ok (.slice (cutA a (len - 8) cap) 8 (cap - (len - 8))) w := fun w => by
    have := run_cut_l (P := Try.prog) Try.underlying31 size_u8 a len cap ((len - 8 : Nat) : Int) w (by omega) (by omega)
    rw [show ((len - 8 : Nat) : Int) = (len : Int) - 8 by omega, show ((len : Int) - 8).toNat = len - 8 by omega, show len - (len - 8) = 8 by omega] at this
    exact this
  have s3 : ∀ w, (Instr.slice 31 (.slice a len cap) (some (.int .i64 8)) (some (.int .i64 10)) none).run Try.prog w = .ok (.slice (cutA a 8 cap) 2 (cap - 8)) w := fun w => run_cut_lh Try.underlying31 size_u8 a len cap 8 10 w (by omega) (by omega) (by omega)
  have t1 := hT.cut 0 8 (by omega) (by omega)
  have t2 := hT.cut (len - 8) len (by omega) (by omega)
  have t3 := hT.cut 8 10 (by omega) (by omega)
  simp only [cutA_zero, List.drop_zero, Nat.sub_zero] at t1
  rw [show len - (len - 8) = 8 by omega] at t2
  have n1 := numOf_bounds _ t1.small
  have n2 := numOf_bounds _ t2.small
  have n3 := numOf_bounds _ t3.small
  have l1 := t1.length
  have l2 := t2.length
  have l3 := t3.length
  rw [l1] at n1
  rw [l2] at n2
  rw [l3] at n3
  have O1 := hid (fun W : World => fun h => of_text (w := W) (a := a) (len := 8) (cap := cap) (bs := b.take 8) h (by omega))
  have O2 := hid (fun W : World => fun h => of_text (w := W) (a := cutA a (len - 8) cap) (len := 8) (cap := cap - (len - 8)) (bs := (b.drop (len - 8)).take 8) h (by omega))
  have O3 := hid (fun W : World => fun h => of_text (w := W) (a := cutA a 8 cap) (len := 2) (cap := cap - 8) (bs := (b.drop 8).take 2) h (by omega))
  have e2 : (b.drop (len - 8)).take 8 = b.drop (b.length - 8) := by rw [hbl]; exact List.take_of_length_le (by rw [List.length_drop]; omega)
  have T1 := hid t1
  have T2 := hid t2
  have T3 := hid t3
  clear t1 t2 t3
  rw [e2] at n2 O2 T2
  clear e2
  rw [← h1] at n2 O2
  generalize numOf (b.take 8) = A at *
  generalize numOf ((b.drop 8).take 2) = N at *
  have q2 : ¬ A < 1 := by omega
  clear h1
  go_enter Try.func49, Try.ntmps49
  go_wp2_with fail
  refine (O1.out _ T1.out).mono ?_
  rintro e wq ⟨rfl, rfl⟩
  go_wp2_with fail
  refine (O2.out _ T2.out).mono ?_
  rintro e wq ⟨rfl, rfl⟩
  go_wp2_with fail
  refine (O3.out _ T3.out).mono ?_
  rintro e wq ⟨rfl, rfl⟩
  go_wp2_with fail
  go_returns
  exact ⟨rfl, Below.refl _ _⟩
set_option maxHeartbeats 4000000 in
set_option maxRecDepth 100000 in
theorem content_size {w : World} {a : Option Addr} {len cap : Nat} {b : List Int} (hT : TextAt w a len cap b) (h18 : 18 ≤ len) (h512 : len ≤ 512) (h1 : numOf (b.take 8) = numOf (b.drop (b.length - 8))) (h2 : 1 ≤ numOf (b.take 8)) (h3 : numOf (b.take 8) ≤ 4611686018427387904) (h4 : (b.length : Int) - 18 < numOf ((b.drop 8).take 2)) :
    Calls Try.prog 49 #[.slice a len cap] w fun e w' => e = .returned (.tuple #[.int .i64 0, .slice none 0 0, .bool false]) ∧ Below w.heap.size w w' := by
  have hle := hT.le
  have hmx := hT.max
  have hbl := hT.length
  have s1 : ∀ w, (Instr.slice 31 (.slice a len cap) none (some (.int .i64 8)) none).run Try.prog w = .ok (.slice a 8 cap) w := fun w => run_cut_h Try.underlying31 size_u8 a len cap 8 w (by omega) (by omega)
  have s2 : ∀ w, (Instr.slice 31 (.slice a len cap) (some (.int .i64 ((len : Int) - 8))) none none).run Try.prog w = .ok (.slice (cutA a (len - 8) cap) 8 (cap - (len - 8))) w := fun w => by
    have := run_cut_l (P := Try.prog) Try.underlying31 size_u8 a len cap ((len - 8 : Nat) : Int) w (by omega) (by omega)
    rw [show ((len - 8 : Nat) : Int) = (len : Int) - 8 by omega, show ((len : Int) - 8).toNat = len - 8 by omega, show len - (len - 8) = 8 by omega] at this
    exact this
  have s3 : ∀ w, (Instr.slice 31 (.slice a len cap) (some (.int .i64 8)) (some (.int .i64 10)) none).run Try.prog w = .ok (.slice (cutA a 8 cap) 2 (cap - 8)) w := fun w => run_cut_lh Try.underlying31 size_u8 a len cap 8 10 w (by omega) (by omega) (by omega)
  have t1 := hT.cut 0 8 (by omega) (by omega)
  have t2 := hT.cut (len - 8) len (by omega) (by omega)
  have t3 := hT.cut 8 10 (by omega) (by omega)
  simp only [cutA_zero, List.drop_zero, Nat.sub_zero] at t1
  rw [show len - (len - 8) = 8 by omega] at t2
  have n1 := numOf_bounds _ t1.small
  have n2 := numOf_bounds _ t2.small
  have n3 := numOf_bounds _ t3.small
  have l1 := t1.length
  have l2 := t2.length
  have l3 := t3.length
  rw [l1] at n1
  rw [l2] at n2
  rw [l3] at n3
  have O1 := hid (fun W : World => fun h => of_text (w := W) (a := a) (len := 8) (cap := cap) (bs := b.take 8) h (by omega))
  have O2 := hid (fun W : World => fun h => of_text (w := W) (a := cutA a (len - 8) cap) (len := 8) (cap := cap - (len - 8)) (bs := (b.drop (len - 8)).take 8) h (by omega))
  have O3 := hid (fun W : World => fun h => of_text (w := W) (a := cutA a 8 cap) (len := 2) (cap := cap - 8) (bs := (b.drop 8).take 2) h (by omega))
  have e2 : (b.drop (len - 8)).take 8 = b.drop (b.length - 8) := by rw [hbl]; exact List.take_of_length_le (by rw [List.length_drop]; omega)
  have T1 := hid t1
  have T2 := hid t2
  have T3 := hid t3
  clear t1 t2 t3
  rw [e2] at n2 O2 T2
  clear e2
  rw [← h1] at n2 O2
  rw [hbl] at h4
  generalize numOf (b.take 8) = A at *
  generalize numOf ((b.drop 8).take 2) = N at *
  have q2 : ¬ A < 1 := by omega
  have q3 : ¬ 4611686018427387904 < A := by omega
  have q5 : ((len : Int) - 18) % 18446744073709551616 = (len : Int) - 18 := by omega
  clear h1
  have q4 : (len : Int) - 18 < N := h4
  go_enter Try.func49, Try.ntmps49
  go_wp2_with fail
  refine (O1.out _ T1.out).mono ?_
  rintro e wq ⟨rfl, rfl⟩
  go_wp2_with fail
  refine (O2.out _ T2.out).mono ?_
  rintro e wq ⟨rfl, rfl⟩
  go_wp2_with fail
  refine (O3.out _ T3.out).mono ?_
  rintro e wq ⟨rfl, rfl⟩
  go_wp2_with fail
  go_returns
  exact ⟨rfl, Below.refl _ _⟩
set_option maxHeartbeats 4000000 in
set_option maxRecDepth 100000 in
theorem content_good {w : World} {a : Option Addr} {len cap : Nat} {b : List Int} (hT : TextAt w a len cap b) (h18 : 18 ≤ len) (h512 : len ≤ 512) (h1 : numOf (b.take 8) = numOf (b.drop (b.length - 8))) (h2 : 1 ≤ numOf (b.take 8)) (h3 : numOf (b.take 8) ≤ 4611686018427387904) (h4 : numOf ((b.drop 8).take 2) ≤ (b.length : Int) - 18) :
    Calls Try.prog 49 #[.slice a len cap] w fun e w' => ∃ sa sc, e = .returned (.tuple #[.int .i64 (numOf (b.take 8)), .slice sa (numOf ((b.drop 8).take 2)).toNat sc, .bool true]) ∧ Below w.heap.size w w' ∧ sa = cutA a 10 cap ∧ TextAt w' sa (numOf ((b.drop 8).take 2)).toNat sc ((b.drop 10).take (numOf ((b.drop 8).take 2)).toNat) := by
  have hle := hT.le
  have hmx := hT.max
  have hbl := hT.length
  have s1 : ∀ w, (Instr.slice 31 (.slice a len cap) none (some (.int .i64 8)) none).run Try.prog w = .ok (.slice a 8 cap) w := fun w => run_cut_h Try.underlying31 size_u8 a len cap 8 w (by omega) (by omega)
  have s2 : ∀ w, (Instr.slice 31 (.slice a len cap) (some (.int .i64 ((len : Int) - 8))) none none).run Try.prog w = .ok (.slice (cutA a (len - 8) cap) 8 (cap - (len - 8))) w := fun w => by
    have := run_cut_l (P := Try.prog) Try.underlying31 size_u8 a len cap ((len - 8 : Nat) : Int) w (by omega) (by omega)
    rw [show ((len - 8 : Nat) : Int) = (len : Int) - 8 by omega, show ((len : Int) - 8).toNat = len - 8 by omega, show len - (len - 8) = 8 by omega] at this
    exact this
  have s3 : ∀ w, (Instr.slice 31 (.slice a len cap) (some (.int .i64 8)) (some (.int .i64 10)) none).run Try.prog w = .ok (.slice (cutA a 8 cap) 2 (cap - 8)) w := fun w => run_cut_lh Try.underlying31 size_u8 a len cap 8 10 w (by omega) (by omega) (by omega)
  have t1 := hT.cut 0 8 (by omega) (by omega)
  have t2 := hT.cut (len - 8) len (by omega) (by omega)
  have t3 := hT.cut 8 10 (by omega) (by omega)
  simp only [cutA_zero, List.drop_zero, Nat.sub_zero] at t1
  rw [show len - (len - 8) = 8 by omega] at t2
  have n1 := numOf_bounds _ t1.small
  have n2 := numOf_bounds _ t2.small
  have n3 := numOf_bounds _ t3.small
  have l1 := t1.length
  have l2 := t2.length
  have l3 := t3.length
  rw [l1] at n1
  rw [l2] at n2
  rw [l3] at n3
  have O1 := hid (fun W : World => fun h => of_text (w := W) (a := a) (len := 8) (cap := cap) (bs := b.take 8) h (by omega))
  have O2 := hid (fun W : World => fun h => of_text (w := W) (a := cutA a (len - 8) cap) (len := 8) (cap := cap - (len - 8)) (bs := (b.drop (len - 8)).take 8) h (by omega))
  have O3 := hid (fun W : World => fun h => of_text (w := W) (a := cutA a 8 cap) (len := 2) (cap := cap - 8) (bs := (b.drop 8).take 2) h (by omega))
  have e2 : (b.drop (len - 8)).take 8 = b.drop (b.length - 8) := by rw [hbl]; exact List.take_of_length_le (by rw [List.length_drop]; omega)
  have T1 := hid t1
  have T2 := hid t2
  have T3 := hid t3
  clear t1 t2 t3
  rw [e2] at n2 O2 T2
  clear e2
  rw [← h1] at n2 O2
  rw [hbl] at h4
  generalize numOf (b.take 8) = A at *
  generalize numOf ((b.drop 8).take 2) = N at *
  have q2 : ¬ A < 1 := by omega
  have q3 : ¬ 4611686018427387904 < A := by omega
  have q5 : ((len : Int) - 18) % 18446744073709551616 = (len : Int) - 18 := by omega
  clear h1
  have q4 : ¬ (len : Int) - 18 < N := by omega
  have q6 : wrap64 A = A := by unfold wrap64; omega
  obtain ⟨M, rfl⟩ : ∃ M : Nat, N = M := ⟨N.toNat, by omega⟩
  go_enter Try.func49, Try.ntmps49
  go_wp2_with fail
  refine (O1.out _ T1.out).mono ?_
  rintro e wq ⟨rfl, rfl⟩
  go_wp2_with fail
  refine (O2.out _ T2.out).mono ?_
  rintro e wq ⟨rfl, rfl⟩
  go_wp2_with fail
  refine (O3.out _ T3.out).mono ?_
  rintro e wq ⟨rfl, rfl⟩
  go_wp2_with fail
  have Hb := hid (Below.refl w.heap.size w)
  refine wp_region_flow 7 (List.range 7) [] [] (by kernel_rfl) (by kernel_rfl) ?_
  apply Exists.intro
  refine ⟨fun w0 hb0 hF0 => ?_, ?_⟩
  · skip
    simp only [pick, List.range, List.range.loop, List.getElem?_toArray, List.getElem?_cons_succ, List.getElem?_cons_zero, Option.toList_some, List.cons_append, List.nil_append]
    repeat (first | go_big_quiet_step (fail) | (go_big_quiet_want; refine quiet_cut_lo _ _ rfl a len cap 10 _ rfl _ rfl rfl rfl (by omega) ?_; go_big_quiet_on; simp only [Act.put, List.setIfInBounds_toArray, List.set_cons_zero, List.set_cons_succ]) | (go_big_quiet_want; refine quiet_cut_hu .u64 _ _ rfl (cutA a 10 cap) (len - 10) (cap - 10) M _ rfl _ rfl rfl rfl (by omega) ?_; go_big_quiet_on; simp only [Act.put, List.setIfInBounds_toArray, List.set_cons_zero, List.set_cons_succ]))
    exact wpQuiet_nil rfl
  refine AlChk.nil ?_
  refine Walk.fin fun w1 hw1 _ _ => ?_
  simp only [List.drop_succ_cons, List.drop_zero]
  have HBw1 := hid (Below.on Hb.out hw1)
  have hsw1 := HBw1.out.size
  clear hw1
  go_wp2_with fail
  have t10 := hT.cut 10 (10 + M) (by omega) (by omega)
  rw [show 10 + M - 10 = M by omega] at t10
  go_returns
  refine ⟨cutA a 10 cap, cap - 10, ?_, HBw1.out, rfl, t10.below HBw1.out⟩
  first
    | rfl
    | (unfold cutA; rw [if_neg (by omega)]; rfl)
    | (unfold cutA; simp [show ¬ cap = 10 by omega]; rfl)
theorem slotText_len {b : List Int} (h : slotOk b = true) (hs : ∀ x ∈ b, 0 ≤ x ∧ x < 256) (h18 : 18 ≤ b.length) : (slotText b).length = (numOf ((b.drop 8).take 2)).toNat := by
  have hb := numOf_bounds ((b.drop 8).take 2) (fun x hx => hs x (List.mem_of_mem_drop (List.mem_of_mem_take hx)))
  have h2 := of_decide_eq_true h
  unfold slotText
  rw [if_pos h, List.length_take, List.length_drop]
  omega
theorem content_any {w : World} {a : Option Addr} {len cap : Nat} {b : List Int} (hT : TextAt w a len cap b) (h18 : 18 ≤ len) (h512 : len ≤ 512) :
    Calls Try.prog 49 #[.slice a len cap] w fun e w' => Below w.heap.size w w' ∧ (slotOk b = false ∧ e = .returned (.tuple #[.int .i64 0, .slice none 0 0, .bool false]) ∨ slotOk b = true ∧ ∃ sa sc, e = .returned (.tuple #[.int .i64 (slotTurn b), .slice sa (slotText b).length sc, .bool true]) ∧ sa = cutA a 10 cap ∧ TextAt w' sa (slotText b).length sc (slotText b)) := by
  have hbl := hT.length
  by_cases h1 : numOf (b.take 8) = numOf (b.drop (b.length - 8))
  · by_cases h2 : 1 ≤ numOf (b.take 8)
    · by_cases h3 : numOf (b.take 8) ≤ 4611686018427387904
      · by_cases h4 : numOf ((b.drop 8).take 2) ≤ (b.length : Int) - 18
        · have hok : slotOk b = true := decide_eq_true ⟨h1, h2, h3, h4⟩
          have hl := slotText_len hok hT.small (by omega)
          refine (content_good hT h18 h512 h1 h2 h3 h4).mono ?_
          rintro e w' ⟨sa, sc, rfl, hb, hsa, ht⟩
          refine ⟨hb, .inr ⟨hok, sa, sc, ?_, hsa, ?_⟩⟩
          · rw [hl]; unfold slotTurn; rw [if_pos hok]
          · rw [hl]; unfold slotText; rw [if_pos hok]; exact ht
        · have hok : slotOk b = false := decide_eq_false fun h => h4 h.2.2.2
          exact (content_size hT h18 h512 h1 h2 h3 (by omega)).mono fun e w' h => ⟨h.2, .inl ⟨hok, h.1⟩⟩
      · have hok : slotOk b = false := decide_eq_false fun h => h3 h.2.2.1
        exact (content_big hT h18 h512 h1 h2 (by omega)).mono fun e w' h => ⟨h.2, .inl ⟨hok, h.1⟩⟩
    · have hok : slotOk b = false := decide_eq_false fun h => h2 h.2.1
      exact (content_low hT h18 h512 h1 (by omega)).mono fun e w' h => ⟨h.2, .inl ⟨hok, h.1⟩⟩
  · have hok : slotOk b = false := decide_eq_false fun h => h1 h.1
    exact (content_ne hT h18 h512 h1).mono fun e w' h => ⟨h.2, .inl ⟨hok, h.1⟩⟩
end Go.Proofs.Ytmpgnpkodapidaa
