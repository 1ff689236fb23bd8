/-
  Layer 17: two indices are compared.
-/
import Derived.Test.YthaicocfbmpnmaaDoorQtA
import Derived.Lib.BytesEntry
import Derived.Deep.QuietTactic
import Derived.BigQuiet
import Derived.Sort.Grow
namespace Go.Proofs.YthaicocfbmpnmaaDoor
open Go.ChangeShapes Go.WideShapes Go.ChangeAt Go.RowKit Go.Sort

/-- Which of two numbers is the greater one. -/
def cmpN (x y : Nat) : Int := if x < y then -1 else if y < x then 1 else 0
theorem u8_lt {x y : Int} (hx : 0 ≤ x ∧ x < 256) (hy : 0 ≤ y ∧ y < 256) : (x.toNat.toUInt8 < y.toNat.toUInt8) ↔ x < y := by
  rw [UInt8.lt_iff_toNat_lt]
  simp only [Nat.toUInt8, UInt8.toNat_ofNat']
  omega
theorem numL_cons (x : Int) (l : List Int) : numL (x :: l) = x.toNat * 256 ^ l.length + numL l := by
  generalize hn : l.length = n
  induction n generalizing l with
  | zero => rw [List.eq_nil_of_length_eq_zero hn]; simp [numL]
  | succ n ih =>
    rcases List.eq_nil_or_concat l with rfl | ⟨m, a, rfl⟩
    · simp at hn
    · rw [List.concat_eq_append] at hn ⊢
      rw [List.length_append, List.length_singleton] at hn
      rw [← List.cons_append, numL_snoc, numL_snoc, ih m (by omega), Nat.pow_succ, Nat.add_mul, Nat.mul_assoc, Nat.add_assoc]
/-- Bytes are compared as their numbers are. -/
theorem compare_num : ∀ (a b : List Int), (∀ x ∈ a, 0 ≤ x ∧ x < 256) → (∀ x ∈ b, 0 ≤ x ∧ x < 256) → a.length = b.length → Lib.compareBytes (Lib.bytesOf a) (Lib.bytesOf b) = cmpN (numL a) (numL b)
  | [], [], _, _, _ => rfl
  | [], _ :: _, _, _, h => by simp at h
  | _ :: _, [], _, _, h => by simp at h
  | x :: a, y :: b, ha, hb, h => by
    have hx := ha x (by simp)
    have hy := hb y (by simp)
    have ih := compare_num a b (fun z hz => ha z (by simp [hz])) (fun z hz => hb z (by simp [hz])) (by simpa using h)
    have h1 := numL_lt a (fun z hz => ha z (by simp [hz]))
    have h2 := numL_lt b (fun z hz => hb z (by simp [hz]))
    have hl : a.length = b.length := by simpa using h
    show (if x.toNat.toUInt8 < y.toNat.toUInt8 then -1 else if y.toNat.toUInt8 < x.toNat.toUInt8 then 1 else Lib.compareBytes (Lib.bytesOf a) (Lib.bytesOf b)) = _
    rw [ih, numL_cons, numL_cons, hl]
    rw [hl] at h1
    generalize 256 ^ b.length = q at *
    unfold cmpN
    by_cases c1 : x < y
    · rw [if_pos ((u8_lt hx hy).2 c1), if_pos]
      have : x.toNat + 1 ≤ y.toNat := by omega
      have := Nat.mul_le_mul_right q this
      rw [Nat.add_mul] at this
      omega
    · rw [if_neg (fun h => c1 ((u8_lt hx hy).1 h))]
      by_cases c2 : y < x
      · have : y.toNat + 1 ≤ x.toNat := by omega
        have := Nat.mul_le_mul_right q this
        rw [Nat.add_mul] at this
        rw [if_pos ((u8_lt hy hx).2 c2), if_neg (by omega), if_pos (by omega)]
      · rw [if_neg (fun h => c2 ((u8_lt hy hx).1 h)), show x = y by omega]
        simp only [Nat.add_lt_add_iff_left]
theorem run_bytes {w : World} {a : Option Addr} {n c : Nat} {t : List Int} (h : TextAt w a n c t) : (Extern.Bytes.bytesOf (.slice a n c)).run Tryd.prog w = .ok ⟨(Lib.bytesOf t).toArray⟩ w := by
  obtain ⟨h1, h2, h3, h4, ⟨rfl, rfl, rfl⟩ | ⟨x, o, s, rfl, hc⟩⟩ := h
  · rw [List.eq_nil_of_length_eq_zero h1]; rfl
  · rcases Nat.eq_zero_or_pos n with h0 | h0
    · subst h0
      rw [List.eq_nil_of_length_eq_zero h1]; rfl
    · obtain ⟨rfl, -, -⟩ := hc 0 h0
      have hl := Lib.run_loadBytesX (P := Tryd.prog) w t ⟨x, o, none⟩ .empty (fun j y hj => by
        have hjl : j < t.length := (List.getElem?_eq_some_iff.1 hj).1
        have e : (⟨x, o, none⟩ : Addr).add j = ⟨x, o + j, none⟩ := by unfold Addr.add; split <;> simp_all
        rw [e, (hc j (by omega)).2.2, List.getD_eq_getElem?_getD, hj]
        rfl)
      rw [h1] at hl
      refine hl.trans ?_
      congr 1
      apply ByteArray.ext
      show (#[] : Array UInt8) ++ (Lib.bytesOf t).toArray = (Lib.bytesOf t).toArray
      simp
/-- The entry that compares. -/
theorem run_compare {w : World} {a b : Option Addr} {n m ca cb : Nat} {s t : List Int} (ha : TextAt w a n ca s) (hb : TextAt w b m cb t) (hl : n = m) : (Extern.BytealgCompare.compare #[.slice a n ca, .slice b m cb]).run Tryd.prog w = .ok (.int .i64 (cmpN (numL s) (numL t))) w := by
  change Sem.run Tryd.prog (do pure (goInt (Extern.BytealgCompare.cmp (← Extern.Bytes.bytesOf (.slice a n ca)) (← Extern.Bytes.bytesOf (.slice b m cb))))) w = _
  simp only [Sem.run_bind, Sem.run_pure, run_bytes ha, run_bytes hb, Result.andThen]
  rw [Lib.cmp_eq, compare_num s t ha.small hb.small (by rw [ha.length, hb.length, hl])]
  rfl
set_option maxHeartbeats 4000000 in
set_option maxRecDepth 100000 in
theorem compare_any (a b : Option Addr) (ca cb : Nat) (s t : List Int) (w : World) (ha : TextAt w a 32 ca s) (hb : TextAt w b 32 cb t) :
    Calls Tryd.prog 82 #[.slice a 32 ca, .slice b 32 cb] w fun e w' => e = .returned (.int .i64 (cmpN (numL s) (numL t))) ∧ w' = w := by
  have HA := hid ha
  have HB := hid hb
  clear ha hb
  go_enter Tryd.func82, Tryd.ntmps82
  go_wp2_with fail
  rw [run_callFunc_extern Tryd.func94 (by kernel_rfl) (by kernel_rfl) (by kernel_rfl) (e := Extern.BytealgCompare.compare) (by kernel_rfl), run_compare HA.out HB.out rfl]
  simp only [Result.andThen]
  rw [Oper.upon_value]
  go_wp2_with fail
  go_ret
  exact ⟨rfl, rfl⟩

theorem grow_two (w : World) (o1 o2 : Obj) (q : Nat) : ((w.alloc o1).alloc o2).drewN q = grow (w.drewN q) (#[o1] ++ #[o2]) := by
  rw [alloc_eq_grow, alloc_eq_grow, grow_grow]
  rfl
set_option maxHeartbeats 4000000 in
set_option maxRecDepth 100000 in
theorem less_any (a b c d : List Int) (w : World) (ha : Dg a) (hc : Dg c) :
    Calls Tryd.prog 81 #[.agg ((entL a b).map (Value.int .u8)).toArray, .agg ((entL c d).map (Value.int .u8)).toArray] w fun e w' => e = .returned (.int .i64 (cmpN (numL a) (numL c))) ∧ ∃ q os, w' = grow (w.drewN q) os := by
  have b1 := (Below.refl w.heap.size w).alloc (Nat.le_refl _) (.cells ((entL a b).map (Value.int .u8)).toArray 25 (0, 0))
  have b2 := b1.alloc b1.size (.cells ((entL c d).map (Value.int .u8)).toArray 25 (0, 0))
  have Ka := hid ((Blk.new (w := w) (n := w.heap.size) rfl ((entL a b).map (Value.int .u8)).toArray 25).old (.cells ((entL c d).map (Value.int .u8)).toArray 25 (0, 0)))
  have Kc := hid (Blk.new (w := (w.alloc (.cells ((entL a b).map (Value.int .u8)).toArray 25 (0, 0)))) (n := w.heap.size + 1) (by simp only [World.size_alloc]) ((entL c d).map (Value.int .u8)).toArray 25)
  have Hb := hid b2
  have hbz := b2.size
  have Hbs := hid (show w.heap.size + 1 + 1 = ((w.alloc (.cells ((entL a b).map (Value.int .u8)).toArray 25 (0, 0))).alloc (.cells ((entL c d).map (Value.int .u8)).toArray 25 (0, 0))).heap.size by simp only [World.size_alloc])
  clear b1 b2 
  have CC := hid (fun (W : World) (h1 : TextAt W (some ⟨w.heap.size, 0, none⟩) 32 32 a) (h2 : TextAt W (some ⟨w.heap.size + 1, 0, none⟩) 32 32 c) => compare_any _ _ 32 32 a c W h1 h2)
  go_enter Tryd.func81, Tryd.ntmps81
  go_wp2_with fail
  go_quiet ((go_at_call 82; exact Calls.quiet_of_same (CC.out _ (two_front ha Ka.out) (two_front hc Kc.out))))
  go_wp2_with fail
  go_returns
  exact ⟨rfl, _, _, grow_two _ _ _ _⟩
end Go.Proofs.YthaicocfbmpnmaaDoor
