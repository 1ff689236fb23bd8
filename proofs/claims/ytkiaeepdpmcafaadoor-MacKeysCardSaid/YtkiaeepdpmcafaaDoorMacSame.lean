/-
  Contract of mac.Same.
-/
import Derived.Test.YtkiaeepdpmcafaaDoorMacFacts
import Derived.Test.YtkiaeepdpmcafaaDoorFlow
namespace Go.Proofs.YtkiaeepdpmcafaaDoor
open Go.ChangeShapes Go.WideShapes Go.ChangeAt Go.RowKit

theorem orxor_zero {u x y : Int} (hu : 0 ≤ u ∧ u < 256) (hx : 0 ≤ x ∧ x < 256) (hy : 0 ≤ y ∧ y < 256) : 0 ≤ bits .or .u8 u (bits .xor .u8 x y) ∧ bits .or .u8 u (bits .xor .u8 x y) < 256 ∧ (bits .or .u8 u (bits .xor .u8 x y) = 0 ↔ u = 0 ∧ x = y) := by
  obtain ⟨a, rfl⟩ := Int.eq_ofNat_of_zero_le hu.1
  obtain ⟨b, rfl⟩ := Int.eq_ofNat_of_zero_le hx.1
  obtain ⟨c, rfl⟩ := Int.eq_ofNat_of_zero_le hy.1
  have h1 := Nat.xor_lt_two_pow (n := 8) (show b < 2 ^ 8 by omega) (show c < 2 ^ 8 by omega)
  have h2 := Nat.or_lt_two_pow (n := 8) (show a < 2 ^ 8 by omega) h1
  rw [u8_xor_nat b c (by omega) (by omega), u8_or_nat a _ (by omega) (by omega)]
  refine ⟨by omega, by omega, ?_⟩
  have h3 : a ||| (b ^^^ c) = 0 ↔ a = 0 ∧ b = c := by
    rw [Nat.or_eq_zero_iff]
    exact and_congr_right fun _ => ⟨fun h => Nat.eq_of_testBit_eq fun i => by
      have := congrArg (fun z => Nat.testBit z i) h
      simp only [Nat.testBit_xor, Nat.zero_testBit] at this
      revert this
      cases b.testBit i <;> cases c.testBit i <;> simp, fun h => by rw [h, Nat.xor_self]⟩
  omega

theorem take_eq_succ {xs ys : List Int} {k : Nat} (hx : k < xs.length) (hy : k < ys.length) : xs.take (k + 1) = ys.take (k + 1) ↔ xs.take k = ys.take k ∧ xs.getD k 0 = ys.getD k 0 := by
  rw [List.take_succ_eq_append_getElem hx, List.take_succ_eq_append_getElem hy]
  constructor
  · intro h
    have := List.append_inj h (by simp; omega)
    refine ⟨this.1, ?_⟩
    have h2 := this.2
    simp at h2
    simp [hx, hy, h2]
  · rintro ⟨h1, h2⟩
    simp [hx, hy] at h2
    rw [h1, h2]

set_option maxHeartbeats 2000000 in
theorem same_ne (a b : Option Addr) (n c m d : Nat) (xs ys : List Int) (w : World) (hx : TextAt w a n c xs) (hy : TextAt w b m d ys) (hne : n ≠ m) :
    Calls Tryd.prog 23 #[.slice a n c, .slice b m d] w fun e w' => e = .returned (.bool (decide (xs = ys))) ∧ Below w.heap.size w w' := by
  have h1 := hx.length
  have h2 := hy.length
  have hd : decide (xs = ys) = false := by
    simp only [decide_eq_false_iff_not]
    rintro rfl
    omega
  have q1 := hx.le
  have q2 := hy.le
  have q3 := hx.max
  have q4 := hy.max
  have hne2 : ¬ ((n : Int) = (m : Int)) := by omega
  have Hd := hid hd
  clear hd hx hy h1 h2
  go_enter Tryd.func23, Tryd.ntmps23
  go_wp2_with fail
  go_ret
  exact ⟨by rw [Hd.out]; rfl, Below.refl _ _⟩

set_option maxHeartbeats 4000000 in
set_option maxRecDepth 100000 in
theorem same_eq (a b : Option Addr) (n c d : Nat) (xs ys : List Int) (w : World) (hx : TextAt w a n c xs) (hy : TextAt w b n d ys) :
    Calls Tryd.prog 23 #[.slice a n c, .slice b n d] w fun e w' => e = .returned (.bool (decide (xs = ys))) ∧ Below w.heap.size w w' := by
  have h1 := hx.length
  have h2 := hy.length
  have q1 := hx.le
  have q3 := hx.max
  have Hx := hid hx
  have Hy := hid hy
  have H12 := hid (And.intro h1 h2)
  clear hx hy h1 h2
  go_enter Tryd.func23, Tryd.ntmps23
  go_wp2_with fail
  go_loopw [5, 14] (fun v i wr => ∃ k : Nat, k ≤ n ∧ i = .int .i64 k ∧ (∃ u : Int, v = .int .u8 u ∧ 0 ≤ u ∧ u < 256 ∧ (u = 0 ↔ xs.take k = ys.take k)) ∧ Below w.heap.size w wr) (fun _ i _ => n - (intOf i).toNat)
  case atStart => exact ⟨0, Nat.zero_le _, rfl, ⟨0, rfl, by omega, by omega, by simp⟩, Below.refl _ _⟩
  case round =>
    obtain ⟨k, hk, rfl, ⟨u, rfl, hu0, hu1, hu⟩, bel⟩ := hrel
    have Hu := hid hu
    have Hbel := hid bel
    clear hu bel
    by_cases hlt : k < n
    · obtain ⟨p, o, rfl, hp, hcx⟩ := Hx.out.at_ (by omega)
      obtain ⟨p', o', rfl, hp', hcy⟩ := Hy.out.at_ (by omega)
      have c1 := (Hbel.out.cell (p := ⟨p, o + k, none⟩) hp).trans (hcx k hlt)
      have c2 := (Hbel.out.cell (p := ⟨p', o' + k, none⟩) hp').trans (hcy k hlt)
      have hb1 := Hx.out.getD k
      have hb2 := Hy.out.getD k
      have hz := orxor_zero ⟨hu0, hu1⟩ hb1 hb2
      have hs := take_eq_succ (xs := xs) (ys := ys) (k := k) (by have := H12.out; omega) (by have := H12.out; omega)
      have hl1 := Nat.lt_of_lt_of_le hp Hbel.out.size
      have hl2 := Nat.lt_of_lt_of_le hp' Hbel.out.size
      have Hz := hid hz
      have Hs := hid hs
      generalize xs.getD k 0 = x at *
      generalize ys.getD k 0 = y at *
      clear hcx hcy hz hs
      go_wp2_with fail
      refine wp_region_flow 11 (List.range 11) [] [] (by kernel_rfl) (by kernel_rfl) ?_
      apply Exists.intro
      refine ⟨fun w0 hb0 hF0 => ?_, ?_⟩
      · have k1 : ∀ e : Ext w0, e.at_.cell? ⟨p, o + k, none⟩ = some (.int .u8 x) := fun e => ((Below.on hb0 e.same).cell (p := ⟨p, o + k, none⟩) hl1).trans c1
        have k2 : ∀ e : Ext w0, e.at_.cell? ⟨p', o' + k, none⟩ = some (.int .u8 y) := fun e => ((Below.on hb0 e.same).cell (p := ⟨p', o' + k, none⟩) hl2).trans c2
        simp only [pick, List.range, List.range.loop, List.getElem?_toArray, List.getElem?_cons_succ, List.getElem?_cons_zero, Option.toList_some, List.cons_append, List.nil_append]
        repeat (go_big_quiet_step (fail))
        exact wpQuiet_nil rfl
      refine AlChk.nil ?_
      refine Walk.fin fun w3 h3 _ _ => ?_
      simp only [List.drop_succ_cons, List.drop_zero]
      have Hb3 := hid (Below.on Hbel.out h3)
      clear h3
      go_wp2_with fail
      exact ⟨⟨k + 1, by omega, by go_num, ⟨_, rfl, Hz.out.1, Hz.out.2.1, Hz.out.2.2.trans (by rw [Hs.out, Hu.out])⟩, Hb3.out⟩, by simp [intOf]; omega⟩
    · have hkn : k = n := by omega
      have hd : decide (u = 0) = decide (xs = ys) := by
        have := Hu.out
        rw [List.take_of_length_le (by have := H12.out; omega), List.take_of_length_le (by have := H12.out; omega)] at this
        exact decide_eq_decide.2 this
      have Hd := hid hd
      have Hkn := hid hkn
      clear hd hkn
      go_wp2_with fail
      go_ret
      exact ⟨by rw [← Hd.out]; rfl, Hbel.out⟩

theorem same_any (a b : Option Addr) (n c m d : Nat) (xs ys : List Int) (w : World) (hx : TextAt w a n c xs) (hy : TextAt w b m d ys) :
    Calls Tryd.prog 23 #[.slice a n c, .slice b m d] w fun e w' => e = .returned (.bool (decide (xs = ys))) ∧ Below w.heap.size w w' := by
  by_cases h : n = m
  · subst h
    exact same_eq a b n c d xs ys w hx hy
  · exact same_ne a b n c m d xs ys w hx hy h
end Go.Proofs.YtkiaeepdpmcafaaDoor
