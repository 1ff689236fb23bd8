/-
  The rounds' functions, as the program and the reference write them.
-/
import Derived.Test.YtkiaeepdpmcafaaDoorShaRot
namespace Go.Proofs.YtkiaeepdpmcafaaDoor
open Go.RowKit

theorem ch_alt (e f g : Nat) (he : e < 4294967296) (hg : g < 4294967296) : g ^^^ (e &&& (f ^^^ g)) = Sha.ch e f g := by
  unfold Sha.ch
  apply Nat.eq_of_testBit_eq
  intro i
  have hc : (4294967295 - e).testBit i = (decide (i < 32) && !e.testBit i) := by
    have := Nat.testBit_two_pow_sub_succ (n := 32) (x := e) he i
    rwa [show 2 ^ 32 - (e + 1) = 4294967295 - e by omega] at this
  simp only [Nat.testBit_xor, Nat.testBit_and, hc]
  by_cases hi : i < 32
  · simp only [hi, decide_true, Bool.true_and]
    cases e.testBit i <;> cases f.testBit i <;> cases g.testBit i <;> rfl
  · have hgi : g.testBit i = false := Nat.testBit_lt_two_pow (Nat.lt_of_lt_of_le hg (Nat.pow_le_pow_right (n := 2) (by decide) (show 32 ≤ i by omega)))
    have hei : e.testBit i = false := Nat.testBit_lt_two_pow (Nat.lt_of_lt_of_le he (Nat.pow_le_pow_right (n := 2) (by decide) (show 32 ≤ i by omega)))
    simp [hgi, hei]

theorem maj_alt (a b c : Nat) : (a &&& b) ||| (c &&& (a ||| b)) = Sha.maj a b c := by
  unfold Sha.maj
  apply Nat.eq_of_testBit_eq
  intro i
  simp only [Nat.testBit_xor, Nat.testBit_and, Nat.testBit_or]
  cases a.testBit i <;> cases b.testBit i <;> cases c.testBit i <;> rfl

section
variable {a b c e f g : Nat}
theorem S1_lt (he : e < 4294967296) : Sha.S1 e < 4294967296 := xor_lt (xor_lt (rotr_lt 6 e he (by decide)) (rotr_lt 11 e he (by decide))) (rotr_lt 25 e he (by decide))
theorem S0_lt (ha : a < 4294967296) : Sha.S0 a < 4294967296 := xor_lt (xor_lt (rotr_lt 2 a ha (by decide)) (rotr_lt 13 a ha (by decide))) (rotr_lt 22 a ha (by decide))
theorem ch_lt (he : e < 4294967296) : Sha.ch e f g < 4294967296 := xor_lt (and_lt he) (and_lt (by omega))
theorem maj_lt (ha : a < 4294967296) (hb : b < 4294967296) : Sha.maj a b c < 4294967296 := xor_lt (xor_lt (and_lt ha) (and_lt ha)) (and_lt hb)
theorem bits_S1 (he : e < 4294967296) : bits .xor .u32 (bits .xor .u32 ((Sha.rotr 6 e : Nat) : Int) ((Sha.rotr 11 e : Nat) : Int)) ((Sha.rotr 25 e : Nat) : Int) = ((Sha.S1 e : Nat) : Int) := by
  rw [u32_xor_nat _ _ (rotr_lt 6 e he (by decide)) (rotr_lt 11 e he (by decide)), u32_xor_nat _ _ (xor_lt (rotr_lt 6 e he (by decide)) (rotr_lt 11 e he (by decide))) (rotr_lt 25 e he (by decide))]
  rfl
theorem bits_S0 (ha : a < 4294967296) : bits .xor .u32 (bits .xor .u32 ((Sha.rotr 2 a : Nat) : Int) ((Sha.rotr 13 a : Nat) : Int)) ((Sha.rotr 22 a : Nat) : Int) = ((Sha.S0 a : Nat) : Int) := by
  rw [u32_xor_nat _ _ (rotr_lt 2 a ha (by decide)) (rotr_lt 13 a ha (by decide)), u32_xor_nat _ _ (xor_lt (rotr_lt 2 a ha (by decide)) (rotr_lt 13 a ha (by decide))) (rotr_lt 22 a ha (by decide))]
  rfl
theorem bits_ch (he : e < 4294967296) (hf : f < 4294967296) (hg : g < 4294967296) : bits .xor .u32 (g : Int) (bits .and .u32 (e : Int) (bits .xor .u32 (f : Int) (g : Int))) = ((Sha.ch e f g : Nat) : Int) := by
  rw [u32_xor_nat _ _ hf hg, u32_and_nat _ _ he (xor_lt hf hg), u32_xor_nat _ _ hg (and_lt he), ch_alt e f g he hg]
theorem bits_maj (ha : a < 4294967296) (hb : b < 4294967296) (hc : c < 4294967296) : bits .or .u32 (bits .and .u32 (a : Int) (b : Int)) (bits .and .u32 (c : Int) (bits .or .u32 (a : Int) (b : Int))) = ((Sha.maj a b c : Nat) : Int) := by
  rw [u32_and_nat _ _ ha hb, u32_or_nat _ _ ha hb, u32_and_nat _ _ hc (or_lt ha hb), u32_or_nat _ _ (and_lt ha) (and_lt hc), maj_alt]
/-- as the reference writes them -/
theorem bits_ch_ref (he : e < 4294967296) (hf : f < 4294967296) (hg : g < 4294967296) : bits .xor .u32 (bits .and .u32 (e : Int) (f : Int)) (bits .and .u32 (4294967295 - (e : Int)) (g : Int)) = ((Sha.ch e f g : Nat) : Int) := by
  rw [show 4294967295 - (e : Int) = ((4294967295 - e : Nat) : Int) by omega, u32_and_nat _ _ he hf, u32_and_nat _ _ (by omega) hg, u32_xor_nat _ _ (and_lt he) (and_lt (by omega))]
  rfl
theorem bits_maj_ref (ha : a < 4294967296) (hb : b < 4294967296) (hc : c < 4294967296) : bits .xor .u32 (bits .xor .u32 (bits .and .u32 (a : Int) (b : Int)) (bits .and .u32 (a : Int) (c : Int))) (bits .and .u32 (b : Int) (c : Int)) = ((Sha.maj a b c : Nat) : Int) := by
  rw [u32_and_nat _ _ ha hb, u32_and_nat _ _ ha hc, u32_and_nat _ _ hb hc, u32_xor_nat _ _ (and_lt ha) (and_lt ha), u32_xor_nat _ _ (xor_lt (and_lt ha) (and_lt ha)) (and_lt hb)]
  rfl
end

structure Ok (s : Sha.St) : Prop where
  a : s.a < 4294967296
  b : s.b < 4294967296
  c : s.c < 4294967296
  d : s.d < 4294967296
  e : s.e < 4294967296
  f : s.f < 4294967296
  g : s.g < 4294967296
  h : s.h < 4294967296
theorem Ok.round {s : Sha.St} (h : Ok s) (k w : Nat) : Ok (Sha.round k w s) := ⟨Nat.mod_lt _ (by decide), h.a, h.b, h.c, Nat.mod_lt _ (by decide), h.e, h.f, h.g⟩
theorem Ok.rounds {s : Sha.St} (h : Ok s) (ws : List Nat) : ∀ n, Ok (Sha.rounds ws s n)
  | 0 => h
  | n + 1 => (Ok.rounds h ws n).round _ _
theorem Ok.compress (s : Sha.St) (bl : List Nat) : Ok (Sha.compress s bl) := ⟨Nat.mod_lt _ (by decide), Nat.mod_lt _ (by decide), Nat.mod_lt _ (by decide), Nat.mod_lt _ (by decide), Nat.mod_lt _ (by decide), Nat.mod_lt _ (by decide), Nat.mod_lt _ (by decide), Nat.mod_lt _ (by decide)⟩
theorem Ok.start : Ok Sha.start := ⟨by decide, by decide, by decide, by decide, by decide, by decide, by decide, by decide⟩
theorem Ok.run {s : Sha.St} (h : Ok s) (bs : List Nat) : ∀ n, Ok (Sha.run s bs n)
  | 0 => h
  | _ + 1 => Ok.compress _ _
theorem keys_lt (j : Nat) : Sha.keys.getD j 0 < 4294967296 := by
  rcases Nat.lt_or_ge j 64 with h | h
  · have key : ∀ j : Fin 64, Sha.keys.getD j.val 0 < 4294967296 := by decide +kernel
    exact key ⟨j, h⟩
  · rw [List.getD_eq_getElem?_getD, List.getElem?_eq_none (by simpa [Sha.keys] using h)]
    simp
end Go.Proofs.YtkiaeepdpmcafaaDoor
