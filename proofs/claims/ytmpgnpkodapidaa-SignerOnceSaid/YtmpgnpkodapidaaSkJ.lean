/-
  Layer 13: what two slots hold, however much of a write is kept.
-/
import Derived.Test.YtmpgnpkodapidaaSkI
namespace Go.Proofs.Ytmpgnpkodapidaa
open Go.ChangeShapes Go.WideShapes Go.ChangeAt Go.RowKit

theorem be8 (u : Nat) (h : u < 256) : be 8 (u : Int) = List.replicate 7 0 ++ [(u : Int)] := by
  have h1 := be_done 7 1 (u : Int) (by omega) (by simp; omega)
  have h2 : be 1 (u : Int) = [(u : Int)] := by
    rw [be_front 0 (u : Int)]
    have : ((u : Int) / (256 : Int) ^ 0 % 256) = u := by simp; omega
    rw [this]; rfl
  rw [← h2]
  exact h1
theorem be8_inj {u v : Nat} (hu : u < 256) (hv : v < 256) (h : be 8 (u : Int) = be 8 (v : Int)) : u = v := by
  rw [be8 u hu, be8 v hv] at h
  simp only [List.append_cancel_left_eq, List.cons.injEq, and_true] at h
  omega
theorem num8 (u : Nat) (h : u < 256) : numOf (be 8 (u : Int)) = u := by
  rw [numOf_be]
  exact Int.emod_eq_of_lt (by omega) (by have : (256 : Int) ^ 8 = 18446744073709551616 := by decide
                                         omega)
/-- The slot that counts. -/
def OldS (z t : Nat) (now O : List Int) : Prop := O.length = z ∧ (t = 0 ∧ now = [] ∧ O = List.replicate z 0 ∨ 1 ≤ t ∧ O = slotB z t now)
/-- The slot that is written next: an elder one, or its first mark is new. -/
def NewS (z t : Nat) (D : List Int) : Prop := D.length = z ∧ ∃ v : Nat, (v < t ∨ v = 0) ∧ (D.take 8 = be 8 (v : Int) ∨ D.take 8 = be 8 ((t + 1 : Nat) : Int)) ∧ D.drop (z - 8) = be 8 (v : Int)
def KeepS (z t : Nat) (now B : List Int) : Prop := ∃ O D, OldS z t now O ∧ NewS z t D ∧ B = if t % 2 = 0 then O ++ D else D ++ O

theorem slotB_first (z u : Nat) (b : List Int) : (slotB z u b).take 8 = be 8 (u : Int) := by
  unfold slotB
  rw [List.take_append_of_le_length (by rw [be_length]; exact Nat.le_refl 8), List.take_of_length_le (by rw [be_length]; exact Nat.le_refl 8)]
theorem slotB_last (z u : Nat) (b : List Int) (h : b.length + 18 ≤ z) : (slotB z u b).drop (z - 8) = be 8 (u : Int) := by
  unfold slotB
  rw [show be 8 (u : Int) ++ (be 2 (b.length : Int) ++ (b ++ (List.replicate (z - 18 - b.length) 0 ++ be 8 (u : Int)))) = (be 8 (u : Int) ++ (be 2 (b.length : Int) ++ (b ++ List.replicate (z - 18 - b.length) 0))) ++ be 8 (u : Int) by simp only [List.append_assoc]]
  exact List.drop_left' (by simp only [List.length_append, be_length, List.length_replicate]; omega)
theorem slotB_size (z u : Nat) (b : List Int) : ((slotB z u b).drop 8).take 2 = be 2 (b.length : Int) := by
  unfold slotB
  rw [List.drop_left' (be_length 8 _)]
  exact List.take_left' (be_length 2 _)
theorem slotB_text (z u : Nat) (b : List Int) : ((slotB z u b).drop 10).take b.length = b := by
  unfold slotB
  rw [← List.append_assoc, List.drop_left' (by simp only [List.length_append, be_length])]
  exact List.take_left' rfl
theorem num2 (n : Nat) (h : n ≤ 512) : numOf (be 2 (n : Int)) = n := by
  rw [numOf_be]
  exact Int.emod_eq_of_lt (by omega) (by have : (256 : Int) ^ 2 = 65536 := by decide
                                         omega)
theorem slotB_ok (z u : Nat) (b : List Int) (h1 : 1 ≤ u) (h2 : u < 256) (h : b.length + 18 ≤ z) (hz : z ≤ 512) : slotOk (slotB z u b) = true ∧ slotTurn (slotB z u b) = u ∧ slotText (slotB z u b) = b := by
  have hl := slotB_length (u := u) h
  have hok : slotOk (slotB z u b) = true := by
    unfold slotOk
    rw [hl, slotB_first, slotB_last z u b h, slotB_size, num8 u h2, num2 _ (by omega)]
    exact decide_eq_true ⟨rfl, by omega, by omega, by omega⟩
  refine ⟨hok, ?_, ?_⟩
  · unfold slotTurn
    rw [if_pos hok, slotB_first, num8 u h2]
  · unfold slotText
    rw [if_pos hok, slotB_size, num2 _ (by omega), Int.toNat_natCast, slotB_text]
theorem zeros_bad (z : Nat) : slotOk (List.replicate z 0) = false := by
  unfold slotOk
  refine decide_eq_false fun h => ?_
  obtain ⟨-, h1, -⟩ := h
  have hz : ∀ k : Nat, numOf (List.replicate k 0) = 0 := fun k => by rw [← be_zero k, numOf_be]; simp
  rw [List.take_replicate, hz] at h1
  omega
theorem new_low {z t : Nat} {D : List Int} (h : NewS z t D) (ht : t < 255) (hk : slotOk D = true) : slotTurn D < t := by
  obtain ⟨hl, v, hv, hf, hq⟩ := h
  have hok := of_decide_eq_true hk
  unfold slotTurn
  rw [if_pos hk]
  rw [hl, hq, num8 v (by omega)] at hok
  rw [hok.1]
  have := hok.2.1
  rw [hok.1] at this
  omega
theorem KeepS.open {z t : Nat} {now B : List Int} (h : KeepS z t now B) (ht : t < 255) (hn : now.length + 18 ≤ z) (hz : z ≤ 512) : openS z B 0 = ((t : Int), now) := by
  obtain ⟨O, D, ho, hd, rfl⟩ := h
  have hlow := new_low hd ht
  have hol := ho.1
  have hdl := hd.1
  have hold : ∀ s : Int × List Int, 1 ≤ t ∧ s.1 < t ∨ t = 0 ∧ s = (0, []) → pickS s O = ((t : Int), now) := fun s hs => by
    unfold pickS
    obtain ⟨rfl, rfl, rfl⟩ | ⟨h1, rfl⟩ := ho.2
    · rw [if_neg (by rw [zeros_bad]; simp)]
      obtain h | h := hs
      · omega
      · rw [h.2]; rfl
    · obtain ⟨k1, k2, k3⟩ := slotB_ok z t now h1 (by omega) hn hz
      rw [k1, k2, k3, if_pos ⟨rfl, by obtain h | h := hs <;> omega⟩]
  unfold openS
  by_cases hp : t % 2 = 0
  · have e1 : ((O ++ D).drop (0 * z)).take z = O := by rw [Nat.zero_mul, List.drop_zero]; exact List.take_left' hol
    have e2 : ((O ++ D).drop ((0 + 1) * z)).take z = D := by rw [Nat.zero_add, Nat.one_mul, List.drop_left' hol]; exact List.take_of_length_le (by omega)
    rw [if_pos hp, e1, e2, hold (0, []) (by by_cases h0 : t = 0; exact .inr ⟨h0, rfl⟩; exact .inl ⟨by omega, by simp; omega⟩)]
    unfold pickS
    rw [if_neg (fun h => by have := hlow h.1; have := h.2; omega)]
  · have e1 : ((D ++ O).drop (0 * z)).take z = D := by rw [Nat.zero_mul, List.drop_zero]; exact List.take_left' hdl
    have e2 : ((D ++ O).drop ((0 + 1) * z)).take z = O := by rw [Nat.zero_add, Nat.one_mul, List.drop_left' hdl]; exact List.take_of_length_le (by omega)
    rw [if_neg hp, e1, e2]
    refine hold _ (.inl ⟨by omega, ?_⟩)
    unfold pickS
    split
    · rename_i h; exact hlow h.1
    · simp; omega
theorem KeepS.length {z t : Nat} {now B : List Int} (h : KeepS z t now B) : B.length = 2 * z := by
  obtain ⟨O, D, ho, hd, rfl⟩ := h
  have hol := ho.1
  have hdl := hd.1
  split <;> simp only [List.length_append] <;> omega
/-- what lies in the elder slot -/
theorem OldS.marks {z t : Nat} {now O : List Int} (h : OldS z t now O) (hn : now.length + 18 ≤ z) : O.take 8 = be 8 (t : Int) ∧ O.drop (z - 8) = be 8 (t : Int) := by
  obtain ⟨hl, ⟨rfl, rfl, rfl⟩ | ⟨h1, rfl⟩⟩ := h
  · have : be 8 ((0 : Nat) : Int) = List.replicate 8 0 := be_zero 8
    rw [this, List.take_replicate, List.drop_replicate]
    simp only [List.length_nil] at hn
    exact ⟨by congr 1; omega, by congr 1; omega⟩
  · exact ⟨slotB_first z t now, slotB_last z t now hn⟩
/-- a write that is there whole -/
theorem KeepS.whole {z t : Nat} {now b B : List Int} (h : KeepS z t now B) (hn : now.length + 18 ≤ z) (hb : b.length + 18 ≤ z) : KeepS z (t + 1) b (putS z ((t + 1) % 2) (slotB z (t + 1) b) z B) := by
  obtain ⟨O, D, ho, hd, rfl⟩ := h
  have hol := ho.1
  have hdl := hd.1
  have hsl := slotB_length (u := t + 1) hb
  obtain ⟨hm1, hm2⟩ := ho.marks hn
  refine ⟨slotB z (t + 1) b, O, ⟨hsl, .inr ⟨by omega, rfl⟩⟩, ⟨hol, t, .inl (by omega), .inl hm1, hm2⟩, ?_⟩
  unfold putS
  rw [List.take_of_length_le (l := slotB z (t + 1) b) (by omega)]
  by_cases hp : t % 2 = 0
  · rw [if_pos hp, if_neg (by omega), show (t + 1) % 2 = 1 by omega, Nat.one_mul, List.take_left' hol, List.drop_of_length_le (by simp only [List.length_append]; omega), List.append_nil]
  · rw [if_neg hp, if_pos (by omega), show (t + 1) % 2 = 0 by omega, Nat.zero_mul, List.take_zero, List.nil_append, Nat.zero_add, List.drop_left' hdl]
/-- a write of which a part is there -/
theorem KeepS.part {z t : Nat} {now b B : List Int} (h : KeepS z t now B) (ht : t < 255) (hb : b.length + 18 ≤ z) (c : Nat) (hc : c < z) : KeepS z t now (putS z ((t + 1) % 2) (slotB z (t + 1) b) c B) := by
  obtain ⟨O, D, ho, hd, rfl⟩ := h
  have hol := ho.1
  have hdl := hd.1
  have hsl := slotB_length (u := t + 1) hb
  obtain ⟨v, hv, hf, hq⟩ := hd.2
  have hN : NewS z t ((slotB z (t + 1) b).take c ++ D.drop c) := by
    have h8 := be8 v (by omega)
    have h9 := be8 (t + 1) (by omega)
    refine ⟨by simp only [List.length_append, List.length_take, List.length_drop]; omega, v, hv, ?_, ?_⟩
    · by_cases hc8 : 8 ≤ c
      · right
        rw [List.take_append_of_le_length (by rw [List.length_take]; omega), List.take_take, Nat.min_eq_left hc8, slotB_first]
      · have hD : (slotB z (t + 1) b).take c = D.take c := by
          have e1 : (slotB z (t + 1) b).take c = ((slotB z (t + 1) b).take 8).take c := by rw [List.take_take, Nat.min_eq_left (by omega)]
          have e2 : D.take c = (D.take 8).take c := by rw [List.take_take, Nat.min_eq_left (by omega)]
          have e3 : ∀ n : Nat, n < 256 → (be 8 (n : Int)).take c = List.replicate c 0 := fun n hn => by
            rw [be8 n hn, List.take_append_of_le_length (by rw [List.length_replicate]; omega), List.take_replicate, Nat.min_eq_left (by omega)]
          rw [e1, e2, slotB_first, e3 _ (by omega)]
          obtain h | h := hf <;> rw [h, e3 _ (by omega)]
        rw [hD, List.take_append_drop]
        exact hf
    · have hlast := slotB_last z (t + 1) b hb
      have e0 : ((slotB z (t + 1) b).take c).length = c := by rw [List.length_take]; omega
      by_cases hc8 : c ≤ z - 8
      · rw [List.drop_append, List.drop_of_length_le (by omega), List.nil_append, e0, List.drop_drop, Nat.add_sub_cancel' hc8, hq]
      · have e3 : ∀ n : Nat, n < 256 → (be 8 (n : Int)).take (c - (z - 8)) = List.replicate (c - (z - 8)) 0 := fun n hn => by
          rw [be8 n hn, List.take_append_of_le_length (by rw [List.length_replicate]; omega), List.take_replicate, Nat.min_eq_left (by omega)]
        rw [List.drop_append, List.drop_take, hlast, e3 _ (by omega), e0, Nat.sub_eq_zero_of_le (by omega : z - 8 ≤ c), List.drop_zero, ← e3 v (by omega), ← hq, show D.drop c = (D.drop (z - 8)).drop (c - (z - 8)) by rw [List.drop_drop]; congr 1; omega, List.take_append_drop]
  refine ⟨O, _, ho, hN, ?_⟩
  unfold putS
  by_cases hp : t % 2 = 0
  · rw [if_pos hp, if_pos hp, show (t + 1) % 2 = 1 by omega, Nat.one_mul, List.take_left' hol, List.drop_append, List.drop_of_length_le (by omega), List.nil_append, hol, Nat.add_sub_cancel_left]
  · rw [if_neg hp, if_neg hp, show (t + 1) % 2 = 0 by omega, Nat.zero_mul, List.take_zero, List.nil_append, Nat.zero_add, List.drop_append_of_le_length (by omega), List.append_assoc]
end Go.Proofs.Ytmpgnpkodapidaa
