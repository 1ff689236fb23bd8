/-
  Layer 12: the bytes of a disk are those of its sectors, one behind the other.
-/
import Derived.Test.YtmpgnpkodapidaaSpI
namespace Go.Proofs.Ytmpgnpkodapidaa
open Go.ChangeShapes Go.WideShapes Go.ChangeAt Go.RowKit

theorem flat_split (z i : Nat) (On : List (List Int)) (hO : ∀ t ∈ On, t.length = z) (hi : i < On.length) : On.flatten = (On.take i).flatten ++ (On.getD i [] ++ (On.drop (i + 1)).flatten) ∧ (On.take i).flatten.length = i * z ∧ (On.getD i []).length = z := by
  have hg : On.getD i [] = On[i] := by rw [List.getD_eq_getElem?_getD, List.getElem?_eq_getElem hi]; rfl
  refine ⟨?_, ?_, ?_⟩
  · rw [hg, ← List.flatten_cons, ← List.flatten_append, List.getElem_cons_drop, List.take_append_drop]
  · rw [flat_len z _ (fun t ht => hO t (List.mem_of_mem_take ht)), List.length_take, Nat.min_eq_left (by omega)]
  · rw [hg]; exact hO _ (List.getElem_mem _)
theorem set_split (i : Nat) (On : List (List Int)) (x : List Int) (hi : i < On.length) : (On.set i x).flatten = (On.take i).flatten ++ (x ++ (On.drop (i + 1)).flatten) := by
  rw [List.set_eq_take_append_cons_drop, if_pos hi, List.flatten_append, List.flatten_cons]
/-- the first bytes of a text, put on a sector -/
theorem putS_flat (z i m : Nat) (t : List Int) (On : List (List Int)) (hO : ∀ t ∈ On, t.length = z) (hi : i < On.length) (hm : m ≤ z) : putS z i t m On.flatten = (On.set i (t.take m ++ (On.getD i []).drop m)).flatten := by
  obtain ⟨h1, h2, h3⟩ := flat_split z i On hO hi
  rw [set_split i On _ hi]
  unfold putS
  have e1 : On.flatten.take (i * z) = (On.take i).flatten := by rw [h1]; exact List.take_left' h2
  have e2 : On.flatten.drop (i * z + m) = (On.getD i []).drop m ++ (On.drop (i + 1)).flatten := by
    rw [h1, ← List.drop_drop, List.drop_left' h2, List.drop_append_of_le_length (by omega)]
  rw [e1, e2, List.append_assoc]
theorem syncR_ok (z : Nat) (ws : List (Nat × List Int)) (On : List (List Int)) (hO : ∀ t ∈ On, t.length = z) (hw : ∀ x ∈ ws, x.1 < On.length ∧ x.2.length = z) : ∀ j, j ≤ ws.length → (∀ t ∈ syncR ws On j, t.length = z) ∧ syncN z ws On.flatten j = (syncR ws On j).flatten
  | 0, _ => ⟨hO, rfl⟩
  | j + 1, hj => by
    obtain ⟨h1, h2⟩ := syncR_ok z ws On hO hw j (by omega)
    have hx := hw (ws.getD j (0, [])) (by rw [List.getD_eq_getElem?_getD, List.getElem?_eq_getElem (by omega)]; exact List.getElem_mem _)
    refine ⟨fun t ht => ?_, ?_⟩
    · rw [syncR] at ht
      rcases mem_set_cases ht with h | rfl
      · exact h1 t h
      · exact hx.2
    · rw [syncN, syncR, h2, putS_flat z _ z _ _ h1 (by rw [syncR_length]; exact hx.1) (Nat.le_refl _)]
      have hl : ((syncR ws On j).getD (ws.getD j (0, [])).1 []).length = z := h1 _ (by
        rw [List.getD_eq_getElem?_getD, List.getElem?_eq_getElem (by rw [syncR_length]; exact hx.1)]; exact List.getElem_mem _)
      rw [List.take_of_length_le (by omega), List.drop_of_length_le (by omega), List.append_nil]
theorem crashR_ok (z : Nat) (ks : List Int) (ws : List (Nat × List Int)) (On : List (List Int)) (hO : ∀ t ∈ On, t.length = z) (hw : ∀ x ∈ ws, x.1 < On.length ∧ x.2.length = z) : ∀ j, j ≤ ws.length → crashN z ks ws On.flatten j = (crashR z ks ws On j).flatten
  | 0, _ => rfl
  | j + 1, hj => by
    have h2 := crashR_ok z ks ws On hO hw j (by omega)
    have h1 := crashR_small z ks ws On hO hw j (by omega)
    have hx := hw (ws.getD j (0, [])) (by rw [List.getD_eq_getElem?_getD, List.getElem?_eq_getElem (by omega)]; exact List.getElem_mem _)
    rw [crashN, crashR, h2]
    unfold keptN
    by_cases hk : j < ks.length
    · rw [if_pos hk, if_pos hk, putS_flat z _ _ _ _ h1 (by rw [crashR_length]; exact hx.1) (clampZ_le _ _)]
    · rw [if_neg hk, if_neg hk, List.take_zero, List.drop_zero, List.nil_append]
      have hi : (ws.getD j (0, [])).1 < (crashR z ks ws On j).length := by rw [crashR_length]; exact hx.1
      rw [set_split _ _ _ hi]
      exact (flat_split z _ _ h1 hi).1
theorem readR_ok (z i : Nat) (ws : List (Nat × List Int)) (On : List (List Int)) (hO : ∀ t ∈ On, t.length = z) (hi : i < On.length) : ∀ j, readN z i ws On.flatten j = readR i ws On j
  | 0 => by
    obtain ⟨h1, h2, h3⟩ := flat_split z i On hO hi
    rw [readN, readR, h1, List.drop_left' h2]
    exact List.take_left' h3
  | j + 1 => by rw [readN, readR, readR_ok z i ws On hO hi j]
theorem readR_len (z i : Nat) (ws : List (Nat × List Int)) (On : List (List Int)) (hO : ∀ t ∈ On, t.length = z) (hw : ∀ x ∈ ws, x.1 < On.length ∧ x.2.length = z) (hi : i < On.length) : ∀ j, j ≤ ws.length → (readR i ws On j).length = z
  | 0, _ => (flat_split z i On hO hi).2.2
  | j + 1, hj => by
    rw [readR]
    split
    · exact (hw (ws.getD j (0, [])) (by rw [List.getD_eq_getElem?_getD, List.getElem?_eq_getElem (by omega)]; exact List.getElem_mem _)).2
    · exact readR_len z i ws On hO hw hi j (by omega)
theorem restR_ok (z : Nat) (t : List Int) (On : List (List Int)) (hO : ∀ x ∈ On, x.length = z) (ht : t.length = On.length * z) : ∀ j, j ≤ On.length → (∀ x ∈ restR z t On j, x.length = z) ∧ (restR z t On j).flatten = t.take (j * z) ++ On.flatten.drop (j * z)
  | 0, _ => ⟨hO, by simp [restR]⟩
  | j + 1, hj => by
    obtain ⟨h1, h2⟩ := restR_ok z t On hO ht j (by omega)
    have hm : (j + 1) * z ≤ On.length * z := Nat.mul_le_mul_right z hj
    have hs : (j + 1) * z = j * z + z := Nat.succ_mul j z
    have hl : ((t.take ((j + 1) * z)).drop (j * z)).length = z := by rw [List.length_drop, List.length_take]; omega
    refine ⟨fun x hx => ?_, ?_⟩
    · rw [restR] at hx
      rcases mem_set_cases hx with h | rfl
      · exact h1 x h
      · exact hl
    · have hi : j < (restR z t On j).length := by rw [restR_length]; omega
      obtain ⟨q1, q2, q3⟩ := flat_split z j _ h1 hi
      have hfl := flat_len z On hO
      have e1 : ((restR z t On j).take j).flatten = t.take (j * z) := by
        have := congrArg (List.take (j * z)) (q1.symm.trans h2)
        rwa [List.take_left' q2, List.take_left' (by rw [List.length_take]; omega)] at this
      have e2 : ((restR z t On j).drop (j + 1)).flatten = On.flatten.drop (j * z + z) := by
        have hL : ((restR z t On j).take j).flatten ++ ((restR z t On j).getD j [] ++ ((restR z t On j).drop (j + 1)).flatten) = t.take (j * z) ++ On.flatten.drop (j * z) := q1.symm.trans h2
        have hL2 := congrArg (fun l => (l.drop (j * z)).drop z) hL
        rw [List.drop_left' q2, List.drop_left' q3, List.drop_left' (by rw [List.length_take]; omega), List.drop_drop] at hL2
        exact hL2
      rw [restR, set_split _ _ _ hi, e1, e2, hs, ← List.append_assoc]
      congr 1
      rw [List.take_add, List.drop_left' (by rw [List.length_take]; omega)]
end Go.Proofs.Ytmpgnpkodapidaa
