/-
  Rows and their splits: plain facts.
-/
import Derived.Test.YtkiaeepdpmcafaaRefSplit
namespace Go.Proofs.Ytkiaeepdpmcafaa
open Go.RowKit

theorem numOf_be2 (n : Nat) (h : n ≤ 65535) : numOf (be 2 n) = n := by
  rw [numOf_be, show (256 : Int) ^ 2 = 65536 by decide]
  omega

theorem rowB_cons (t : List Int) (ts : List (List Int)) : rowB (t :: ts) = be 2 t.length ++ t ++ rowB ts := by simp [rowB]
theorem rowB_append (a b : List (List Int)) : rowB (a ++ b) = rowB a ++ rowB b := by simp [rowB]
theorem rowB_one (t : List Int) : rowB [t] = be 2 t.length ++ t := by simp [rowB]

theorem splitK_row (ts : List (List Int)) (hts : ∀ t ∈ ts, t.length ≤ 65535) : ∀ k, k ≤ ts.length → splitK (rowB ts) k = some (ts.take k, rowB (ts.drop k))
  | 0, _ => by simp [splitK]
  | k + 1, hk => by
    have ih := splitK_row ts hts k (by omega)
    unfold splitK
    rw [ih]
    simp only
    have hd : ts.drop k = ts[k] :: ts.drop (k + 1) := List.drop_eq_getElem_cons (by omega)
    have htk : ts[k].length ≤ 65535 := hts _ (List.getElem_mem _)
    have e1 : rowB (ts.drop k) = be 2 ts[k].length ++ (ts[k] ++ rowB (ts.drop (k + 1))) := by rw [hd, rowB_cons, List.append_assoc]
    have h2 : (be 2 (ts[k].length : Int)).length = 2 := be_length _ _
    have e2 : (rowB (ts.drop k)).take 2 = be 2 ts[k].length := by rw [e1]; exact List.take_left' h2
    have e3 : (rowB (ts.drop k)).drop 2 = ts[k] ++ rowB (ts.drop (k + 1)) := by rw [e1]; exact List.drop_left' h2
    have e4 : (rowB (ts.drop k)).length = 2 + ts[k].length + (rowB (ts.drop (k + 1))).length := by rw [e1]; simp [h2]; omega
    rw [e2, numOf_be2 _ htk, e3, e4, if_neg (by omega), if_neg (by omega)]
    simp only [Int.toNat_natCast, List.take_left', List.drop_left']
    rw [List.take_succ_eq_append_getElem (by omega)]

theorem splitB_row (ts : List (List Int)) (hn : ts.length ≤ 65535) (hts : ∀ t ∈ ts, t.length ≤ 65535) : splitB (be 2 ts.length ++ rowB ts) = some ts := by
  have h2 : (be 2 (ts.length : Int)).length = 2 := be_length _ _
  unfold splitB
  rw [if_neg (by simp [h2]), List.take_left' h2, List.drop_left' h2, numOf_be2 _ hn, Int.toNat_natCast, splitK_row ts hts _ (Nat.le_refl _), splitEnd_some]
  simp [rowB]

theorem be_two_take (bs : List Int) (hb : ∀ x ∈ bs, 0 ≤ x ∧ x < 256) (h : 2 ≤ bs.length) : be 2 (numOf (bs.take 2)) = bs.take 2 := by
  match bs, h with
  | x :: y :: r, _ =>
    have hx := hb x (by simp)
    have hy := hb y (by simp)
    simp only [List.take_succ_cons, List.take_zero, numOf, List.foldl, be]
    have e1 : (256 * (256 * 0 + x) + y) / 256 = x := by omega
    have e2 : (256 * (256 * 0 + x) + y) % 256 = y := by omega
    rw [e1, e2]
    have e3 : x % 256 = x := by omega
    simp [e3]

theorem splitK_back (rs : List Int) (hb : ∀ x ∈ rs, 0 ≤ x ∧ x < 256) : ∀ (k : Nat) (l : List (List Int)) (r : List Int), splitK rs k = some (l, r) → rowB l ++ r = rs ∧ ∀ t ∈ l, t.length ≤ 65535
  | 0, l, r, h => by simp [splitK] at h; obtain ⟨rfl, rfl⟩ := h; simp [rowB]
  | k + 1, l, r, h => by
    unfold splitK at h
    cases hk : splitK rs k with
    | none => rw [hk] at h; cases h
    | some p =>
      obtain ⟨l', r'⟩ := p
      rw [hk] at h
      obtain ⟨h1, h2⟩ := splitK_back rs hb k l' r' hk
      have hbr : ∀ x ∈ r', 0 ≤ x ∧ x < 256 := fun x hx => hb x (by rw [← h1]; simp [hx])
      simp only at h
      split at h
      · cases h
      · rename_i hge
        split at h
        · cases h
        · rename_i hge2
          have hn := numOf_two r' hbr
          have hbe := be_two_take r' hbr (by omega)
          injection h with h
          injection h with h3 h4
          subst h3 h4
          generalize numOf (r'.take 2) = n at *
          obtain ⟨n, rfl⟩ := Int.eq_ofNat_of_zero_le hn.1
          have hl : ((r'.drop 2).take (n : Int).toNat).length = n := by simp; omega
          refine ⟨?_, fun t ht => ?_⟩
          · rw [rowB_append, rowB_one, hl, hbe, ← h1]
            simp only [List.append_assoc, List.take_append_drop]
          · rw [List.mem_append] at ht
            rcases ht with ht | ht
            · exact h2 t ht
            · simp only [List.mem_singleton] at ht
              rw [ht, hl]; omega

theorem splitB_back (bs : List Int) (hb : ∀ x ∈ bs, 0 ≤ x ∧ x < 256) (l : List (List Int)) (h : splitB bs = some l) : be 2 l.length ++ rowB l = bs ∧ l.length ≤ 65535 ∧ ∀ t ∈ l, t.length ≤ 65535 := by
  unfold splitB at h
  split at h
  · cases h
  · rename_i hge
    have hn := numOf_two bs hb
    cases hk : splitK (bs.drop 2) (numOf (bs.take 2)).toNat with
    | none => rw [hk] at h; cases h
    | some p =>
      obtain ⟨l', r'⟩ := p
      rw [hk, splitEnd_some] at h
      split at h
      · rename_i hr
        injection h with h
        subst h hr
        obtain ⟨h1, h2⟩ := splitK_back _ (fun x hx => hb x (List.mem_of_mem_drop hx)) _ _ _ hk
        have h3 := (splitK_len _ _ _ _ hk).1
        rw [List.append_nil] at h1
        refine ⟨?_, by omega, h2⟩
        rw [h1, h3, show (((numOf (bs.take 2)).toNat : Nat) : Int) = numOf (bs.take 2) by omega, be_two_take bs hb (by omega), List.take_append_drop]
      · cases h
end Go.Proofs.Ytkiaeepdpmcafaa
