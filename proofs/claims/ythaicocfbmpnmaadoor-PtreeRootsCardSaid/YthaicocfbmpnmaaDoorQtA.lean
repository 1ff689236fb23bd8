/-
  Layer 17: indices as numbers; the node of a level above entries.
-/
import Derived.Test.YthaicocfbmpnmaaDoorPtG
namespace Go.Proofs.YthaicocfbmpnmaaDoor
open Go.ChangeShapes Go.WideShapes Go.ChangeAt Go.RowKit

/-- A text of bytes as a number, the first byte the highest one. -/
def numL (d : List Int) : Nat := d.foldl (fun a x => a * 256 + x.toNat) 0
theorem numL_snoc (d : List Int) (x : Int) : numL (d ++ [x]) = numL d * 256 + x.toNat := by simp [numL]
theorem numL_nil : numL [] = 0 := rfl
/-- Its bytes, from the last one on. -/
theorem numL_byte : ∀ (i : Nat) (d : List Int), (∀ x ∈ d, 0 ≤ x ∧ x < 256) → i < d.length → numL d / 256 ^ i % 256 = (d.getD (d.length - 1 - i) 0).toNat := by
  intro i
  induction i with
  | zero =>
    intro d hd hi
    rcases List.eq_nil_or_concat d with rfl | ⟨l, a, rfl⟩
    · simp at hi
    · rw [List.concat_eq_append] at hd ⊢
      have := hd a (by simp)
      rw [numL_snoc, Nat.pow_zero, Nat.div_one, List.getD_eq_getElem?_getD, List.length_append, List.length_singleton, show l.length + 1 - 1 - 0 = l.length by omega, List.getElem?_append_right (Nat.le_refl _), Nat.sub_self]
      simp
      omega
  | succ i ih =>
    intro d hd hi
    rcases List.eq_nil_or_concat d with rfl | ⟨l, a, rfl⟩
    · simp at hi
    · rw [List.concat_eq_append] at hd hi ⊢
      have ha := hd a (by simp)
      rw [List.length_append, List.length_singleton] at hi
      have h1 := ih l (fun x hx => hd x (by simp [hx])) (by omega)
      rw [numL_snoc, Nat.pow_succ, Nat.mul_comm (256 ^ i) 256, ← Nat.div_div_eq_div_mul, show (numL l * 256 + a.toNat) / 256 = numL l by omega, h1, List.getD_eq_getElem?_getD, List.getD_eq_getElem?_getD, List.length_append, List.length_singleton, show l.length + 1 - 1 - (i + 1) = l.length - 1 - i by omega, List.getElem?_append_left (by omega)]
theorem numL_lt : ∀ (d : List Int), (∀ x ∈ d, 0 ≤ x ∧ x < 256) → numL d < 256 ^ d.length := by
  intro d
  generalize hn : d.length = n
  induction n generalizing d with
  | zero => intro _; rw [List.eq_nil_of_length_eq_zero hn]; simp [numL]
  | succ n ih =>
    intro hd
    rcases List.eq_nil_or_concat d with rfl | ⟨l, a, rfl⟩
    · simp at hn
    · rw [List.concat_eq_append] at hd hn ⊢
      have ha := hd a (by simp)
      rw [List.length_append, List.length_singleton] at hn
      have h1 := ih l (by omega) (fun x hx => hd x (by simp [hx]))
      rw [numL_snoc, Nat.pow_succ]
      omega
/-- A bit of a byte of a number is a bit of the number. -/
theorem byte_bit (m r : Nat) (hr : r < 8) : m % 256 / 2 ^ r % 2 = m / 2 ^ r % 2 := by
  rcases (show r = 0 ∨ r = 1 ∨ r = 2 ∨ r = 3 ∨ r = 4 ∨ r = 5 ∨ r = 6 ∨ r = 7 by omega) with e | e | e | e | e | e | e | e <;> subst e <;> simp only [Nat.reducePow] <;> omega
theorem bit_num {d : List Int} (h : Dg d) {k : Nat} (hk : k < 256) : bitL d k = ((numL d / 2 ^ k % 2 : Nat) : Int) := by
  have h1 := numL_byte (k / 8) d h.small (by rw [h.len]; omega)
  rw [h.len] at h1
  have h0 := dg_at h (31 - k / 8)
  have h2 := byte_bit (numL d / 256 ^ (k / 8)) (k % 8) (by omega)
  rw [h1, Nat.div_div_eq_div_mul, show 256 ^ (k / 8) * 2 ^ (k % 8) = 2 ^ k by rw [show (256 : Nat) = 2 ^ 8 from rfl, ← Nat.pow_mul, ← Nat.pow_add]; congr 1; omega] at h2
  rw [← h2]
  unfold bitL
  rw [show 32 - 1 - k / 8 = 31 - k / 8 by omega]
  generalize d.getD (31 - k / 8) 0 = x at *
  obtain ⟨n, rfl⟩ := Int.eq_ofNat_of_zero_le h0.1
  simp
/-- Digests with the same number are the same. -/
theorem num_inj {a b : List Int} (ha : Dg a) (hb : Dg b) (h : numL a = numL b) : a = b := by
  apply List.ext_getElem (by rw [ha.len, hb.len])
  intro i h1 h2
  have e1 := numL_byte (31 - i) a ha.small (by rw [ha.len]; omega)
  have e2 := numL_byte (31 - i) b hb.small (by rw [hb.len]; omega)
  have hl := ha.len
  rw [h, e2, ha.len, hb.len, show 32 - 1 - (31 - i) = i by omega, List.getD_eq_getElem?_getD, List.getD_eq_getElem?_getD, List.getElem?_eq_getElem h1, List.getElem?_eq_getElem h2] at e1
  have p1 := ha.small _ (List.getElem_mem h1)
  have p2 := hb.small _ (List.getElem_mem h2)
  simp only [Option.getD_some] at e1
  omega
theorem num_small {d : List Int} (h : Dg d) : numL d < 2 ^ 256 := by
  have := numL_lt d h.small
  rw [h.len] at this
  exact this
/-- An entry: its index and its commitment. -/
abbrev EntT := List Int × List Int
/-- It lies below the right one of two nodes of a level. -/
def rightB (k : Nat) (x : EntT) : Bool := decide (bitL x.1 k = 1)
/-- The node of a level above all these entries. -/
def nodeT : Nat → List EntT → List Int
  | 0, [] => emptyL 0
  | 0, x :: _ => leafE x.1 x.2
  | k + 1, es => nodeL (nodeT k (es.filter fun x => !rightB k x)) (nodeT k (es.filter (rightB k)))
theorem nodeT_nil (k : Nat) : nodeT k [] = emptyL k := by
  induction k with
  | zero => rfl
  | succ k ih => rw [nodeT, List.filter_nil, List.filter_nil, ih]; rfl
/-- No two entries are alike in all the bits below a level. -/
def ApartT (k : Nat) (es : List EntT) : Prop := es.Pairwise fun x y => ∃ j, j < k ∧ rightB j x ≠ rightB j y
theorem ApartT.zero {es : List EntT} (h : ApartT 0 es) : es.length ≤ 1 := by
  rcases es with _ | ⟨a, _ | ⟨b, l⟩⟩
  · simp
  · simp
  · exfalso
    have := (List.pairwise_cons.1 h).1 b (by simp)
    obtain ⟨j, hj, _⟩ := this
    omega
theorem ApartT.part {k : Nat} {es : List EntT} (h : ApartT (k + 1) es) (v : Bool) : ApartT k (es.filter fun x => rightB k x == v) := by
  unfold ApartT at *
  refine (List.Pairwise.filter _ h).imp_of_mem ?_
  intro x y hx hy ⟨j, hj, hne⟩
  have hx := (List.mem_filter.1 hx).2
  have hy := (List.mem_filter.1 hy).2
  rw [beq_iff_eq] at hx hy
  refine ⟨j, ?_, hne⟩
  rcases Nat.lt_succ_iff_lt_or_eq.1 hj with h | rfl
  · exact h
  · exact absurd (hx.trans hy.symm) hne
theorem filter_yes (k : Nat) (es : List EntT) : (es.filter fun x => rightB k x == true) = es.filter (rightB k) := by
  congr 1; funext x; cases rightB k x <;> rfl
theorem filter_no (k : Nat) (es : List EntT) : (es.filter fun x => rightB k x == false) = es.filter fun x => !rightB k x := by
  congr 1; funext x; cases rightB k x <;> rfl
theorem ApartT.yes {k : Nat} {es : List EntT} (h : ApartT (k + 1) es) : ApartT k (es.filter (rightB k)) := filter_yes k es ▸ h.part true
theorem ApartT.no {k : Nat} {es : List EntT} (h : ApartT (k + 1) es) : ApartT k (es.filter fun x => !rightB k x) := filter_no k es ▸ h.part false
theorem ApartT.perm {k : Nat} {es fs : List EntT} (h : ApartT k es) (p : es.Perm fs) : ApartT k fs :=
  p.pairwise h (fun ⟨j, hj, hne⟩ => ⟨j, hj, hne.symm⟩)
/-- The order of the entries makes no difference. -/
theorem nodeT_perm : ∀ (k : Nat) {es fs : List EntT}, ApartT k es → es.Perm fs → nodeT k es = nodeT k fs
  | 0, es, fs, h, p => by
    have h1 := h.zero
    have h2 := p.length_eq
    rcases es with _ | ⟨a, _ | ⟨b, l⟩⟩
    · rw [List.eq_nil_of_length_eq_zero (show fs.length = 0 by simpa using h2.symm)]
    · rcases fs with _ | ⟨c, _ | ⟨e, l⟩⟩
      · simp at h2
      · rw [List.singleton_perm_singleton.1 p]
      · simp at h2
    · simp at h1
  | k + 1, es, fs, h, p => by
    rw [nodeT, nodeT, nodeT_perm k h.no (p.filter _), nodeT_perm k h.yes (p.filter _)]
/-- At each level those on the left side come first. -/
def SplitT : Nat → List EntT → Prop
  | 0, _ => True
  | k + 1, es => es = (es.filter fun x => !rightB k x) ++ es.filter (rightB k) ∧ SplitT k (es.filter fun x => !rightB k x) ∧ SplitT k (es.filter (rightB k))
/-- Those without a mark, then those with it. -/
theorem split_of {p : EntT → Bool} : ∀ {es : List EntT}, es.Pairwise (fun x y => p x = true → p y = true) → es = (es.filter fun x => !p x) ++ es.filter p
  | [], _ => rfl
  | x :: l, h => by
    obtain ⟨h1, h2⟩ := List.pairwise_cons.1 h
    have ih := split_of h2
    cases hx : p x with
    | false =>
      rw [List.filter_cons_of_pos (by simp [hx]), List.filter_cons_of_neg (by simp [hx]), List.cons_append, ← ih]
    | true =>
      have ha : ∀ y ∈ l, p y = true := fun y hy => h1 y hy hx
      rw [List.filter_cons_of_neg (by simp [hx]), List.filter_cons_of_pos hx, List.filter_eq_nil_iff.2 (fun y hy => by simp [ha y hy]), List.filter_eq_self.2 ha]
      rfl
theorem split_sorted : ∀ (k : Nat) {es : List EntT}, k ≤ 256 → (∀ x ∈ es, Dg x.1) → es.Pairwise (fun x y => numL x.1 ≤ numL y.1) → es.Pairwise (fun x y => numL x.1 / 2 ^ k = numL y.1 / 2 ^ k) → SplitT k es
  | 0, _, _, _, _, _ => trivial
  | k + 1, es, hk, hd, hs, hq => by
    have hb : ∀ x ∈ es, rightB k x = decide (numL x.1 / 2 ^ k % 2 = 1) := fun x hx => by
      unfold rightB
      rw [bit_num (hd x hx) (by omega)]
      congr 1
      exact propext ⟨fun h => by omega, fun h => by omega⟩
    have hp : 0 < 2 ^ k := Nat.pow_pos (by omega)
    have hdiv : ∀ m : Nat, m / 2 ^ (k + 1) = m / 2 ^ k / 2 := fun m => by rw [Nat.pow_succ, Nat.div_div_eq_div_mul]
    have hsq := List.pairwise_and_iff.2 ⟨hs, hq⟩
    have part : ∀ p : EntT → Bool, (∀ x ∈ es, ∀ y ∈ es, p x = true → p y = true → rightB k x = rightB k y) → SplitT k (es.filter p) := fun p hpp => by
      refine split_sorted k (by omega) (fun x hx => hd x (List.mem_filter.1 hx).1) (List.Pairwise.filter _ hs) ?_
      refine (List.Pairwise.filter _ hq).imp_of_mem ?_
      intro x y hx hy he
      obtain ⟨mx, px⟩ := List.mem_filter.1 hx
      obtain ⟨my, py⟩ := List.mem_filter.1 hy
      have h1 := hpp x mx y my px py
      rw [hb x mx, hb y my] at h1
      have h2 : (numL x.1 / 2 ^ k % 2 = 1 ↔ numL y.1 / 2 ^ k % 2 = 1) := by simpa using h1
      rw [hdiv, hdiv] at he
      omega
    refine ⟨split_of ?_, part _ ?_, part _ ?_⟩
    · refine hsq.imp_of_mem ?_
      intro x y hx hy ⟨h1, h2⟩ hr
      rw [hb x hx] at hr
      rw [hb y hy]
      have h3 := Nat.div_le_div_right (c := 2 ^ k) h1
      rw [hdiv, hdiv] at h2
      have hr : numL x.1 / 2 ^ k % 2 = 1 := of_decide_eq_true hr
      exact decide_eq_true (by omega)
    · intro x _ y _ h1 h2
      rw [Bool.not_eq_true'] at h1 h2
      rw [h1, h2]
    · intro x _ y _ h1 h2
      rw [h1, h2]
/-- What is in order may be halved. -/
theorem split_all {es : List EntT} (hd : ∀ x ∈ es, Dg x.1) (hs : es.Pairwise (fun x y => numL x.1 ≤ numL y.1)) : SplitT 256 es :=
  split_sorted 256 (Nat.le_refl _) hd hs (List.pairwise_of_forall_mem_list fun x hx y hy => by
    rw [Nat.div_eq_of_lt (num_small (hd x hx)), Nat.div_eq_of_lt (num_small (hd y hy))])
/-- Unlike indices are apart. -/
theorem apart_of {es : List EntT} (hd : ∀ x ∈ es, Dg x.1) (hn : es.Pairwise (fun x y => x.1 ≠ y.1)) : ApartT 256 es := by
  refine hn.imp_of_mem ?_
  intro x y hx hy hne
  refine Classical.byContradiction fun hc => hne (num_inj (hd x hx) (hd y hy) ?_)
  apply Nat.eq_of_testBit_eq
  intro i
  by_cases hi : i < 256
  · have h1 : rightB i x = rightB i y := Classical.byContradiction fun h => hc ⟨i, hi, h⟩
    unfold rightB at h1
    rw [bit_num (hd x hx) hi, bit_num (hd y hy) hi] at h1
    have h2 : (numL x.1 / 2 ^ i % 2 = 1 ↔ numL y.1 / 2 ^ i % 2 = 1) := by
      have := decide_eq_decide.1 h1
      constructor <;> intro h <;> omega
    rw [Nat.testBit_eq_decide_div_mod_eq, Nat.testBit_eq_decide_div_mod_eq]
    exact decide_eq_decide.2 h2
  · have hp : 2 ^ 256 ≤ 2 ^ i := Nat.pow_le_pow_right (by omega) (by omega)
    rw [Nat.testBit_lt_two_pow (Nat.lt_of_lt_of_le (num_small (hd x hx)) hp), Nat.testBit_lt_two_pow (Nat.lt_of_lt_of_le (num_small (hd y hy)) hp)]
end Go.Proofs.YthaicocfbmpnmaaDoor
