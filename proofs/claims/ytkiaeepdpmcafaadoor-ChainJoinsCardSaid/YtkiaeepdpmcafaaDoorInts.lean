/-
  Arrays of integers: equality.
-/
import Derived.Test.YtkiaeepdpmcafaaDoorBase
import Derived.ChangeKeysEq
namespace Go.Proofs.YtkiaeepdpmcafaaDoor
open Go.RowKit

/-- An array of integers, as a value. -/
def ints (k : IntKind) (xs : List Int) : Value := .agg (xs.map (Value.int k)).toArray

section
variable {P : Program} {t e : TypeId} {n : Nat} {k : IntKind} {i : TypeInfo}

theorem run_part_ints (he : P.underlying e = some (.int k)) (xs : List Int) (j : Nat) (hj : j < xs.length) (w : World) : (part e (xs.map (Value.int k)).toArray j).run P w = .ok (.int k xs[j]) w :=
  run_part_plain w (by simp [Program.plainKey, he]) (by simp [hj])

theorem run_eqItems_ints (d : Nat) (he : P.underlying e = some (.int k)) (hc : P.cellsOf e = 1) (xs ys : List Int) (hl : xs.length = ys.length) (w : World) : ∀ (is : List Nat), (∀ j ∈ is, j < xs.length) →
    (Op.eqItems (d + 1) e (P.cellsOf e) (xs.map (Value.int k)).toArray (ys.map (Value.int k)).toArray is).run P w = .ok (decide (∀ j ∈ is, xs[j]? = ys[j]?)) w
  | [], _ => by simp [Op.eqItems]
  | j :: is, h => by
    have hj := h j (by simp)
    have hj' : j < ys.length := by omega
    have ih := run_eqItems_ints d he hc xs ys hl w is (fun q hq => h q (by simp [hq]))
    rw [hc] at ih ⊢
    simp only [Op.eqItems, Nat.mul_one, Sem.run_bind, run_part_ints he xs j hj, run_part_ints he ys j hj', Result.andThen_ok, run_equalIn_int w d e k k _ _ he]
    by_cases hq : xs[j] = ys[j]
    · simp only [hq, beq_self_eq_true, Bool.not_true, Bool.false_eq_true, if_false, ih, Result.ok.injEq, and_true, decide_eq_decide]
      simp [hj, hj', hq]
    · have : (xs[j] == ys[j]) = false := by simpa using hq
      simp [this, hj, hj', hq]

/-- '==' of two arrays of integers. -/
theorem run_eql_ints (hu : P.underlying t = some (.array n e)) (he : P.underlying e = some (.int k)) (hi : P.info? e = some i) (hc : P.cellsOf e = 1) (xs ys : List Int) (hx : xs.length = n) (hy : ys.length = n) (w : World) :
    (binOp .eql t (ints k xs) (ints k ys)).run P w = .ok (.bool (decide (xs = ys))) w := by
  unfold ints
  rw [run_eql_struct, run_equalIn_array w 9999 _ _ hu hi, run_eqItems_ints 9998 he hc xs ys (by omega) w _ (by simp; omega)]
  simp only [Result.andThen_ok, Result.ok.injEq, Value.bool.injEq, and_true, decide_eq_decide, List.mem_range]
  constructor
  · intro h
    apply List.ext_getElem?
    intro j
    rcases Nat.lt_or_ge j n with hj | hj
    · exact h j hj
    · rw [List.getElem?_eq_none (by omega), List.getElem?_eq_none (by omega)]
  · rintro rfl _ _; rfl

/-- '!=' of two arrays of integers. -/
theorem run_neq_ints (hu : P.underlying t = some (.array n e)) (he : P.underlying e = some (.int k)) (hi : P.info? e = some i) (hc : P.cellsOf e = 1) (xs ys : List Int) (hx : xs.length = n) (hy : ys.length = n) (w : World) :
    (binOp .neq t (ints k xs) (ints k ys)).run P w = .ok (.bool (!decide (xs = ys))) w := by
  have h := run_eql_ints (t := t) hu he hi hc xs ys hx hy w
  unfold ints at *
  rw [run_eql_struct] at h
  rw [run_neq_struct]
  generalize (Op.equalIn 10000 t (.agg (xs.map (Value.int k)).toArray) (.agg (ys.map (Value.int k)).toArray)).run P w = r at *
  cases r with
  | ok b w' => simp at h ⊢; obtain ⟨rfl, rfl⟩ := h; simp
  | halt x w' => simp [Result.andThen] at h
end
end Go.Proofs.YtkiaeepdpmcafaaDoor
