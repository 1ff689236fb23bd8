/-
  Two slices of bytes that are collected side by side.
-/
import Derived.Maps.AppendAt
import Derived.Test.YtkiaeepdpmcafaaDoorOwn
namespace Go.Proofs.YtkiaeepdpmcafaaDoor
open Go.RowKit

theorem OwnB.grown {w w' : World} {base : Nat} {e : TypeId} {v : Value} {bs : List Int} {row : Option Nat} (h : OwnB w base e v bs) (hg : w.grownBy w' row) (hr : ∀ k, v.ownBlock = some k → row ≠ some k) : OwnB w' base e v bs := by
  obtain ⟨⟨h1, h2⟩, h3⟩ := h
  refine ⟨⟨h1, h2.imp id ?_⟩, h3⟩
  rintro ⟨g, cap, cur, rfl, hb, hh, hle, hmx, hsz, htk⟩
  refine ⟨g, cap, cur, rfl, hb, ?_, hle, hmx, hsz, htk⟩
  rw [hg.block g (Array.getElem?_eq_some_iff.1 hh).1 (fun e => hr g rfl e.symm)]
  exact hh

section
variable {P : Program} {w : World} {base : Nat} {t e : TypeId} {i : TypeInfo} {v : Value} {bs : List Int}
theorem wpList_append_text_at {ops : Array Oper} {rest : List Oper} {o : Oper} {A : Act} {Q : Exit → Act → World → Prop} (hgd : o.guard = none) (s x : Operand) (ho : o.op = .call { callee := .builtin .append, args := #[s, x], argTypes := #[t, t] })
    (ht : P.underlying t = some (.slice e)) (hi : P.info? e = some i) (hz : i.zero = some (.int .u8 0)) (hsize : i.size = 1) (hby : i.bytes = 1) (hs : A.eval s = v) (hown : OwnB w base e v bs)
    {a : Option Addr} {len cap : Nat} {xs : List Int} (hx : A.eval x = .slice a len cap) (hT : TextAt w a len cap xs) (hb : bs.length + len ≤ 140737488355328) (hbase : base ≤ w.heap.size)
    (h : ∀ v' w', OwnB w' base e v' (bs ++ xs) → w.grownBy w' v.ownBlock → Below base w w' → (v'.ownBlock = v.ownBlock ∨ v'.ownBlock = some w.heap.size) → wpList P ops Q rest (A.put o.dst v') w') : wpList P ops Q (o :: rest) A w := by
  have hl := hT.length
  have hsm : ∀ x ∈ bs ++ xs, 0 ≤ x ∧ x < 256 := fun x hx => by
    rw [List.mem_append] at hx
    exact hx.elim (hown.small x) (hT.small x)
  have hbel : ∀ {w' : World}, w.grownBy w' v.ownBlock → Below base w w' := fun hg => ⟨hg.os, hg.tape, hg.output, hg.size, fun k hk => hg.block k (by omega) (fun e => by have := (hown.lt k e.symm).1; omega)⟩
  refine wpList_plain hgd fun K hK => ?_
  rcases hT.mem with ⟨rfl, rfl, rfl⟩ | ⟨x', o', s', rfl, hc⟩
  · have hx0 := hT.empty rfl
    subst hx0
    have hg : w.grownBy w v.ownBlock := ⟨rfl, rfl, rfl, Nat.le_refl _, fun _ _ _ => rfl⟩
    have hr := run_append_owned_none w base t o.type e i 1 ht hi v _ _ hown.row
    unfold Oper.wp execOp
    simp only [ho, resolve, invoke, builtin, Sem.run_bind, Sem.run_pure, Result.andThen_ok, List.map_toArray, List.map_cons, List.map_nil, hs, hx, hr, Oper.upon_value]
    exact hK _ _ (h v w (by simpa using hown) hg (hbel hg) (.inl rfl))
  · obtain ⟨v', w', hr, h2, h3, _, h5⟩ := run_append_own_at w base t o.type e i (.int .u8 0) 1 1 ht hi hz hsize hby rfl (by decide) v _ _ hown.row ⟨x', o', s'⟩ len cap (xs.map (Value.int .u8)) (by simp [hl]) hT.news
      (fun u hu => by simp only [List.mem_map] at hu; obtain ⟨y, _, rfl⟩ := hu; rfl) (by unfold maxLen; omega) (by omega) hbase
    unfold Oper.wp execOp
    simp only [ho, resolve, invoke, builtin, Sem.run_bind, Sem.run_pure, Result.andThen_ok, List.map_toArray, List.map_cons, List.map_nil, hs, hx, hr, Oper.upon_value]
    exact hK _ _ (h v' w' ⟨by rw [List.length_append, hl, List.map_append]; exact h2, hsm⟩ h3 (hbel h3) h5)
end
end Go.Proofs.YtkiaeepdpmcafaaDoor
