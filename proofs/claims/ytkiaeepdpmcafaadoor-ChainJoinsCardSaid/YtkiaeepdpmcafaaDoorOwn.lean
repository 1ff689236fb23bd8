/-
  Bytes that the call itself collects: 'b = append(b, x...)'.
-/
import Derived.OwnWalk
import Derived.Test.YtkiaeepdpmcafaaDoorText
namespace Go.Proofs.YtkiaeepdpmcafaaDoor
open Go.RowKit

/-- A slice of the call's own holds these bytes. -/
structure OwnB (w : World) (base : Nat) (e : TypeId) (v : Value) (bs : List Int) : Prop where
  row : w.ownsRow base e 1 v bs.length (bs.map (Value.int .u8))
  small : ∀ x ∈ bs, 0 ≤ x ∧ x < 256

theorem OwnB.nil (w : World) (base : Nat) (e : TypeId) : OwnB w base e (.slice none 0 0) [] := ⟨World.ownsRow_nil w base e 1, by simp⟩
theorem OwnB.below {w w' : World} {base : Nat} {e : TypeId} {v : Value} {bs : List Int} (h : OwnB w base e v bs) (hb : Below w.heap.size w w') : OwnB w' base e v bs := ⟨owns_below h.row hb, h.small⟩
theorem OwnB.of_blk {w : World} {base g n : Nat} {e : TypeId} {bs : List Int} (h : Blk w g (bs.map (Value.int .u8)).toArray e) (hg : base ≤ g) (hn : bs.length = n) (hm : n ≤ 9223372036854775807) (hs : ∀ x ∈ bs, 0 ≤ x ∧ x < 256) : OwnB w base e (.slice (some ⟨g, 0, none⟩) n n) bs := by
  subst hn
  exact ⟨⟨by simp, .inr ⟨g, _, _, rfl, hg, h, Nat.le_refl _, by unfold maxLen; omega, by simp, by simp; exact List.take_of_length_le (by simp)⟩⟩, hs⟩
theorem OwnB.lt {w : World} {base : Nat} {e : TypeId} {v : Value} {bs : List Int} (h : OwnB w base e v bs) : ∀ k, v.ownBlock = some k → base ≤ k ∧ k < w.heap.size := h.row.lt
theorem OwnB.re {w : World} {base base' : Nat} {e : TypeId} {v : Value} {bs : List Int} (h : OwnB w base e v bs) (hb : base' ≤ base) : OwnB w base' e v bs := by
  obtain ⟨⟨h1, h2⟩, h3⟩ := h
  refine ⟨⟨h1, h2.imp id ?_⟩, h3⟩
  rintro ⟨g, cap, cur, rfl, hg, hh⟩
  exact ⟨g, cap, cur, rfl, Nat.le_trans hb hg, hh⟩

/-- It is a text. -/
theorem OwnB.text {w : World} {base : Nat} {e : TypeId} {v : Value} {bs : List Int} (h : OwnB w base e v bs) : ∃ a cap, v = .slice a bs.length cap ∧ TextAt w a bs.length cap bs ∧ (a = none ∨ ∃ g, a = some ⟨g, 0, none⟩ ∧ base ≤ g) := by
  obtain ⟨⟨h1, ⟨rfl, h2⟩ | ⟨g, cap, cur, rfl, hg, hh, hle, hmx, hsz, htk⟩⟩, h3⟩ := h
  · obtain rfl := List.eq_nil_of_length_eq_zero h2
    exact ⟨none, 0, rfl, TextAt.nil, .inl rfl⟩
  · refine ⟨some ⟨g, 0, none⟩, cap, rfl, TextAt.of_blk (cs := cur) (T := e) hh rfl hle (by unfold maxLen at hmx; omega) h3 fun j hj => ?_, .inr ⟨g, rfl, hg⟩⟩
    have h1 : (List.map (Value.int .u8) bs)[j]? = some (.int .u8 (bs.getD j 0)) := by simp [hj]
    rw [← htk, List.getElem?_take, if_pos (by omega)] at h1
    simpa using h1
theorem OwnB.row8 {w : World} {base : Nat} {e : TypeId} {v : Value} {bs : List Int} (h : OwnB w base e v bs) (h0 : bs ≠ []) : ∃ g cap, v = .slice (some ⟨g, 0, none⟩) bs.length cap ∧ base ≤ g ∧ bs.length ≤ cap ∧ cap ≤ 9223372036854775807 ∧ Row8 w g bs := by
  obtain ⟨⟨h1, ⟨rfl, h2⟩ | ⟨g, cap, cur, rfl, hg, hh, hle, hmx, hsz, htk⟩⟩, h3⟩ := h
  · exact absurd (List.eq_nil_of_length_eq_zero h2) h0
  · refine ⟨g, cap, rfl, hg, hle, by unfold maxLen at hmx; omega, cur, e, hh, fun j hj => ?_⟩
    have h1 : (List.map (Value.int .u8) bs)[j]? = some (.int .u8 (bs.getD j 0)) := by simp [hj]
    rw [← htk, List.getElem?_take, if_pos (by omega)] at h1
    simpa using h1

section
variable {P : Program} {w : World} {base : Nat} {t e : TypeId} {i : TypeInfo} {v : Value} {bs : List Int}
theorem run_append_text (ty : TypeId) (ht : P.underlying t = some (.slice e)) (hi : P.info? e = some i) (hz : i.zero = some (.int .u8 0)) (hsize : i.size = 1) (hby : i.bytes = 1) (hown : OwnB w base e v bs)
    {a : Option Addr} {len cap : Nat} {xs : List Int} (hT : TextAt w a len cap xs) (hb : bs.length + len ≤ 140737488355328) (hbase : base ≤ w.heap.size) :
    ∃ v' w', (Builtin.append_ #[t, t] ty #[v, .slice a len cap]).run P w = .ok v' w' ∧ OwnB w' base e v' (bs ++ xs) ∧ w.grownBy w' v.ownBlock ∧ Below base w w' := by
  have hl := hT.length
  have hsm : ∀ x ∈ bs ++ xs, 0 ≤ x ∧ x < 256 := fun x hx => by
    rw [List.mem_append] at hx
    exact hx.elim (hown.small x) (hT.small x)
  have hbel : ∀ {w' : World}, w.grownBy w' v.ownBlock → Below base w w' := fun hg => ⟨hg.os, hg.tape, hg.output, hg.size, fun k hk => hg.block k (by omega) (fun e => by have := (hown.lt k e.symm).1; omega)⟩
  rcases hT.mem with ⟨rfl, rfl, rfl⟩ | ⟨x, o, s, rfl, hc⟩
  · have hx := hT.empty rfl
    subst hx
    have hg : w.grownBy w v.ownBlock := ⟨rfl, rfl, rfl, Nat.le_refl _, fun _ _ _ => rfl⟩
    exact ⟨v, w, run_append_owned_none w base t ty e i 1 ht hi v _ _ hown.row, by simpa using hown, hg, hbel hg⟩
  · obtain ⟨v', w', h1, h2, h3, _⟩ := run_append_own w base t ty e i (.int .u8 0) 1 1 ht hi hz hsize hby rfl (by decide) v _ _ hown.row ⟨x, o, s⟩ len cap (xs.map (Value.int .u8)) (by simp [hl]) hT.news
      (fun u hu => by simp only [List.mem_map] at hu; obtain ⟨y, _, rfl⟩ := hu; rfl) (by unfold maxLen; omega) (by omega) hbase
    exact ⟨v', w', h1, ⟨by rw [List.length_append, hl, List.map_append]; exact h2, hsm⟩, h3, hbel h3⟩

theorem wpList_append_text {ops : Array Oper} {rest : List Oper} {o : Oper} {A : Act} {Q : Exit → Act → World → Prop} (hgd : o.guard = none) (s x : Operand) (ho : o.op = .call { callee := .builtin .append, args := #[s, x], argTypes := #[t, t] })
    (ht : P.underlying t = some (.slice e)) (hi : P.info? e = some i) (hz : i.zero = some (.int .u8 0)) (hsize : i.size = 1) (hby : i.bytes = 1) (hs : A.eval s = v) (hown : OwnB w base e v bs)
    {a : Option Addr} {len cap : Nat} {xs : List Int} (hx : A.eval x = .slice a len cap) (hT : TextAt w a len cap xs) (hb : bs.length + len ≤ 140737488355328) (hbase : base ≤ w.heap.size)
    (h : ∀ v' w', OwnB w' base e v' (bs ++ xs) → w.grownBy w' v.ownBlock → Below base w w' → wpList P ops Q rest (A.put o.dst v') w') : wpList P ops Q (o :: rest) A w :=
  wpList_plain hgd fun K hK => by
    obtain ⟨v', w', hr, h2, h3, h4⟩ := run_append_text o.type ht hi hz hsize hby hown hT hb hbase
    unfold Oper.wp execOp
    simp only [ho, resolve, invoke, builtin, Sem.run_bind, Sem.run_pure, Result.andThen_ok, List.map_toArray, List.map_cons, List.map_nil, hs, hx, hr, Oper.upon_value]
    exact hK _ _ (h v' w' h2 h3 h4)
end

theorem TextAt.grown {w w' : World} {a : Option Addr} {len cap : Nat} {t : List Int} {row : Option Nat} (h : TextAt w a len cap t) (hg : w.grownBy w' row) (hr : ∀ k, row = some k → w.heap.size ≤ k ∨ ∀ p : Addr, a = some p → p.block ≠ k) : TextAt w' a len cap t := by
  obtain ⟨h1, h2, h3, h4, h | ⟨x, o, s, rfl, hc⟩⟩ := h
  · exact ⟨h1, h2, h3, h4, .inl h⟩
  · refine ⟨h1, h2, h3, h4, .inr ⟨x, o, s, rfl, fun j hj => ?_⟩⟩
    obtain ⟨q0, q1, q2⟩ := hc j hj
    refine ⟨q0, Nat.lt_of_lt_of_le q1 hg.size, hg.cell q2 fun he => ?_⟩
    rcases hr x he.symm with h | h
    · omega
    · exact h _ rfl rfl

/-- What lies below the call's own blocks stays. -/
theorem TextAt.low {w w' : World} {B : Nat} {a : Option Addr} {len cap : Nat} {t : List Int} (h : TextAt w a len cap t) (hb : Below B w w') (ha : ∀ p : Addr, a = some p → p.block < B) : TextAt w' a len cap t := by
  obtain ⟨h1, h2, h3, h4, h | ⟨x, o, s, rfl, hc⟩⟩ := h
  · exact ⟨h1, h2, h3, h4, .inl h⟩
  · refine ⟨h1, h2, h3, h4, .inr ⟨x, o, s, rfl, fun j hj => ?_⟩⟩
    obtain ⟨q0, q1, q2⟩ := hc j hj
    exact ⟨q0, Nat.lt_of_lt_of_le q1 hb.size, (hb.cell (p := ⟨x, o + j, none⟩) (show x < B from ha ⟨x, o, s⟩ rfl)).trans q2⟩

/-- A text in a block of its own. -/
theorem OwnB.text2 {w : World} {base : Nat} {e : TypeId} {v : Value} {bs : List Int} (h : OwnB w base e v bs) : ∃ a cap, v = .slice a bs.length cap ∧ TextAt w a bs.length cap bs ∧ ∀ p : Addr, a = some p → base ≤ p.block ∧ ∃ cs, w.heap[p.block]? = some (.cells cs e (0, 0)) := by
  obtain ⟨a, cap, rfl, hT, ha⟩ := h.text
  refine ⟨a, cap, rfl, hT, fun p hp => ?_⟩
  rcases ha with rfl | ⟨g, rfl, hg⟩
  · cases hp
  · cases hp
    obtain ⟨⟨_, ⟨h, _⟩ | ⟨g', cap', cur, he, _, hh, _⟩⟩, _⟩ := h
    · cases h
    · injection he with he
      injection he with he
      injection he with he
      subst he
      exact ⟨hg, cur, hh⟩

/-- A slice of the call's own holds texts, whose bytes lie in other blocks. -/
structure OwnT (w : World) (base : Nat) (e T : TypeId) (v : Value) (ts : List (List Int)) : Prop where
  row : ∃ xs, w.ownsRow base e 1 v ts.length xs ∧ ∀ j, j < ts.length → ∃ a l c, xs[j]? = some (.slice a l c) ∧ TextAt w a l c (ts.getD j []) ∧ ∀ p : Addr, a = some p → base ≤ p.block ∧ ∃ cs, w.heap[p.block]? = some (.cells cs T (0, 0))

theorem OwnT.nil (w : World) (base : Nat) (e T : TypeId) : OwnT w base e T (.slice none 0 0) [] := ⟨[], World.ownsRow_nil w base e 1, by simp⟩
theorem OwnT.below {w w' : World} {base : Nat} {e T : TypeId} {v : Value} {ts : List (List Int)} (h : OwnT w base e T v ts) (hb : Below w.heap.size w w') : OwnT w' base e T v ts := by
  obtain ⟨xs, h1, h2⟩ := h
  refine ⟨xs, owns_below h1 hb, fun j hj => ?_⟩
  obtain ⟨a, l, c, q1, q2, q3⟩ := h2 j hj
  refine ⟨a, l, c, q1, q2.below hb, fun p hp => ?_⟩
  obtain ⟨q4, cs, q5⟩ := q3 p hp
  exact ⟨q4, cs, by rw [hb.block _ (Array.getElem?_eq_some_iff.1 q5).1]; exact q5⟩
theorem OwnT.texts {w : World} {base : Nat} {e T : TypeId} {v : Value} {ts : List (List Int)} (h : OwnT w base e T v ts) : ∃ a cap, v = .slice a ts.length cap ∧ TextsAt w a ts.length cap ts := by
  obtain ⟨xs, ⟨h1, ⟨rfl, h2⟩ | ⟨g, cap, cur, rfl, hg, hh, hle, hmx, hsz, htk⟩⟩, h3⟩ := h
  · refine ⟨none, 0, by rw [h2], rfl, by omega, by omega, .inl h2⟩
  · refine ⟨_, cap, rfl, rfl, hle, by unfold maxLen at hmx; omega, .inr ⟨g, 0, rfl, (Array.getElem?_eq_some_iff.1 hh).1, fun j hj => ?_⟩⟩
    obtain ⟨a, l, c, q1, q2, _⟩ := h3 j hj
    refine ⟨a, l, c, ?_, q2⟩
    rw [Nat.zero_add, (show Blk w g cur e from hh).cell]
    rw [← htk, List.getElem?_take, if_pos (by omega)] at q1
    simpa using q1

theorem run_append_one {P : Program} {w : World} {base : Nat} {t e T : TypeId} {i : TypeInfo} {v : Value} {ts : List (List Int)} (ty : TypeId) (ht : P.underlying t = some (.slice e)) (hi : P.info? e = some i) (hz : i.zero = some (.slice none 0 0)) (hsize : i.size = 1) (hby : i.bytes = 24) (hne : T ≠ e) (hown : OwnT w base e T v ts)
    {b : Nat} {a : Option Addr} {len cap : Nat} {x : List Int} (hk : Blk w b #[.slice a len cap] e) (hT : TextAt w a len cap x) (hp : ∀ p : Addr, a = some p → base ≤ p.block ∧ ∃ cs, w.heap[p.block]? = some (.cells cs T (0, 0))) (hb : ts.length ≤ 5000000000000) (hbase : base ≤ w.heap.size) :
    ∃ v' w', (Builtin.append_ #[t, t] ty #[v, .slice (some ⟨b, 0, none⟩) 1 1]).run P w = .ok v' w' ∧ OwnT w' base e T v' (ts ++ [x]) ∧ w.grownBy w' v.ownBlock ∧ Below base w w' := by
  obtain ⟨xs, h1, h2⟩ := hown
  obtain ⟨v', w', r1, r2, r3, _⟩ := run_append_own w base t ty e i (.slice none 0 0) 1 24 ht hi hz hsize hby rfl (by decide) v _ _ h1 ⟨b, 0, none⟩ 1 1 [.slice a len cap] rfl
    (fun j u hj => by
      rw [Addr.add_mid, Nat.zero_add, hk.cell]
      simpa using hj) (fun u hu => by simp at hu; subst hu; rfl) (by unfold maxLen; omega) (by omega) hbase
  have hbel : Below base w w' := ⟨r3.os, r3.tape, r3.output, r3.size, fun k hk => r3.block k (by omega) (fun e => by have := (h1.lt k e.symm).1; omega)⟩
  have hxl : xs.length = ts.length := by have := h1.1; omega
  -- a text's block is none of the row's
  have hother : ∀ p : Addr, (∃ cs, w.heap[p.block]? = some (.cells cs T (0, 0))) → some p.block ≠ v.ownBlock := by
    rintro p ⟨cs, hcs⟩ he
    rcases h1.2 with ⟨rfl, _⟩ | ⟨g, cap', cur, rfl, _, hh, _⟩
    · cases he
    · simp only [Value.ownBlock, Option.some.injEq] at he
      rw [he, hh] at hcs
      injection hcs with hcs
      injection hcs with _ e2 _
      exact hne e2.symm
  have hkeep : ∀ {a : Option Addr} {l c : Nat} {y : List Int}, TextAt w a l c y → (∀ p : Addr, a = some p → base ≤ p.block ∧ ∃ cs, w.heap[p.block]? = some (.cells cs T (0, 0))) → TextAt w' a l c y ∧ ∀ p : Addr, a = some p → base ≤ p.block ∧ ∃ cs, w'.heap[p.block]? = some (.cells cs T (0, 0)) := by
    intro a l c y hy hpp
    refine ⟨hy.grown r3 fun k hk => ?_, fun p hpa => ?_⟩
    · right
      intro p hpa he
      exact hother p (hpp p hpa).2 (by rw [he]; exact hk.symm)
    · obtain ⟨q1, cs, q2⟩ := hpp p hpa
      exact ⟨q1, cs, by rw [r3.block _ (Array.getElem?_eq_some_iff.1 q2).1 (hother p ⟨cs, q2⟩)]; exact q2⟩
  refine ⟨v', w', r1, ⟨xs ++ [.slice a len cap], by rw [List.length_append]; exact r2, fun j hj => ?_⟩, r3, hbel⟩
  simp only [List.length_append, List.length_cons, List.length_nil] at hj
  rcases Nat.lt_or_ge j ts.length with hlt | hge
  · obtain ⟨a', l', c', q1, q2, q3⟩ := h2 j hlt
    obtain ⟨k1, k2⟩ := hkeep q2 q3
    refine ⟨a', l', c', by rw [List.getElem?_append_left (by omega)]; exact q1, ?_, k2⟩
    rw [show (ts ++ [x]).getD j [] = ts.getD j [] by simp [List.getD_eq_getElem?_getD, List.getElem?_append_left hlt]]
    exact k1
  · obtain rfl : j = ts.length := by omega
    obtain ⟨k1, k2⟩ := hkeep hT hp
    refine ⟨a, len, cap, by rw [← hxl]; simp, ?_, k2⟩
    rw [show (ts ++ [x]).getD ts.length [] = x by simp [List.getD_eq_getElem?_getD]]
    exact k1

theorem wpList_append_one {P : Program} {w : World} {base : Nat} {t e T : TypeId} {i : TypeInfo} {v : Value} {ts : List (List Int)} {ops : Array Oper} {rest : List Oper} {o : Oper} {A : Act} {Q : Exit → Act → World → Prop} (hgd : o.guard = none) (s x : Operand) (ho : o.op = .call { callee := .builtin .append, args := #[s, x], argTypes := #[t, t] })
    (ht : P.underlying t = some (.slice e)) (hi : P.info? e = some i) (hz : i.zero = some (.slice none 0 0)) (hsize : i.size = 1) (hby : i.bytes = 24) (hne : T ≠ e) (hs : A.eval s = v) (hown : OwnT w base e T v ts)
    {b : Nat} {a : Option Addr} {len cap : Nat} {y : List Int} (hx : A.eval x = .slice (some ⟨b, 0, none⟩) 1 1) (hk : Blk w b #[.slice a len cap] e) (hT : TextAt w a len cap y) (hp : ∀ p : Addr, a = some p → base ≤ p.block ∧ ∃ cs, w.heap[p.block]? = some (.cells cs T (0, 0))) (hb : ts.length ≤ 5000000000000) (hbase : base ≤ w.heap.size)
    (h : ∀ v' w', OwnT w' base e T v' (ts ++ [y]) → w.grownBy w' v.ownBlock → Below base w w' → wpList P ops Q rest (A.put o.dst v') w') : wpList P ops Q (o :: rest) A w :=
  wpList_plain hgd fun K hK => by
    obtain ⟨v', w', hr, h2, h3, h4⟩ := run_append_one o.type ht hi hz hsize hby hne hown hk hT hp hb hbase
    unfold Oper.wp execOp
    simp only [ho, resolve, invoke, builtin, Sem.run_bind, Sem.run_pure, Result.andThen_ok, List.map_toArray, List.map_cons, List.map_nil, hs, hx, hr, Oper.upon_value]
    exact hK _ _ (h v' w' h2 h3 h4)
end Go.Proofs.YtkiaeepdpmcafaaDoor
