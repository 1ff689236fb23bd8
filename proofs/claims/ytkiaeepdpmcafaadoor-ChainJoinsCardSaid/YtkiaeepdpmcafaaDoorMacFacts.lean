/-
  Facts for mac: masked blocks; texts that are appended to a slice of texts; a block's front that is written.
-/
import Derived.Test.YtkiaeepdpmcafaaDoorDig
namespace Go.Proofs.YtkiaeepdpmcafaaDoor
open Go.ChangeShapes Go.WideShapes Go.ChangeAt Go.RowKit

def xorZ (x y : Int) : Int := ((x.toNat ^^^ y.toNat : Nat) : Int)
theorem xorZ_small {x y : Int} (hx : 0 ≤ x ∧ x < 256) (hy : 0 ≤ y ∧ y < 256) : 0 ≤ xorZ x y ∧ xorZ x y < 256 := by
  have := Nat.xor_lt_two_pow (n := 8) (show x.toNat < 2 ^ 8 by omega) (show y.toNat < 2 ^ 8 by omega)
  unfold xorZ
  omega
theorem bits_xorZ {x y : Int} (hx : 0 ≤ x ∧ x < 256) (hy : 0 ≤ y ∧ y < 256) : bits .xor .u8 x y = xorZ x y := u8_xor x y hx.1 hx.2 hy.1 hy.2
@[irreducible] def blockZ (key : List Int) : List Int := if 64 < key.length then sumZ key ++ List.replicate 32 0 else key ++ List.replicate (64 - key.length) 0
def maskZ (b : List Int) (m : Int) : List Int := b.map fun x => xorZ x m
@[irreducible] def macZ (key text : List Int) : List Int := sumZ (maskZ (blockZ key) 92 ++ sumZ (maskZ (blockZ key) 54 ++ text))
theorem blockZ_length (key : List Int) : (blockZ key).length = 64 := by
  unfold blockZ
  split
  · simp [sumZ_length]
  · simp; omega
theorem blockZ_small {key : List Int} (h : ∀ x ∈ key, 0 ≤ x ∧ x < 256) : ∀ x ∈ blockZ key, 0 ≤ x ∧ x < 256 := by
  unfold blockZ
  intro x hx
  split at hx
  · rcases List.mem_append.1 hx with h1 | h1
    · exact sumZ_small _ x h1
    · have := List.eq_of_mem_replicate h1; omega
  · rcases List.mem_append.1 hx with h1 | h1
    · exact h x h1
    · have := List.eq_of_mem_replicate h1; omega
theorem maskZ_small {b : List Int} {m : Int} (h : ∀ x ∈ b, 0 ≤ x ∧ x < 256) (hm : 0 ≤ m ∧ m < 256) : ∀ x ∈ maskZ b m, 0 ≤ x ∧ x < 256 := by
  unfold maskZ
  intro x hx
  obtain ⟨y, hy, rfl⟩ := List.mem_map.1 hx
  exact xorZ_small (h y hy) hm
theorem maskZ_length (b : List Int) (m : Int) : (maskZ b m).length = b.length := by simp [maskZ]
theorem macZ_length (key text : List Int) : (macZ key text).length = 32 := by unfold macZ; exact sumZ_length _
theorem macZ_small (key text : List Int) : ∀ x ∈ macZ key text, 0 ≤ x ∧ x < 256 := by unfold macZ; exact sumZ_small _

theorem byteCells_pad (n : Nat) (bs : List Int) : byteCells n bs = ((bs ++ List.replicate (n - bs.length) 0).map (Value.int .u8)).toArray := by simp [byteCells]

/-- a text is written to the front of bytes that were 0 -/
theorem Blk.front {w : World} {b n : Nat} {T : TypeId} (h : Blk w b (byteCells n []) T) (bs : List Int) (hl : bs.length ≤ n) : Blk (w.setCells b 0 (bs.map (Value.int .u8))) b (byteCells n bs) T := by
  have h0 : Blk w b (([] : List Value) ++ (List.replicate n (Value.int .u8 0) ++ [])).toArray T := by simpa [byteCells] using h
  have h1 := Blk.setCells [] (List.replicate n (Value.int .u8 0)) [] 0 (bs.map (Value.int .u8)) h0 (by simp; omega)
  have e : (([] : List Value) ++ (splice (List.replicate n (Value.int .u8 0)) 0 (bs.map (Value.int .u8)) ++ [])).toArray = byteCells n bs := by
    simp [splice, byteCells]
  rw [e] at h1
  exact h1

theorem wpList_copy_front {P : Program} {ops : Array Oper} {rest : List Oper} {op : Oper} {act : Act} {w : World} {Q : Exit → Act → World → Prop} (hgd : op.guard = none) (d s : Operand) (dT sT : TypeId)
    (ho : op.op = .call { callee := .builtin .copy, args := #[d, s], argTypes := #[dT, sT] }) (elem : TypeId) (hu : P.underlying dT = some (.slice elem)) (hs : (P.info? elem).map (·.size) = some 1)
    (b N : Nat) (hd : act.eval d = .slice (some ⟨b, 0, none⟩) N N) (a : Option Addr) (len cap : Nat) (hse : act.eval s = .slice a len cap) (T : TypeId) (hk : Blk w b (byteCells N []) T) (t : List Int) (hT : TextAt w a len cap t) (hfit : len ≤ N)
    (h : ∀ w', But b w w' → Blk w' b (byteCells N t) T → wpList P ops Q rest (act.put op.dst (.int .i64 (len : Nat))) w') : wpList P ops Q (op :: rest) act w := by
  have hl := hT.length
  refine wpList_copy_text hgd d s dT sT ho elem hu hs b 0 N N hd a len cap hse (byteCells N []) T hk t hT (by rw [byteCells_size N [] (by simp)]; omega) len (Nat.min_eq_left hfit).symm ?_
  rw [List.take_of_length_le (by omega)]
  exact h _ (But.setCells _ _ _ (But.of (Below.refl _ _))) (hk.front t (by omega))

/-- a slice of texts that is the call's own; the texts lie in older blocks -/
def OwnL (w : World) (base : Nat) (e : TypeId) (v : Value) (ts : List (List Int)) : Prop :=
  ∃ xs, w.ownsRow base e 1 v ts.length xs ∧ ∀ j, j < ts.length → ∃ a l c, xs[j]? = some (.slice a l c) ∧ TextAt w a l c (ts.getD j []) ∧ (0 < l → ∀ p : Addr, a = some p → p.block < base)

theorem OwnL.of_blk {w : World} {base g n : Nat} {e : TypeId} {vs : List Value} {ts : List (List Int)} (h : Blk w g vs.toArray e) (hg : base ≤ g) (hl : vs.length = n) (ht : ts.length = n) (hm : n ≤ 9223372036854775807)
    (hv : ∀ j, j < n → ∃ a l c, vs[j]? = some (.slice a l c) ∧ TextAt w a l c (ts.getD j []) ∧ (0 < l → ∀ p : Addr, a = some p → p.block < base)) : OwnL w base e (.slice (some ⟨g, 0, none⟩) n n) ts := by
  subst ht
  refine ⟨vs, ⟨by omega, .inr ⟨g, _, _, rfl, hg, h, Nat.le_refl _, by unfold maxLen; omega, by simp [hl], ?_⟩⟩, hv⟩
  simp
  exact List.take_of_length_le (by omega)
theorem OwnL.texts {w : World} {base : Nat} {e : TypeId} {v : Value} {ts : List (List Int)} (h : OwnL w base e v ts) : ∃ a cap, v = .slice a ts.length cap ∧ TextsAt w a ts.length cap ts := by
  obtain ⟨xs, ⟨h1, ⟨rfl, h2⟩ | ⟨g, cap, cur, rfl, hg, hh, hle, hmx, hsz, htk⟩⟩, h3⟩ := h
  · exact ⟨none, 0, by rw [h2], rfl, by omega, by omega, .inl h2⟩
  · refine ⟨_, cap, rfl, rfl, hle, by unfold maxLen at hmx; omega, .inr ⟨g, 0, rfl, (Array.getElem?_eq_some_iff.1 hh).1, fun j hj => ?_⟩⟩
    obtain ⟨a, l, c, q1, q2, _⟩ := h3 j hj
    refine ⟨a, l, c, ?_, q2⟩
    rw [Nat.zero_add, (show Blk w g cur e from hh).cell]
    rw [← htk, List.getElem?_take, if_pos (by omega)] at q1
    simpa using q1

section
variable {P : Program} {w : World} {base : Nat} {t e : TypeId} {i : TypeInfo} {v : Value} {ts us : List (List Int)}
theorem run_append_none1 {n : Nat} {xs : List Value} (ty : TypeId) (ht : P.underlying t = some (.slice e)) (hi : P.info? e = some i) (hown : w.ownsRow base e 1 v n xs) (c : Nat) :
    (Builtin.append_ #[t, t] ty #[v, .slice none 0 c]).run P w = .ok v w := by
  rcases hown.2 with ⟨rfl, rfl⟩ | ⟨g, cap, cur, rfl, _, _, hnc, _⟩
  · simp [Builtin.append_, run_underlying ht, sizeOf, typeInfo, hi, Builtin.lenOf, Builtin.firstCells]
  · simp [Builtin.append_, run_underlying ht, sizeOf, typeInfo, hi, Builtin.lenOf, Builtin.firstCells, hnc, storeCells]
theorem run_append_texts (ty : TypeId) (ht : P.underlying t = some (.slice e)) (hi : P.info? e = some i) (hz : i.zero = some (.slice none 0 0)) (hsize : i.size = 1) (hby : i.bytes = 24) (hown : OwnL w base e v ts)
    {w0 : World} {a : Option Addr} {len cap : Nat} (hT : TextsAt w0 a len cap us) (hb0 : Below w0.heap.size w0 w) (hle : w0.heap.size ≤ base) (hb : ts.length + len ≤ 5000000000000) (hbase : base ≤ w.heap.size) :
    ∃ v' w', (Builtin.append_ #[t, t] ty #[v, .slice a len cap]).run P w = .ok v' w' ∧ OwnL w' base e v' (ts ++ us) ∧ Below base w w' := by
  obtain ⟨xs, h1, h2⟩ := hown
  have hbel : ∀ {w' : World}, w.grownBy w' v.ownBlock → Below base w w' := fun hg => ⟨hg.os, hg.tape, hg.output, hg.size, fun k hk => hg.block k (by omega) (fun e => by have := (h1.lt k e.symm).1; omega)⟩
  have hlu := hT.length
  have hxl : xs.length = ts.length := by have := h1.1; omega
  have hkeep : ∀ {w' : World} {a : Option Addr} {l c : Nat} {y : List Int}, Below base w w' → TextAt w a l c y → (0 < l → ∀ p : Addr, a = some p → p.block < base) → TextAt w' a l c y := by
    intro w' a l c y hb hy hp
    obtain ⟨q1, q2, q3, q4, h | ⟨x, o, s, rfl, hc⟩⟩ := hy
    · exact ⟨q1, q2, q3, q4, .inl h⟩
    · refine ⟨q1, q2, q3, q4, .inr ⟨x, o, s, rfl, fun j hj => ?_⟩⟩
      obtain ⟨k0, k1, k2⟩ := hc j hj
      exact ⟨k0, Nat.lt_of_lt_of_le k1 hb.size, (hb.cell (p := ⟨x, o + j, none⟩) (hp (by omega) ⟨x, o, s⟩ rfl)).trans k2⟩
  -- the new cells
  obtain ⟨news, hnl, hnews⟩ : ∃ news : List Value, news.length = len ∧ ∀ j, j < len → ∃ a' l c, news[j]? = some (.slice a' l c) ∧ TextAt w a' l c (us.getD j []) ∧ (0 < l → ∀ p : Addr, a' = some p → p.block < base) ∧ ∃ x o, a = some ⟨x, o, none⟩ ∧ w.cell? ⟨x, o + j, none⟩ = some (.slice a' l c) := by
    have key : ∀ j, j < len → ∃ a' l c, TextAt w a' l c (us.getD j []) ∧ (0 < l → ∀ p : Addr, a' = some p → p.block < base) ∧ ∃ x o, a = some ⟨x, o, none⟩ ∧ w.cell? ⟨x, o + j, none⟩ = some (.slice a' l c) := fun j hj => by
      obtain ⟨x, o, a', l', c', ha, hx, hc, hT'⟩ := hT.at_ j hj
      refine ⟨a', l', c', hT'.below hb0, fun h0 p hp => ?_, x, o, ha, (hb0.cell (p := ⟨x, o + j, none⟩) hx).trans hc⟩
      obtain ⟨x', o', he, hx', _⟩ := hT'.at_ h0
      rw [hp] at he
      cases he
      show x' < base
      omega
    refine ⟨(List.range len).map fun j => if h : j < len then .slice (key j h).choose (key j h).choose_spec.choose (key j h).choose_spec.choose_spec.choose else undef, by simp, fun j hj => ?_⟩
    refine ⟨(key j hj).choose, (key j hj).choose_spec.choose, (key j hj).choose_spec.choose_spec.choose, ?_, (key j hj).choose_spec.choose_spec.choose_spec⟩
    simp [hj]
  have hres : ∀ {w' : World} {v' : Value}, Below base w w' → w'.ownsRow base e 1 v' (ts.length + len) (xs ++ news) → OwnL w' base e v' (ts ++ us) := by
    intro w' v' hb hr
    refine ⟨xs ++ news, by rw [List.length_append, hlu]; exact hr, fun j hj => ?_⟩
    rw [List.length_append] at hj
    rcases Nat.lt_or_ge j ts.length with hlt | hge
    · obtain ⟨a', l', c', q1, q2, q3⟩ := h2 j hlt
      refine ⟨a', l', c', by rw [List.getElem?_append_left (by omega)]; exact q1, ?_, q3⟩
      rw [show (ts ++ us).getD j [] = ts.getD j [] by simp [List.getD_eq_getElem?_getD, List.getElem?_append_left hlt]]
      exact hkeep hb q2 q3
    · obtain ⟨a', l', c', q1, q2, q3, _⟩ := hnews (j - ts.length) (by omega)
      refine ⟨a', l', c', by rw [List.getElem?_append_right (by omega), hxl]; exact q1, ?_, q3⟩
      rw [show (ts ++ us).getD j [] = us.getD (j - ts.length) [] by simp [List.getD_eq_getElem?_getD, List.getElem?_append_right hge]]
      exact hkeep hb q2 q3
  cases a with
  | none =>
    have h0 : len = 0 := by
      rcases Nat.eq_zero_or_pos len with h | h
      · exact h
      · obtain ⟨_, _, _, _, _, _, x, o, ha, _⟩ := hnews 0 h
        cases ha
    subst h0
    have hn0 : news = [] := List.eq_nil_of_length_eq_zero hnl
    have hg : w.grownBy w v.ownBlock := ⟨rfl, rfl, rfl, Nat.le_refl _, fun _ _ _ => rfl⟩
    exact ⟨v, w, run_append_none1 ty ht hi h1 _, hres (hbel hg) (by rw [hn0, List.append_nil]; exact h1), hbel hg⟩
  | some ad =>
    obtain ⟨v', w', r1, r2, r3, _⟩ := run_append_own w base t ty e i (.slice none 0 0) 1 24 ht hi hz hsize hby rfl (by decide) v _ _ h1 ad len cap news (by omega)
      (fun j u hj => by
        have hjl : j < len := by rw [← hnl]; exact (List.getElem?_eq_some_iff.1 hj).1
        obtain ⟨a', l, c, q1, _, _, x, o, ha, q2⟩ := hnews j hjl
        cases ha
        rw [Addr.add_mid, q2, ← hj, q1])
      (fun u hu => by
        obtain ⟨j, hj, rfl⟩ := List.getElem_of_mem hu
        obtain ⟨a', l, c, q1, _⟩ := hnews j (by omega)
        rw [List.getElem?_eq_getElem hj, Option.some.injEq] at q1
        rw [q1]
        rfl) (by unfold maxLen; omega) (by omega) hbase
    exact ⟨v', w', r1, hres (hbel r3) r2, hbel r3⟩

theorem wpList_append_texts {ops : Array Oper} {rest : List Oper} {o : Oper} {A : Act} {Q : Exit → Act → World → Prop} (hgd : o.guard = none) (s x : Operand) (ho : o.op = .call { callee := .builtin .append, args := #[s, x], argTypes := #[t, t] })
    (ht : P.underlying t = some (.slice e)) (hi : P.info? e = some i) (hz : i.zero = some (.slice none 0 0)) (hsize : i.size = 1) (hby : i.bytes = 24) (hs : A.eval s = v) (hown : OwnL w base e v ts)
    {w0 : World} {a : Option Addr} {len cap : Nat} (hx : A.eval x = .slice a len cap) (hT : TextsAt w0 a len cap us) (hb0 : Below w0.heap.size w0 w) (hle : w0.heap.size ≤ base) (hb : ts.length + len ≤ 5000000000000) (hbase : base ≤ w.heap.size)
    (h : ∀ v' w', OwnL w' base e v' (ts ++ us) → Below base w w' → wpList P ops Q rest (A.put o.dst v') w') : wpList P ops Q (o :: rest) A w :=
  wpList_plain hgd fun K hK => by
    obtain ⟨v', w', hr, h2, h3⟩ := run_append_texts o.type ht hi hz hsize hby hown hT hb0 hle hb hbase
    unfold Oper.wp execOp
    simp only [ho, resolve, invoke, builtin, Sem.run_bind, Sem.run_pure, Result.andThen_ok, List.map_toArray, List.map_cons, List.map_nil, hs, hx, hr, Oper.upon_value]
    exact hK _ _ (h v' w' h2 h3)
end
end Go.Proofs.YtkiaeepdpmcafaaDoor
