/-
  Dig, MacFacts, OwnM, EqStr: one text.
-/
import Derived.Test.YthaicocfbmpnmaaDoorLMShaB
import Derived.Test.YthaicocfbmpnmaaDoorLMBase
import Derived.Maps.AppendAt
import Derived.Lib.Bytes
import Derived.Lib.SlBytesConst
namespace Go.Proofs.YthaicocfbmpnmaaDoor
open Go.ChangeShapes Go.WideShapes Go.ChangeAt Go.RowKit

set_option maxRecDepth 100000 in
theorem eqD (xs ys : List Int) (hx : xs.length = 32) (hy : ys.length = 32) (w : World) : (binOp .eql 23 (.agg (xs.map (Value.int .u8)).toArray) (.agg (ys.map (Value.int .u8)).toArray)).run Tryd.prog w = .ok (.bool (decide (xs = ys))) w :=
  run_eql_ints (P := Tryd.prog) (t := 23) (e := 5) Tryd.underlying23 Tryd.underlying5 rfl (by kernel_rfl) xs ys hx hy w
set_option maxRecDepth 100000 in
theorem neD (xs ys : List Int) (hx : xs.length = 32) (hy : ys.length = 32) (w : World) : (binOp .neq 23 (.agg (xs.map (Value.int .u8)).toArray) (.agg (ys.map (Value.int .u8)).toArray)).run Tryd.prog w = .ok (.bool (!decide (xs = ys))) w :=
  run_neq_ints (P := Tryd.prog) (t := 23) (e := 5) Tryd.underlying23 Tryd.underlying5 rfl (by kernel_rfl) xs ys hx hy w
set_option maxRecDepth 100000 in
theorem eqD_self (xs : List Int) (hx : xs.length = 32) (w : World) : (binOp .eql 23 (.agg (xs.map (Value.int .u8)).toArray) (.agg (xs.map (Value.int .u8)).toArray)).run Tryd.prog w = .ok (.bool true) w := by
  rw [eqD xs xs hx hx w, decide_eq_true rfl]
set_option maxRecDepth 100000 in
theorem neD_self (xs : List Int) (hx : xs.length = 32) (w : World) : (binOp .neq 23 (.agg (xs.map (Value.int .u8)).toArray) (.agg (xs.map (Value.int .u8)).toArray)).run Tryd.prog w = .ok (.bool false) w := by
  rw [neD xs xs hx hx w, decide_eq_true rfl]; rfl

set_option maxRecDepth 100000 in
/-- the size of a digest's cells -/
theorem dsize {xs : List Int} (hx : xs.length = 32) : ((xs.map (Value.int .u8)).toArray).size = 32 := by simp [hx]
set_option maxRecDepth 100000 in
theorem zsize : (byteCells 32 []).size = 32 := byteCells_size 32 [] (by simp)

set_option maxRecDepth 100000 in
/-- a text that was made just now, whatever its block's mark -/
theorem TextAt.made {w : World} {bs : List Int} {n : Nat} {T : TypeId} (mark : Nat × Nat) (hn : bs.length = n) (hm : n ≤ 9223372036854775807) (hs : ∀ x ∈ bs, 0 ≤ x ∧ x < 256) : TextAt (w.alloc (.cells (bs.map (Value.int .u8)).toArray T mark)) (some ⟨w.heap.size, 0, none⟩) n n bs :=
  ⟨hn, Nat.le_refl _, hm, hs, .inr ⟨_, 0, none, rfl, fun j hj => ⟨rfl, by rw [World.size_alloc]; omega, by rw [Nat.zero_add, World.cell?_alloc_mark]; simp [show j < bs.length by omega]⟩⟩⟩

set_option maxRecDepth 100000 in
/-- texts, whose values lie in a block -/
theorem TextsAt.of_blk {w : World} {g n cap : Nat} {T : TypeId} {vs : Array Value} {ts : List (List Int)} (h : Blk w g vs T) (hl : ts.length = n) (hc : n ≤ cap) (hm : cap ≤ 9223372036854775807) (hv : ∀ j, j < n → ∃ a l c, vs[j]? = some (.slice a l c) ∧ TextAt w a l c (ts.getD j [])) : TextsAt w (some ⟨g, 0, none⟩) n cap ts :=
  ⟨hl, hc, hm, .inr ⟨g, 0, rfl, h.lt, fun j hj => by
    obtain ⟨a, l, c, h1, h2⟩ := hv j hj
    exact ⟨a, l, c, by rw [Nat.zero_add, h.cell]; exact h1, h2⟩⟩⟩
set_option maxRecDepth 100000 in
theorem TextsAt.none_ {w : World} : TextsAt w none 0 0 [] := ⟨rfl, Nat.le_refl _, by omega, .inl rfl⟩
end Go.Proofs.YthaicocfbmpnmaaDoor

namespace Go.Proofs.YthaicocfbmpnmaaDoor
open Go.ChangeShapes Go.WideShapes Go.ChangeAt Go.RowKit

def xorZ (x y : Int) : Int := ((x.toNat ^^^ y.toNat : Nat) : Int)
set_option maxRecDepth 100000 in
theorem xorZ_small {x y : Int} (hx : 0 ≤ x ∧ x < 256) (hy : 0 ≤ y ∧ y < 256) : 0 ≤ xorZ x y ∧ xorZ x y < 256 := by
  have := Nat.xor_lt_two_pow (n := 8) (show x.toNat < 2 ^ 8 by omega) (show y.toNat < 2 ^ 8 by omega)
  unfold xorZ
  omega
set_option maxRecDepth 100000 in
theorem bits_xorZ {x y : Int} (hx : 0 ≤ x ∧ x < 256) (hy : 0 ≤ y ∧ y < 256) : bits .xor .u8 x y = xorZ x y := u8_xor x y hx.1 hx.2 hy.1 hy.2
@[irreducible] def blockZ (key : List Int) : List Int := if 64 < key.length then sumZ key ++ List.replicate 32 0 else key ++ List.replicate (64 - key.length) 0
def maskZ (b : List Int) (m : Int) : List Int := b.map fun x => xorZ x m
@[irreducible] def macZ (key text : List Int) : List Int := sumZ (maskZ (blockZ key) 92 ++ sumZ (maskZ (blockZ key) 54 ++ text))
set_option maxRecDepth 100000 in
theorem blockZ_length (key : List Int) : (blockZ key).length = 64 := by
  unfold blockZ
  split
  · simp [sumZ_length]
  · simp; omega
set_option maxRecDepth 100000 in
theorem blockZ_small {key : List Int} (h : ∀ x ∈ key, 0 ≤ x ∧ x < 256) : ∀ x ∈ blockZ key, 0 ≤ x ∧ x < 256 := by
  unfold blockZ
  intro x hx
  split at hx
  · rcases List.mem_append.1 hx with h1 | h1
    · exact sumZ_small _ x h1
    · have := List.eq_of_mem_replicate h1; omega
  · rcases List.mem_append.1 hx with h1 | h1
    · exact h x h1
    · have := List.eq_of_mem_replicate h1; omega
set_option maxRecDepth 100000 in
theorem maskZ_small {b : List Int} {m : Int} (h : ∀ x ∈ b, 0 ≤ x ∧ x < 256) (hm : 0 ≤ m ∧ m < 256) : ∀ x ∈ maskZ b m, 0 ≤ x ∧ x < 256 := by
  unfold maskZ
  intro x hx
  obtain ⟨y, hy, rfl⟩ := List.mem_map.1 hx
  exact xorZ_small (h y hy) hm
set_option maxRecDepth 100000 in
theorem maskZ_length (b : List Int) (m : Int) : (maskZ b m).length = b.length := by simp [maskZ]
set_option maxRecDepth 100000 in
theorem macZ_length (key text : List Int) : (macZ key text).length = 32 := by unfold macZ; exact sumZ_length _
set_option maxRecDepth 100000 in
theorem macZ_small (key text : List Int) : ∀ x ∈ macZ key text, 0 ≤ x ∧ x < 256 := by unfold macZ; exact sumZ_small _

set_option maxRecDepth 100000 in
theorem byteCells_pad (n : Nat) (bs : List Int) : byteCells n bs = ((bs ++ List.replicate (n - bs.length) 0).map (Value.int .u8)).toArray := by simp [byteCells]

set_option maxRecDepth 100000 in
/-- a text is written to the front of bytes that were 0 -/
theorem Blk.front {w : World} {b n : Nat} {T : TypeId} (h : Blk w b (byteCells n []) T) (bs : List Int) (hl : bs.length ≤ n) : Blk (w.setCells b 0 (bs.map (Value.int .u8))) b (byteCells n bs) T := by
  have h0 : Blk w b (([] : List Value) ++ (List.replicate n (Value.int .u8 0) ++ [])).toArray T := by simpa [byteCells] using h
  have h1 := Blk.setCells [] (List.replicate n (Value.int .u8 0)) [] 0 (bs.map (Value.int .u8)) h0 (by simp; omega)
  have e : (([] : List Value) ++ (splice (List.replicate n (Value.int .u8 0)) 0 (bs.map (Value.int .u8)) ++ [])).toArray = byteCells n bs := by
    simp [splice, byteCells]
  rw [e] at h1
  exact h1

set_option maxRecDepth 100000 in
theorem wpList_copy_front {P : Program} {ops : Array Oper} {rest : List Oper} {op : Oper} {act : Act} {w : World} {Q : Exit → Act → World → Prop} (hgd : op.guard = none) (d s : Operand) (dT sT : TypeId)
    (ho : op.op = .call { callee := .builtin .copy, args := #[d, s], argTypes := #[dT, sT] }) (elem : TypeId) (hu : P.underlying dT = some (.slice elem)) (hs : (P.info? elem).map (·.size) = some 1)
    (b N : Nat) (hd : act.eval d = .slice (some ⟨b, 0, none⟩) N N) (a : Option Addr) (len cap : Nat) (hse : act.eval s = .slice a len cap) (T : TypeId) (hk : Blk w b (byteCells N []) T) (t : List Int) (hT : TextAt w a len cap t) (hfit : len ≤ N)
    (h : ∀ w', But b w w' → Blk w' b (byteCells N t) T → wpList P ops Q rest (act.put op.dst (.int .i64 (len : Nat))) w') : wpList P ops Q (op :: rest) act w := by
  have hl := hT.length
  refine wpList_copy_text hgd d s dT sT ho elem hu hs b 0 N N hd a len cap hse (byteCells N []) T hk t hT (by rw [byteCells_size N [] (by simp)]; omega) len (Nat.min_eq_left hfit).symm ?_
  rw [List.take_of_length_le (by omega)]
  exact h _ (But.setCells _ _ _ (But.of (Below.refl _ _))) (hk.front t (by omega))

/-- a slice of texts that is the call's own; the texts lie in older blocks -/
def OwnL (w : World) (base : Nat) (e : TypeId) (v : Value) (ts : List (List Int)) : Prop :=
  ∃ xs, w.ownsRow base e 1 v ts.length xs ∧ ∀ j, j < ts.length → ∃ a l c, xs[j]? = some (.slice a l c) ∧ TextAt w a l c (ts.getD j []) ∧ (0 < l → ∀ p : Addr, a = some p → p.block < base)

set_option maxRecDepth 100000 in
theorem OwnL.of_blk {w : World} {base g n : Nat} {e : TypeId} {vs : List Value} {ts : List (List Int)} (h : Blk w g vs.toArray e) (hg : base ≤ g) (hl : vs.length = n) (ht : ts.length = n) (hm : n ≤ 9223372036854775807)
    (hv : ∀ j, j < n → ∃ a l c, vs[j]? = some (.slice a l c) ∧ TextAt w a l c (ts.getD j []) ∧ (0 < l → ∀ p : Addr, a = some p → p.block < base)) : OwnL w base e (.slice (some ⟨g, 0, none⟩) n n) ts := by
  subst ht
  refine ⟨vs, ⟨by omega, .inr ⟨g, _, _, rfl, hg, h, Nat.le_refl _, by unfold maxLen; omega, by simp [hl], ?_⟩⟩, hv⟩
  simp
  exact List.take_of_length_le (by omega)
set_option maxRecDepth 100000 in
theorem OwnL.texts {w : World} {base : Nat} {e : TypeId} {v : Value} {ts : List (List Int)} (h : OwnL w base e v ts) : ∃ a cap, v = .slice a ts.length cap ∧ TextsAt w a ts.length cap ts := by
  obtain ⟨xs, ⟨h1, ⟨rfl, h2⟩ | ⟨g, cap, cur, rfl, hg, hh, hle, hmx, hsz, htk⟩⟩, h3⟩ := h
  · exact ⟨none, 0, by rw [h2], rfl, by omega, by omega, .inl h2⟩
  · refine ⟨_, cap, rfl, rfl, hle, by unfold maxLen at hmx; omega, .inr ⟨g, 0, rfl, (Array.getElem?_eq_some_iff.1 hh).1, fun j hj => ?_⟩⟩
    obtain ⟨a, l, c, q1, q2, _⟩ := h3 j hj
    refine ⟨a, l, c, ?_, q2⟩
    rw [Nat.zero_add, (show Blk w g cur e from hh).cell]
    rw [← htk, List.getElem?_take, if_pos (by omega)] at q1
    simpa using q1

section
variable {P : Program} {w : World} {base : Nat} {t e : TypeId} {i : TypeInfo} {v : Value} {ts us : List (List Int)}
set_option maxRecDepth 100000 in
theorem run_append_none1 {n : Nat} {xs : List Value} (ty : TypeId) (ht : P.underlying t = some (.slice e)) (hi : P.info? e = some i) (hown : w.ownsRow base e 1 v n xs) (c : Nat) :
    (Builtin.append_ #[t, t] ty #[v, .slice none 0 c]).run P w = .ok v w := by
  rcases hown.2 with ⟨rfl, rfl⟩ | ⟨g, cap, cur, rfl, _, _, hnc, _⟩
  · simp [Builtin.append_, run_underlying ht, sizeOf, typeInfo, hi, Builtin.lenOf, Builtin.firstCells]
  · simp [Builtin.append_, run_underlying ht, sizeOf, typeInfo, hi, Builtin.lenOf, Builtin.firstCells, hnc, storeCells]
set_option maxRecDepth 100000 in
theorem run_append_texts (ty : TypeId) (ht : P.underlying t = some (.slice e)) (hi : P.info? e = some i) (hz : i.zero = some (.slice none 0 0)) (hsize : i.size = 1) (hby : i.bytes = 24) (hown : OwnL w base e v ts)
    {w0 : World} {a : Option Addr} {len cap : Nat} (hT : TextsAt w0 a len cap us) (hb0 : Below w0.heap.size w0 w) (hle : w0.heap.size ≤ base) (hb : ts.length + len ≤ 5000000000000) (hbase : base ≤ w.heap.size) :
    ∃ v' w', (Builtin.append_ #[t, t] ty #[v, .slice a len cap]).run P w = .ok v' w' ∧ OwnL w' base e v' (ts ++ us) ∧ Below base w w' := by
  obtain ⟨xs, h1, h2⟩ := hown
  have hbel : ∀ {w' : World}, w.grownBy w' v.ownBlock → Below base w w' := fun hg => ⟨hg.os, hg.tape, hg.output, hg.size, fun k hk => hg.block k (by omega) (fun e => by have := (h1.lt k e.symm).1; omega)⟩
  have hlu := hT.length
  have hxl : xs.length = ts.length := by have := h1.1; omega
  have hkeep : ∀ {w' : World} {a : Option Addr} {l c : Nat} {y : List Int}, Below base w w' → TextAt w a l c y → (0 < l → ∀ p : Addr, a = some p → p.block < base) → TextAt w' a l c y := by
    intro w' a l c y hb hy hp
    obtain ⟨q1, q2, q3, q4, h | ⟨x, o, s, rfl, hc⟩⟩ := hy
    · exact ⟨q1, q2, q3, q4, .inl h⟩
    · refine ⟨q1, q2, q3, q4, .inr ⟨x, o, s, rfl, fun j hj => ?_⟩⟩
      obtain ⟨k0, k1, k2⟩ := hc j hj
      exact ⟨k0, Nat.lt_of_lt_of_le k1 hb.size, (hb.cell (p := ⟨x, o + j, none⟩) (hp (by omega) ⟨x, o, s⟩ rfl)).trans k2⟩
  -- the new cells
  obtain ⟨news, hnl, hnews⟩ : ∃ news : List Value, news.length = len ∧ ∀ j, j < len → ∃ a' l c, news[j]? = some (.slice a' l c) ∧ TextAt w a' l c (us.getD j []) ∧ (0 < l → ∀ p : Addr, a' = some p → p.block < base) ∧ ∃ x o, a = some ⟨x, o, none⟩ ∧ w.cell? ⟨x, o + j, none⟩ = some (.slice a' l c) := by
    have key : ∀ j, j < len → ∃ a' l c, TextAt w a' l c (us.getD j []) ∧ (0 < l → ∀ p : Addr, a' = some p → p.block < base) ∧ ∃ x o, a = some ⟨x, o, none⟩ ∧ w.cell? ⟨x, o + j, none⟩ = some (.slice a' l c) := fun j hj => by
      obtain ⟨x, o, a', l', c', ha, hx, hc, hT'⟩ := hT.at_ j hj
      refine ⟨a', l', c', hT'.below hb0, fun h0 p hp => ?_, x, o, ha, (hb0.cell (p := ⟨x, o + j, none⟩) hx).trans hc⟩
      obtain ⟨x', o', he, hx', _⟩ := hT'.at_ h0
      rw [hp] at he
      cases he
      show x' < base
      omega
    refine ⟨(List.range len).map fun j => if h : j < len then .slice (key j h).choose (key j h).choose_spec.choose (key j h).choose_spec.choose_spec.choose else undef, by simp, fun j hj => ?_⟩
    refine ⟨(key j hj).choose, (key j hj).choose_spec.choose, (key j hj).choose_spec.choose_spec.choose, ?_, (key j hj).choose_spec.choose_spec.choose_spec⟩
    simp [hj]
  have hres : ∀ {w' : World} {v' : Value}, Below base w w' → w'.ownsRow base e 1 v' (ts.length + len) (xs ++ news) → OwnL w' base e v' (ts ++ us) := by
    intro w' v' hb hr
    refine ⟨xs ++ news, by rw [List.length_append, hlu]; exact hr, fun j hj => ?_⟩
    rw [List.length_append] at hj
    rcases Nat.lt_or_ge j ts.length with hlt | hge
    · obtain ⟨a', l', c', q1, q2, q3⟩ := h2 j hlt
      refine ⟨a', l', c', by rw [List.getElem?_append_left (by omega)]; exact q1, ?_, q3⟩
      rw [show (ts ++ us).getD j [] = ts.getD j [] by simp [List.getD_eq_getElem?_getD, List.getElem?_append_left hlt]]
      exact hkeep hb q2 q3
    · obtain ⟨a', l', c', q1, q2, q3, _⟩ := hnews (j - ts.length) (by omega)
      refine ⟨a', l', c', by rw [List.getElem?_append_right (by omega), hxl]; exact q1, ?_, q3⟩
      rw [show (ts ++ us).getD j [] = us.getD (j - ts.length) [] by simp [List.getD_eq_getElem?_getD, List.getElem?_append_right hge]]
      exact hkeep hb q2 q3
  cases a with
  | none =>
    have h0 : len = 0 := by
      rcases Nat.eq_zero_or_pos len with h | h
      · exact h
      · obtain ⟨_, _, _, _, _, _, x, o, ha, _⟩ := hnews 0 h
        cases ha
    subst h0
    have hn0 : news = [] := List.eq_nil_of_length_eq_zero hnl
    have hg : w.grownBy w v.ownBlock := ⟨rfl, rfl, rfl, Nat.le_refl _, fun _ _ _ => rfl⟩
    exact ⟨v, w, run_append_none1 ty ht hi h1 _, hres (hbel hg) (by rw [hn0, List.append_nil]; exact h1), hbel hg⟩
  | some ad =>
    obtain ⟨v', w', r1, r2, r3, _⟩ := run_append_own w base t ty e i (.slice none 0 0) 1 24 ht hi hz hsize hby rfl (by decide) v _ _ h1 ad len cap news (by omega)
      (fun j u hj => by
        have hjl : j < len := by rw [← hnl]; exact (List.getElem?_eq_some_iff.1 hj).1
        obtain ⟨a', l, c, q1, _, _, x, o, ha, q2⟩ := hnews j hjl
        cases ha
        rw [Addr.add_mid, q2, ← hj, q1])
      (fun u hu => by
        obtain ⟨j, hj, rfl⟩ := List.getElem_of_mem hu
        obtain ⟨a', l, c, q1, _⟩ := hnews j (by omega)
        rw [List.getElem?_eq_getElem hj, Option.some.injEq] at q1
        rw [q1]
        rfl) (by unfold maxLen; omega) (by omega) hbase
    exact ⟨v', w', r1, hres (hbel r3) r2, hbel r3⟩

set_option maxRecDepth 100000 in
theorem wpList_append_texts {ops : Array Oper} {rest : List Oper} {o : Oper} {A : Act} {Q : Exit → Act → World → Prop} (hgd : o.guard = none) (s x : Operand) (ho : o.op = .call { callee := .builtin .append, args := #[s, x], argTypes := #[t, t] })
    (ht : P.underlying t = some (.slice e)) (hi : P.info? e = some i) (hz : i.zero = some (.slice none 0 0)) (hsize : i.size = 1) (hby : i.bytes = 24) (hs : A.eval s = v) (hown : OwnL w base e v ts)
    {w0 : World} {a : Option Addr} {len cap : Nat} (hx : A.eval x = .slice a len cap) (hT : TextsAt w0 a len cap us) (hb0 : Below w0.heap.size w0 w) (hle : w0.heap.size ≤ base) (hb : ts.length + len ≤ 5000000000000) (hbase : base ≤ w.heap.size)
    (h : ∀ v' w', OwnL w' base e v' (ts ++ us) → Below base w w' → wpList P ops Q rest (A.put o.dst v') w') : wpList P ops Q (o :: rest) A w :=
  wpList_plain hgd fun K hK => by
    obtain ⟨v', w', hr, h2, h3⟩ := run_append_texts o.type ht hi hz hsize hby hown hT hb0 hle hb hbase
    unfold Oper.wp execOp
    simp only [ho, resolve, invoke, builtin, Sem.run_bind, Sem.run_pure, Result.andThen_ok, List.map_toArray, List.map_cons, List.map_nil, hs, hx, hr, Oper.upon_value]
    exact hK _ _ (h v' w' h2 h3)
end
end Go.Proofs.YthaicocfbmpnmaaDoor

namespace Go.Proofs.YthaicocfbmpnmaaDoor
open Go.ChangeShapes Go.WideShapes Go.ChangeAt Go.RowKit

set_option maxRecDepth 100000 in
theorem Blk.apart {w : World} {b c : Nat} {cs ds : Array Value} {T U : TypeId} (h : Blk w b cs T) (k : Blk w c ds U) (hne : T ≠ U) : b ≠ c := fun e => by
  subst e
  unfold Blk at h k
  rw [h] at k
  injection k with k
  injection k with _ k _
  exact hne k

/-- a slice of texts that is the call's own; the texts lie in other blocks -/
def OwnM (w : World) (base : Nat) (e : TypeId) (v : Value) (ts : List (List Int)) : Prop :=
  ∃ xs, w.ownsRow base e 1 v ts.length xs ∧ ∀ j, j < ts.length → ∃ a l c, xs[j]? = some (.slice a l c) ∧ TextAt w a l c (ts.getD j []) ∧ (0 < l → ∀ p : Addr, a = some p → v.ownBlock ≠ some p.block)

set_option maxRecDepth 100000 in
theorem OwnM.of_blk {w : World} {base g n : Nat} {e : TypeId} {vs : List Value} {ts : List (List Int)} (h : Blk w g vs.toArray e) (hg : base ≤ g) (hl : vs.length = n) (ht : ts.length = n) (hm : n ≤ 9223372036854775807)
    (hv : ∀ j, j < n → ∃ a l c, vs[j]? = some (.slice a l c) ∧ TextAt w a l c (ts.getD j []) ∧ (0 < l → ∀ p : Addr, a = some p → p.block ≠ g)) : OwnM w base e (.slice (some ⟨g, 0, none⟩) n n) ts := by
  subst ht
  refine ⟨vs, ⟨by omega, .inr ⟨g, _, _, rfl, hg, h, Nat.le_refl _, by unfold maxLen; omega, by simp [hl], ?_⟩⟩, fun j hj => by
    obtain ⟨a, l, c, q1, q2, q3⟩ := hv j hj
    exact ⟨a, l, c, q1, q2, fun h0 p hp e => q3 h0 p hp (Option.some.inj e).symm⟩⟩
  simp
  exact List.take_of_length_le (by omega)
set_option maxRecDepth 100000 in
theorem OwnM.texts {w : World} {base : Nat} {e : TypeId} {v : Value} {ts : List (List Int)} (h : OwnM w base e v ts) : ∃ a cap, v = .slice a ts.length cap ∧ TextsAt w a ts.length cap ts := by
  obtain ⟨xs, ⟨h1, ⟨rfl, h2⟩ | ⟨g, cap, cur, rfl, hg, hh, hle, hmx, hsz, htk⟩⟩, h3⟩ := h
  · exact ⟨none, 0, by rw [h2], rfl, by omega, by omega, .inl h2⟩
  · refine ⟨_, cap, rfl, rfl, hle, by unfold maxLen at hmx; omega, .inr ⟨g, 0, rfl, (Array.getElem?_eq_some_iff.1 hh).1, fun j hj => ?_⟩⟩
    obtain ⟨a, l, c, q1, q2, _⟩ := h3 j hj
    refine ⟨a, l, c, ?_, q2⟩
    rw [Nat.zero_add, (show Blk w g cur e from hh).cell]
    rw [← htk, List.getElem?_take, if_pos (by omega)] at q1
    simpa using q1

section
variable {P : Program} {w : World} {base : Nat} {t e : TypeId} {i : TypeInfo} {v : Value} {ts us : List (List Int)}
set_option maxRecDepth 100000 in
theorem run_append_texts_m (ty : TypeId) (ht : P.underlying t = some (.slice e)) (hi : P.info? e = some i) (hz : i.zero = some (.slice none 0 0)) (hsize : i.size = 1) (hby : i.bytes = 24) (hown : OwnM w base e v ts)
    {w0 : World} {a : Option Addr} {len cap : Nat} (hT : TextsAt w0 a len cap us) (hb0 : Below w0.heap.size w0 w) (hle : w0.heap.size ≤ base) (hb : ts.length + len ≤ 5000000000000) (hbase : base ≤ w.heap.size) :
    ∃ v' w', (Builtin.append_ #[t, t] ty #[v, .slice a len cap]).run P w = .ok v' w' ∧ OwnM w' base e v' (ts ++ us) ∧ Below base w w' := by
  obtain ⟨xs, h1, h2⟩ := hown
  have hbel : ∀ {w' : World}, w.grownBy w' v.ownBlock → Below base w w' := fun hg => ⟨hg.os, hg.tape, hg.output, hg.size, fun k hk => hg.block k (by omega) (fun e => by have := (h1.lt k e.symm).1; omega)⟩
  have hlu := hT.length
  have hxl : xs.length = ts.length := by have := h1.1; omega
  have hkeep : ∀ {w' : World} {a : Option Addr} {l c : Nat} {y : List Int}, w.grownBy w' v.ownBlock → TextAt w a l c y → (0 < l → ∀ p : Addr, a = some p → v.ownBlock ≠ some p.block) → TextAt w' a l c y := by
    intro w' a l c y hg hy hp
    obtain ⟨q1, q2, q3, q4, h | ⟨x, o, s, rfl, hc⟩⟩ := hy
    · exact ⟨q1, q2, q3, q4, .inl h⟩
    · refine ⟨q1, q2, q3, q4, .inr ⟨x, o, s, rfl, fun j hj => ?_⟩⟩
      obtain ⟨k0, k1, k2⟩ := hc j hj
      exact ⟨k0, Nat.lt_of_lt_of_le k1 hg.size, hg.cell k2 fun he => hp (by omega) ⟨x, o, s⟩ rfl he.symm⟩
  -- the new cells
  obtain ⟨news, hnl, hnews⟩ : ∃ news : List Value, news.length = len ∧ ∀ j, j < len → ∃ a' l c, news[j]? = some (.slice a' l c) ∧ TextAt w a' l c (us.getD j []) ∧ (0 < l → ∀ p : Addr, a' = some p → p.block < base) ∧ ∃ x o, a = some ⟨x, o, none⟩ ∧ w.cell? ⟨x, o + j, none⟩ = some (.slice a' l c) := by
    have key : ∀ j, j < len → ∃ a' l c, TextAt w a' l c (us.getD j []) ∧ (0 < l → ∀ p : Addr, a' = some p → p.block < base) ∧ ∃ x o, a = some ⟨x, o, none⟩ ∧ w.cell? ⟨x, o + j, none⟩ = some (.slice a' l c) := fun j hj => by
      obtain ⟨x, o, a', l', c', ha, hx, hc, hT'⟩ := hT.at_ j hj
      refine ⟨a', l', c', hT'.below hb0, fun h0 p hp => ?_, x, o, ha, (hb0.cell (p := ⟨x, o + j, none⟩) hx).trans hc⟩
      obtain ⟨x', o', he, hx', _⟩ := hT'.at_ h0
      rw [hp] at he
      cases he
      show x' < base
      omega
    refine ⟨(List.range len).map fun j => if h : j < len then .slice (key j h).choose (key j h).choose_spec.choose (key j h).choose_spec.choose_spec.choose else undef, by simp, fun j hj => ?_⟩
    refine ⟨(key j hj).choose, (key j hj).choose_spec.choose, (key j hj).choose_spec.choose_spec.choose, ?_, (key j hj).choose_spec.choose_spec.choose_spec⟩
    simp [hj]
  have hres : ∀ {w' : World} {v' : Value}, w.grownBy w' v.ownBlock → w'.ownsRow base e 1 v' (ts.length + len) (xs ++ news) → (v'.ownBlock = v.ownBlock ∨ v'.ownBlock = some w.heap.size) → OwnM w' base e v' (ts ++ us) := by
    intro w' v' hg hr hv
    refine ⟨xs ++ news, by rw [List.length_append, hlu]; exact hr, fun j hj => ?_⟩
    rw [List.length_append] at hj
    rcases Nat.lt_or_ge j ts.length with hlt | hge
    · obtain ⟨a', l', c', q1, q2, q3⟩ := h2 j hlt
      refine ⟨a', l', c', by rw [List.getElem?_append_left (by omega)]; exact q1, ?_, fun h0 p hp => ?_⟩
      · rw [show (ts ++ us).getD j [] = ts.getD j [] by simp [List.getD_eq_getElem?_getD, List.getElem?_append_left hlt]]
        exact hkeep hg q2 q3
      · rcases hv with hv | hv
        · rw [hv]; exact q3 h0 p hp
        · obtain ⟨x, o, he, hx, _⟩ := q2.at_ h0
          rw [hp] at he
          cases he
          rw [hv]
          intro e
          have := Option.some.inj e
          simp only at this
          omega
    · obtain ⟨a', l', c', q1, q2, q3, _⟩ := hnews (j - ts.length) (by omega)
      refine ⟨a', l', c', by rw [List.getElem?_append_right (by omega), hxl]; exact q1, ?_, fun h0 p hp e => ?_⟩
      · rw [show (ts ++ us).getD j [] = us.getD (j - ts.length) [] by simp [List.getD_eq_getElem?_getD, List.getElem?_append_right hge]]
        exact hkeep hg q2 fun h0 p hp e => by
          have h3 := q3 h0 p hp
          have h4 := (h1.lt _ e).1
          omega
      · have h3 := q3 h0 p hp
        have h4 := (hr.lt _ e).1
        omega
  cases a with
  | none =>
    have h0 : len = 0 := by
      rcases Nat.eq_zero_or_pos len with h | h
      · exact h
      · obtain ⟨_, _, _, _, _, _, x, o, ha, _⟩ := hnews 0 h
        cases ha
    subst h0
    have hn0 : news = [] := List.eq_nil_of_length_eq_zero hnl
    have hg : w.grownBy w v.ownBlock := ⟨rfl, rfl, rfl, Nat.le_refl _, fun _ _ _ => rfl⟩
    exact ⟨v, w, run_append_none1 ty ht hi h1 _, hres hg (by rw [hn0, List.append_nil]; exact h1) (.inl rfl), hbel hg⟩
  | some ad =>
    obtain ⟨v', w', r1, r2, r3, _, r5⟩ := run_append_own_at w base t ty e i (.slice none 0 0) 1 24 ht hi hz hsize hby rfl (by decide) v _ _ h1 ad len cap news (by omega)
      (fun j u hj => by
        have hjl : j < len := by rw [← hnl]; exact (List.getElem?_eq_some_iff.1 hj).1
        obtain ⟨a', l, c, q1, _, _, x, o, ha, q2⟩ := hnews j hjl
        cases ha
        rw [Addr.add_mid, q2, ← hj, q1])
      (fun u hu => by
        obtain ⟨j, hj, rfl⟩ := List.getElem_of_mem hu
        obtain ⟨a', l, c, q1, _⟩ := hnews j (by omega)
        rw [List.getElem?_eq_getElem hj, Option.some.injEq] at q1
        rw [q1]
        rfl) (by unfold maxLen; omega) (by omega) hbase
    exact ⟨v', w', r1, hres r3 r2 r5, hbel r3⟩

set_option maxRecDepth 100000 in
theorem wpList_append_texts_m {ops : Array Oper} {rest : List Oper} {o : Oper} {A : Act} {Q : Exit → Act → World → Prop} (hgd : o.guard = none) (s x : Operand) (ho : o.op = .call { callee := .builtin .append, args := #[s, x], argTypes := #[t, t] })
    (ht : P.underlying t = some (.slice e)) (hi : P.info? e = some i) (hz : i.zero = some (.slice none 0 0)) (hsize : i.size = 1) (hby : i.bytes = 24) (hs : A.eval s = v) (hown : OwnM w base e v ts)
    {w0 : World} {a : Option Addr} {len cap : Nat} (hx : A.eval x = .slice a len cap) (hT : TextsAt w0 a len cap us) (hb0 : Below w0.heap.size w0 w) (hle : w0.heap.size ≤ base) (hb : ts.length + len ≤ 5000000000000) (hbase : base ≤ w.heap.size)
    (h : ∀ v' w', OwnM w' base e v' (ts ++ us) → Below base w w' → wpList P ops Q rest (A.put o.dst v') w') : wpList P ops Q (o :: rest) A w :=
  wpList_plain hgd fun K hK => by
    obtain ⟨v', w', hr, h2, h3⟩ := run_append_texts_m o.type ht hi hz hsize hby hown hT hb0 hle hb hbase
    unfold Oper.wp execOp
    simp only [ho, resolve, invoke, builtin, Sem.run_bind, Sem.run_pure, Result.andThen_ok, List.map_toArray, List.map_cons, List.map_nil, hs, hx, hr, Oper.upon_value]
    exact hK _ _ (h v' w' h2 h3)
end
end Go.Proofs.YthaicocfbmpnmaaDoor

namespace Go.Proofs.YthaicocfbmpnmaaDoor
open Go.ChangeShapes Go.WideShapes Go.ChangeAt Go.RowKit

set_option maxRecDepth 100000 in
theorem strOfNums_inj {xs ys : List Int} (hx : ∀ x ∈ xs, 0 ≤ x ∧ x < 256) (hy : ∀ x ∈ ys, 0 ≤ x ∧ x < 256) : strOfNums xs = strOfNums ys ↔ xs = ys := by
  constructor
  · intro h
    have key : ∀ zs : List Int, (∀ x ∈ zs, 0 ≤ x ∧ x < 256) → ((strOfNums zs).data.toList.map fun u : UInt8 => (u.toNat : Int)) = zs := fun zs hz => by
      rw [strOfNums_data, List.map_map]
      conv => rhs; rw [← List.map_id zs]
      apply List.map_congr_left
      intro z hzm
      have := hz z hzm
      simp
      omega
    rw [← key xs hx, ← key ys hy, h]
  · rintro rfl; rfl
set_option maxRecDepth 100000 in
theorem eqStr {xs ys : List Int} (hx : ∀ x ∈ xs, 0 ≤ x ∧ x < 256) (hy : ∀ x ∈ ys, 0 ≤ x ∧ x < 256) (w : World) : (binOp .eql 9 (.string (strOfNums xs)) (.string (strOfNums ys))).run Tryd.prog w = .ok (.bool (decide (xs = ys))) w := by
  have h := strOfNums_inj hx hy
  by_cases e : xs = ys
  · subst e; simp [go_sem]
  · have : ¬ strOfNums xs = strOfNums ys := fun q => e (h.1 q)
    have : ¬ (strOfNums xs).toList = (strOfNums ys).toList := fun q => this (by
      rw [Lib.strOfNums_toList, Lib.strOfNums_toList] at q
      exact congrArg (fun l : List UInt8 => (⟨l.toArray⟩ : ByteArray)) q)
    simp [go_sem, e, this]
set_option maxRecDepth 100000 in
theorem conv_str {w : World} {a : Option Addr} {len cap : Nat} {bs : List Int} (h : TextAt w a len cap bs) : ∀ x : Ext w, (convert 67 9 (.slice a len cap)).run Tryd.prog x.at_ = .ok (.string (strOfNums bs)) x.at_ :=
  fun x => (h.below x.same).string Tryd.underlying67 Tryd.underlying5 Tryd.underlying9

set_option maxRecDepth 100000 in
theorem eqStrB {xs ys : List Int} (hx : ∀ x ∈ xs, 0 ≤ x ∧ x < 256) (hy : ∀ x ∈ ys, 0 ≤ x ∧ x < 256) : ((strOfNums xs).toList == (strOfNums ys).toList) = decide (xs = ys) := by
  by_cases e : xs = ys
  · subst e; simp
  · have h : ¬ (strOfNums xs).toList = (strOfNums ys).toList := fun q => e ((strOfNums_inj hx hy).1 (by
      rw [Lib.strOfNums_toList, Lib.strOfNums_toList] at q
      exact congrArg (fun l : List UInt8 => (⟨l.toArray⟩ : ByteArray)) q))
    simp [e, h]
set_option maxRecDepth 100000 in
theorem digest_get {xs : List Int} (hx : xs.length = 32) (j : Nat) (hj : j < 32) (v : Int) (hv : xs.getD j 0 = v) : ((xs.map (Value.int .u8)).toArray)[j]? = some (.int .u8 v) := by
  subst hv
  simp [show j < xs.length by omega]

end Go.Proofs.YthaicocfbmpnmaaDoor
