/-
  Put together, as far as wanted: JMDig JMMac JNMacRef JMAdrs JMKeyed JMKeyedRef JMChain JMFrame JMDigits JNDigs.
-/
import Derived.Test.YtpinamdgbijjlaaGreatDoorPD2
namespace Go.Proofs.YtpinamdgbijjlaaGreatDoor
set_option maxRecDepth 100000
open Go.ChangeShapes Go.WideShapes Go.ChangeAt Go.RowKit
/-- the size of a digest's cells -/
theorem dsize {xs : List Int} (hx : xs.length = 32) : ((xs.map (Value.int .u8)).toArray).size = 32 := by simp [hx]
theorem zsize : (byteCells 32 []).size = 32 := byteCells_size 32 [] (by simp)
/-- texts, whose values lie in a block -/
theorem TextsAt.of_blk {w : World} {g n cap : Nat} {T : TypeId} {vs : Array Value} {ts : List (List Int)} (h : Blk w g vs T) (hl : ts.length = n) (hc : n ≤ cap) (hm : cap ≤ 9223372036854775807) (hv : ∀ j, j < n → ∃ a l c, vs[j]? = some (.slice a l c) ∧ TextAt w a l c (ts.getD j [])) : TextsAt w (some ⟨g, 0, none⟩) n cap ts :=
  ⟨hl, hc, hm, .inr ⟨g, 0, rfl, h.lt, fun j hj => by
    obtain ⟨a, l, c, h1, h2⟩ := hv j hj
    exact ⟨a, l, c, by rw [Nat.zero_add, h.cell]; exact h1, h2⟩⟩⟩
end Go.Proofs.YtpinamdgbijjlaaGreatDoor
namespace Go.Proofs.YtpinamdgbijjlaaGreatDoor
set_option maxRecDepth 100000
open Go.ChangeShapes Go.WideShapes Go.ChangeAt Go.RowKit
def xorZ (x y : Int) : Int := ((x.toNat ^^^ y.toNat : Nat) : Int)
theorem xorZ_small {x y : Int} (hx : 0 ≤ x ∧ x < 256) (hy : 0 ≤ y ∧ y < 256) : 0 ≤ xorZ x y ∧ xorZ x y < 256 := by
  have := Nat.xor_lt_two_pow (n := 8) (show x.toNat < 2 ^ 8 by omega) (show y.toNat < 2 ^ 8 by omega)
  unfold xorZ
  omega
theorem bits_xorZ {x y : Int} (hx : 0 ≤ x ∧ x < 256) (hy : 0 ≤ y ∧ y < 256) : bits .xor .u8 x y = xorZ x y := u8_xor x y hx.1 hx.2 hy.1 hy.2
@[irreducible] def blockZ (key : List Int) : List Int := if 64 < key.length then sumZ key ++ List.replicate 32 0 else key ++ List.replicate (64 - key.length) 0
def maskZ (b : List Int) (m : Int) : List Int := b.map fun x => xorZ x m
@[irreducible] def macZ (key text : List Int) : List Int := sumZ (maskZ (blockZ key) 92 ++ sumZ (maskZ (blockZ key) 54 ++ text))
theorem blockZ_length (key : List Int) : (blockZ key).length = 64 := by
  unfold blockZ
  split
  · simp [sumZ_length]
  · simp; omega
theorem blockZ_small {key : List Int} (h : ∀ x ∈ key, 0 ≤ x ∧ x < 256) : ∀ x ∈ blockZ key, 0 ≤ x ∧ x < 256 := by
  unfold blockZ
  intro x hx
  split at hx
  · rcases List.mem_append.1 hx with h1 | h1
    · exact sumZ_small _ x h1
    · have := List.eq_of_mem_replicate h1; omega
  · rcases List.mem_append.1 hx with h1 | h1
    · exact h x h1
    · have := List.eq_of_mem_replicate h1; omega
theorem maskZ_small {b : List Int} {m : Int} (h : ∀ x ∈ b, 0 ≤ x ∧ x < 256) (hm : 0 ≤ m ∧ m < 256) : ∀ x ∈ maskZ b m, 0 ≤ x ∧ x < 256 := by
  unfold maskZ
  intro x hx
  obtain ⟨y, hy, rfl⟩ := List.mem_map.1 hx
  exact xorZ_small (h y hy) hm
theorem maskZ_length (b : List Int) (m : Int) : (maskZ b m).length = b.length := by simp [maskZ]
theorem macZ_length (key text : List Int) : (macZ key text).length = 32 := by unfold macZ; exact sumZ_length _
theorem macZ_small (key text : List Int) : ∀ x ∈ macZ key text, 0 ≤ x ∧ x < 256 := by unfold macZ; exact sumZ_small _
theorem byteCells_pad (n : Nat) (bs : List Int) : byteCells n bs = ((bs ++ List.replicate (n - bs.length) 0).map (Value.int .u8)).toArray := by simp [byteCells]
/-- a text is written to the front of bytes that were 0 -/
theorem Blk.front {w : World} {b n : Nat} {T : TypeId} (h : Blk w b (byteCells n []) T) (bs : List Int) (hl : bs.length ≤ n) : Blk (w.setCells b 0 (bs.map (Value.int .u8))) b (byteCells n bs) T := by
  have h0 : Blk w b (([] : List Value) ++ (List.replicate n (Value.int .u8 0) ++ [])).toArray T := by simpa [byteCells] using h
  have h1 := Blk.setCells [] (List.replicate n (Value.int .u8 0)) [] 0 (bs.map (Value.int .u8)) h0 (by simp; omega)
  have e : (([] : List Value) ++ (splice (List.replicate n (Value.int .u8 0)) 0 (bs.map (Value.int .u8)) ++ [])).toArray = byteCells n bs := by
    simp [splice, byteCells]
  rw [e] at h1
  exact h1
theorem wpList_copy_front {P : Program} {ops : Array Oper} {rest : List Oper} {op : Oper} {act : Act} {w : World} {Q : Exit → Act → World → Prop} (hgd : op.guard = none) (d s : Operand) (dT sT : TypeId)
    (ho : op.op = .call { callee := .builtin .copy, args := #[d, s], argTypes := #[dT, sT] }) (elem : TypeId) (hu : P.underlying dT = some (.slice elem)) (hs : (P.info? elem).map (·.size) = some 1)
    (b N : Nat) (hd : act.eval d = .slice (some ⟨b, 0, none⟩) N N) (a : Option Addr) (len cap : Nat) (hse : act.eval s = .slice a len cap) (T : TypeId) (hk : Blk w b (byteCells N []) T) (t : List Int) (hT : TextAt w a len cap t) (hfit : len ≤ N)
    (h : ∀ w', But b w w' → Blk w' b (byteCells N t) T → wpList P ops Q rest (act.put op.dst (.int .i64 (len : Nat))) w') : wpList P ops Q (op :: rest) act w := by
  have hl := hT.length
  refine wpList_copy_text hgd d s dT sT ho elem hu hs b 0 N N hd a len cap hse (byteCells N []) T hk t hT (by rw [byteCells_size N [] (by simp)]; omega) len (Nat.min_eq_left hfit).symm ?_
  rw [List.take_of_length_le (by omega)]
  exact h _ (But.setCells _ _ _ (But.of (Below.refl _ _))) (hk.front t (by omega))
/-- a slice of texts that is the call's own; the texts lie in older blocks -/
def OwnL (w : World) (base : Nat) (e : TypeId) (v : Value) (ts : List (List Int)) : Prop :=
  ∃ xs, w.ownsRow base e 1 v ts.length xs ∧ ∀ j, j < ts.length → ∃ a l c, xs[j]? = some (.slice a l c) ∧ TextAt w a l c (ts.getD j []) ∧ (0 < l → ∀ p : Addr, a = some p → p.block < base)
theorem OwnL.of_blk {w : World} {base g n : Nat} {e : TypeId} {vs : List Value} {ts : List (List Int)} (h : Blk w g vs.toArray e) (hg : base ≤ g) (hl : vs.length = n) (ht : ts.length = n) (hm : n ≤ 9223372036854775807)
    (hv : ∀ j, j < n → ∃ a l c, vs[j]? = some (.slice a l c) ∧ TextAt w a l c (ts.getD j []) ∧ (0 < l → ∀ p : Addr, a = some p → p.block < base)) : OwnL w base e (.slice (some ⟨g, 0, none⟩) n n) ts := by
  subst ht
  refine ⟨vs, ⟨by omega, .inr ⟨g, _, _, rfl, hg, h, Nat.le_refl _, by unfold maxLen; omega, by simp [hl], ?_⟩⟩, hv⟩
  simp
  exact List.take_of_length_le (by omega)
theorem OwnL.texts {w : World} {base : Nat} {e : TypeId} {v : Value} {ts : List (List Int)} (h : OwnL w base e v ts) : ∃ a cap, v = .slice a ts.length cap ∧ TextsAt w a ts.length cap ts := by
  obtain ⟨xs, ⟨h1, ⟨rfl, h2⟩ | ⟨g, cap, cur, rfl, hg, hh, hle, hmx, hsz, htk⟩⟩, h3⟩ := h
  · exact ⟨none, 0, by rw [h2], rfl, by omega, by omega, .inl h2⟩
  · refine ⟨_, cap, rfl, rfl, hle, by unfold maxLen at hmx; omega, .inr ⟨g, 0, rfl, (Array.getElem?_eq_some_iff.1 hh).1, fun j hj => ?_⟩⟩
    obtain ⟨a, l, c, q1, q2, _⟩ := h3 j hj
    refine ⟨a, l, c, ?_, q2⟩
    rw [Nat.zero_add, (show Blk w g cur e from hh).cell]
    rw [← htk, List.getElem?_take, if_pos (by omega)] at q1
    simpa using q1
section
variable {P : Program} {w : World} {base : Nat} {t e : TypeId} {i : TypeInfo} {v : Value} {ts us : List (List Int)}
theorem run_append_none1 {n : Nat} {xs : List Value} (ty : TypeId) (ht : P.underlying t = some (.slice e)) (hi : P.info? e = some i) (hown : w.ownsRow base e 1 v n xs) (c : Nat) :
    (Builtin.append_ #[t, t] ty #[v, .slice none 0 c]).run P w = .ok v w := by
  rcases hown.2 with ⟨rfl, rfl⟩ | ⟨g, cap, cur, rfl, _, _, hnc, _⟩
  · simp [Builtin.append_, run_underlying ht, sizeOf, typeInfo, hi, Builtin.lenOf, Builtin.firstCells]
  · simp [Builtin.append_, run_underlying ht, sizeOf, typeInfo, hi, Builtin.lenOf, Builtin.firstCells, hnc, storeCells]
theorem run_append_texts (ty : TypeId) (ht : P.underlying t = some (.slice e)) (hi : P.info? e = some i) (hz : i.zero = some (.slice none 0 0)) (hsize : i.size = 1) (hby : i.bytes = 24) (hown : OwnL w base e v ts)
    {w0 : World} {a : Option Addr} {len cap : Nat} (hT : TextsAt w0 a len cap us) (hb0 : Below w0.heap.size w0 w) (hle : w0.heap.size ≤ base) (hb : ts.length + len ≤ 5000000000000) (hbase : base ≤ w.heap.size) :
    ∃ v' w', (Builtin.append_ #[t, t] ty #[v, .slice a len cap]).run P w = .ok v' w' ∧ OwnL w' base e v' (ts ++ us) ∧ Below base w w' := by
  obtain ⟨xs, h1, h2⟩ := hown
  have hbel : ∀ {w' : World}, w.grownBy w' v.ownBlock → Below base w w' := fun hg => ⟨hg.os, hg.tape, hg.output, hg.size, fun k hk => hg.block k (by omega) (fun e => by have := (h1.lt k e.symm).1; omega)⟩
  have hlu := hT.length
  have hxl : xs.length = ts.length := by have := h1.1; omega
  have hkeep : ∀ {w' : World} {a : Option Addr} {l c : Nat} {y : List Int}, Below base w w' → TextAt w a l c y → (0 < l → ∀ p : Addr, a = some p → p.block < base) → TextAt w' a l c y := by
    intro w' a l c y hb hy hp
    obtain ⟨q1, q2, q3, q4, h | ⟨x, o, s, rfl, hc⟩⟩ := hy
    · exact ⟨q1, q2, q3, q4, .inl h⟩
    · refine ⟨q1, q2, q3, q4, .inr ⟨x, o, s, rfl, fun j hj => ?_⟩⟩
      obtain ⟨k0, k1, k2⟩ := hc j hj
      exact ⟨k0, Nat.lt_of_lt_of_le k1 hb.size, (hb.cell (p := ⟨x, o + j, none⟩) (hp (by omega) ⟨x, o, s⟩ rfl)).trans k2⟩
  -- the new cells
  obtain ⟨news, hnl, hnews⟩ : ∃ news : List Value, news.length = len ∧ ∀ j, j < len → ∃ a' l c, news[j]? = some (.slice a' l c) ∧ TextAt w a' l c (us.getD j []) ∧ (0 < l → ∀ p : Addr, a' = some p → p.block < base) ∧ ∃ x o, a = some ⟨x, o, none⟩ ∧ w.cell? ⟨x, o + j, none⟩ = some (.slice a' l c) := by
    have key : ∀ j, j < len → ∃ a' l c, TextAt w a' l c (us.getD j []) ∧ (0 < l → ∀ p : Addr, a' = some p → p.block < base) ∧ ∃ x o, a = some ⟨x, o, none⟩ ∧ w.cell? ⟨x, o + j, none⟩ = some (.slice a' l c) := fun j hj => by
      obtain ⟨x, o, a', l', c', ha, hx, hc, hT'⟩ := hT.at_ j hj
      refine ⟨a', l', c', hT'.below hb0, fun h0 p hp => ?_, x, o, ha, (hb0.cell (p := ⟨x, o + j, none⟩) hx).trans hc⟩
      obtain ⟨x', o', he, hx', _⟩ := hT'.at_ h0
      rw [hp] at he
      cases he
      show x' < base
      omega
    refine ⟨(List.range len).map fun j => if h : j < len then .slice (key j h).choose (key j h).choose_spec.choose (key j h).choose_spec.choose_spec.choose else undef, by simp, fun j hj => ?_⟩
    refine ⟨(key j hj).choose, (key j hj).choose_spec.choose, (key j hj).choose_spec.choose_spec.choose, ?_, (key j hj).choose_spec.choose_spec.choose_spec⟩
    simp [hj]
  have hres : ∀ {w' : World} {v' : Value}, Below base w w' → w'.ownsRow base e 1 v' (ts.length + len) (xs ++ news) → OwnL w' base e v' (ts ++ us) := by
    intro w' v' hb hr
    refine ⟨xs ++ news, by rw [List.length_append, hlu]; exact hr, fun j hj => ?_⟩
    rw [List.length_append] at hj
    rcases Nat.lt_or_ge j ts.length with hlt | hge
    · obtain ⟨a', l', c', q1, q2, q3⟩ := h2 j hlt
      refine ⟨a', l', c', by rw [List.getElem?_append_left (by omega)]; exact q1, ?_, q3⟩
      rw [show (ts ++ us).getD j [] = ts.getD j [] by simp [List.getD_eq_getElem?_getD, List.getElem?_append_left hlt]]
      exact hkeep hb q2 q3
    · obtain ⟨a', l', c', q1, q2, q3, _⟩ := hnews (j - ts.length) (by omega)
      refine ⟨a', l', c', by rw [List.getElem?_append_right (by omega), hxl]; exact q1, ?_, q3⟩
      rw [show (ts ++ us).getD j [] = us.getD (j - ts.length) [] by simp [List.getD_eq_getElem?_getD, List.getElem?_append_right hge]]
      exact hkeep hb q2 q3
  cases a with
  | none =>
    have h0 : len = 0 := by
      rcases Nat.eq_zero_or_pos len with h | h
      · exact h
      · obtain ⟨_, _, _, _, _, _, x, o, ha, _⟩ := hnews 0 h
        cases ha
    subst h0
    have hn0 : news = [] := List.eq_nil_of_length_eq_zero hnl
    have hg : w.grownBy w v.ownBlock := ⟨rfl, rfl, rfl, Nat.le_refl _, fun _ _ _ => rfl⟩
    exact ⟨v, w, run_append_none1 ty ht hi h1 _, hres (hbel hg) (by rw [hn0, List.append_nil]; exact h1), hbel hg⟩
  | some ad =>
    obtain ⟨v', w', r1, r2, r3, _⟩ := run_append_own w base t ty e i (.slice none 0 0) 1 24 ht hi hz hsize hby rfl (by decide) v _ _ h1 ad len cap news (by omega)
      (fun j u hj => by
        have hjl : j < len := by rw [← hnl]; exact (List.getElem?_eq_some_iff.1 hj).1
        obtain ⟨a', l, c, q1, _, _, x, o, ha, q2⟩ := hnews j hjl
        cases ha
        rw [Addr.add_mid, q2, ← hj, q1])
      (fun u hu => by
        obtain ⟨j, hj, rfl⟩ := List.getElem_of_mem hu
        obtain ⟨a', l, c, q1, _⟩ := hnews j (by omega)
        rw [List.getElem?_eq_getElem hj, Option.some.injEq] at q1
        rw [q1]
        rfl) (by unfold maxLen; omega) (by omega) hbase
    exact ⟨v', w', r1, hres (hbel r3) r2, hbel r3⟩
theorem wpList_append_texts {ops : Array Oper} {rest : List Oper} {o : Oper} {A : Act} {Q : Exit → Act → World → Prop} (hgd : o.guard = none) (s x : Operand) (ho : o.op = .call { callee := .builtin .append, args := #[s, x], argTypes := #[t, t] })
    (ht : P.underlying t = some (.slice e)) (hi : P.info? e = some i) (hz : i.zero = some (.slice none 0 0)) (hsize : i.size = 1) (hby : i.bytes = 24) (hs : A.eval s = v) (hown : OwnL w base e v ts)
    {w0 : World} {a : Option Addr} {len cap : Nat} (hx : A.eval x = .slice a len cap) (hT : TextsAt w0 a len cap us) (hb0 : Below w0.heap.size w0 w) (hle : w0.heap.size ≤ base) (hb : ts.length + len ≤ 5000000000000) (hbase : base ≤ w.heap.size)
    (h : ∀ v' w', OwnL w' base e v' (ts ++ us) → Below base w w' → wpList P ops Q rest (A.put o.dst v') w') : wpList P ops Q (o :: rest) A w :=
  wpList_plain hgd fun K hK => by
    obtain ⟨v', w', hr, h2, h3⟩ := run_append_texts o.type ht hi hz hsize hby hown hT hb0 hle hb hbase
    unfold Oper.wp execOp
    simp only [ho, resolve, invoke, builtin, Sem.run_bind, Sem.run_pure, Result.andThen_ok, List.map_toArray, List.map_cons, List.map_nil, hs, hx, hr, Oper.upon_value]
    exact hK _ _ (h v' w' h2 h3)
end
end Go.Proofs.YtpinamdgbijjlaaGreatDoor
namespace Go.Proofs.YtpinamdgbijjlaaGreatDoor
set_option maxRecDepth 100000
open Go.ChangeShapes Go.WideShapes Go.ChangeAt Go.RowKit
theorem Blk.apart {w : World} {b c : Nat} {cs ds : Array Value} {T U : TypeId} (h : Blk w b cs T) (k : Blk w c ds U) (hne : T ≠ U) : b ≠ c := fun e => by
  subst e
  unfold Blk at h k
  rw [h] at k
  injection k with k
  injection k with _ k _
  exact hne k
/-- a slice of texts that is the call's own; the texts lie in other blocks -/
def OwnM (w : World) (base : Nat) (e : TypeId) (v : Value) (ts : List (List Int)) : Prop :=
  ∃ xs, w.ownsRow base e 1 v ts.length xs ∧ ∀ j, j < ts.length → ∃ a l c, xs[j]? = some (.slice a l c) ∧ TextAt w a l c (ts.getD j []) ∧ (0 < l → ∀ p : Addr, a = some p → v.ownBlock ≠ some p.block)
section
variable {P : Program} {w : World} {base : Nat} {t e : TypeId} {i : TypeInfo} {v : Value} {ts us : List (List Int)}
end
end Go.Proofs.YtpinamdgbijjlaaGreatDoor
namespace Go.Proofs.YtpinamdgbijjlaaGreatDoor
set_option maxRecDepth 100000
open Go.ChangeShapes Go.WideShapes Go.ChangeAt Go.RowKit
theorem digest_get {xs : List Int} (hx : xs.length = 32) (j : Nat) (hj : j < 32) (v : Int) (hv : xs.getD j 0 = v) : ((xs.map (Value.int .u8)).toArray)[j]? = some (.int .u8 v) := by
  subst hv
  simp [show j < xs.length by omega]
end Go.Proofs.YtpinamdgbijjlaaGreatDoor
namespace Go.Proofs.YtpinamdgbijjlaaGreatDoor
set_option maxRecDepth 100000
open Go.ChangeShapes Go.WideShapes Go.ChangeAt Go.RowKit
theorem size_64 : (Tryz.prog.info? 155).map (·.size) = some 64 := by kernel_rfl
theorem zsize64 : (byteCells 64 []).size = 64 := byteCells_size 64 [] (by simp)
set_option maxHeartbeats 2000000 in
theorem blockOf_short (a : Option Addr) (len cap : Nat) (key : List Int) (w : World) (hT : TextAt w a len cap key) (hn : len ≤ 64) :
    Calls Tryz.prog 70 #[.slice a len cap] w fun e w' => e = .returned (.agg ((blockZ key).map (Value.int .u8)).toArray) ∧ Below w.heap.size w w' := by
  have hl := hT.length
  have hle := hT.le
  have hm := hT.max
  have hB : byteCells 64 key = ((blockZ key).map (Value.int .u8)).toArray := by
    unfold blockZ
    rw [if_neg (by omega), byteCells_pad]
  have b1 := (Below.refl w.heap.size w).alloc (Nat.le_refl _) (.cells (byteCells 64 []) 155 (0, 0))
  have b2 := b1.alloc b1.size (.cells (byteCells 64 []) 155 (0, 0))
  have k1 := (Blk.new (w := w) rfl (byteCells 64 []) 155).old (.cells (byteCells 64 []) 155 (0, 0))
  have k2 : Blk ((w.alloc (.cells (byteCells 64 []) 155 (0, 0))).alloc (.cells (byteCells 64 []) 155 (0, 0))) (w.heap.size + 1) (byteCells 64 []) 155 := Blk.new (by rw [World.size_alloc]) _ _
  have HT2 := hid (hT.below b2)
  have Hb2 := hid b2
  have Hk1 := hid k1
  have Hk2 := hid k2
  have HB := hid hB
  have Hl := hid hl
  have Hs := hid (byteCells_size 64 key (by omega))
  have Hz := hid zsize64
  have Hmin : Hid (len = Nat.min len 64) := hid (Nat.min_eq_left hn).symm
  have H1 : Hid ((byteCells 64 key).all (·.oneCell') = true) := hid (by rw [hB]; exact ints_one _ _)
  clear hT b1 b2 k1 k2 hB hl
  go_enter Tryz.func70, Tryz.ntmps70
  go_wp2_with (first | (refine wpList_copy_front rfl _ _ _ _ rfl 5 Tryz.underlying56 size_byte8 (w.heap.size + 1) 64 rfl a len cap rfl 155 Hk2.out _ HT2.out hn ?_; intro w3 b3 k3; have Hk3 := hid k3; have Hr3 := hid (b3.blk Hk1.out (by omega)); have Hb3 := hid (b3.below Hb2.out Hb2.out.size (by omega)); clear b3 k3) | (refine wpList_load_blk rfl 155 _ rfl (w.heap.size + 1) rfl (byteCells 64 key) 155 Hk3.out _ Tryz.underlying155 rfl 64 size_64 Hs.out ?_) | (refine wpList_store_blk rfl 155 _ _ rfl w.heap.size _ rfl rfl _ 155 Hr3.out 64 size_64 Hz.out Hs.out H1.out ?_; intro w6 hbut6 hk6))
  rw [← HB.out]
  exact bodyPost_ret (v := .agg (byteCells 64 key)) (results_blk Tryz.results70 _ w.heap.size rfl _ 155 hk6 _ Tryz.underlying155 rfl 64 size_64 Hs.out) rfl ⟨rfl, hbut6.below Hb3.out Hb3.out.size (Nat.le_refl _)⟩
set_option maxHeartbeats 2000000 in
theorem blockOf_long (a : Option Addr) (len cap : Nat) (key : List Int) (w : World) (hT : TextAt w a len cap key) (hn : 64 < len) (hbnd : len < 1152921504606846976) (tab : ShaTab w) :
    Calls Tryz.prog 70 #[.slice a len cap] w fun e w' => e = .returned (.agg ((blockZ key).map (Value.int .u8)).toArray) ∧ Below w.heap.size w w' := by
  have hl := hT.length
  have hle := hT.le
  have hm := hT.max
  have hB : byteCells 64 (sumZ key) = ((blockZ key).map (Value.int .u8)).toArray := by
    unfold blockZ
    rw [if_pos (by omega), byteCells_pad, sumZ_length]
  have b1 := (Below.refl w.heap.size w).alloc (Nat.le_refl _) (.cells (byteCells 64 []) 155 (0, 0))
  have b2 := b1.alloc b1.size (.cells (byteCells 64 []) 155 (0, 0))
  have k1 := (Blk.new (w := w) rfl (byteCells 64 []) 155).old (.cells (byteCells 64 []) 155 (0, 0))
  have k2 : Blk ((w.alloc (.cells (byteCells 64 []) 155 (0, 0))).alloc (.cells (byteCells 64 []) 155 (0, 0))) (w.heap.size + 1) (byteCells 64 []) 155 := Blk.new (by rw [World.size_alloc]) _ _
  have b3 := b2.alloc b2.size (.cells #[.slice a len cap] 56 (0, 0))
  have k13 := k1.old (.cells #[.slice a len cap] 56 (0, 0))
  have k23 := k2.old (.cells #[.slice a len cap] 56 (0, 0))
  have hT3 := hT.below b3
  have hTs : TextsAt (((w.alloc (.cells (byteCells 64 []) 155 (0, 0))).alloc (.cells (byteCells 64 []) 155 (0, 0))).alloc (.cells #[.slice a len cap] 56 (0, 0))) (some ⟨w.heap.size + 2, 0, none⟩) 1 1 [key] :=
    TextsAt.of_blk (Blk.new (by rw [World.size_alloc, World.size_alloc]) _ _) rfl (Nat.le_refl _) (by omega) fun j hj => by
      obtain rfl : j = 0 := by omega
      exact ⟨_, _, _, rfl, hT3⟩
  have HTs := hid hTs
  have Hb3 := hid b3
  have Hk1 := hid k13
  have Hk2 := hid k23
  have HB := hid hB
  have Hl := hid hl
  have Htab := hid tab
  have Hs := hid (byteCells_size 64 (sumZ key) (by rw [sumZ_length]; omega))
  have Hz := hid zsize64
  have H1 : Hid ((byteCells 64 (sumZ key)).all (·.oneCell') = true) := hid (by rw [hB]; exact ints_one _ _)
  have HzA := hid zsize
  have Hl2 := hid (sumZ_length key)
  have HSs := hid (sumZ_small key)
  clear hT b1 b2 b3 k1 k2 k13 k23 hB hl hT3 hTs tab
  go_enter Tryz.func70, Tryz.ntmps70
  go_wp2_with fail
  refine (sum_any _ 1 1 [key] _ HTs.out (by simp only [sumLen, List.map_cons, List.map_nil, List.sum_cons, List.sum_nil]; have := Hl.out; omega) (Htab.out.below Hb3.out)).mono ?_
  rintro e w4 ⟨rfl, b4⟩
  rw [show ([key] : List (List Int)).flatten = key by simp]
  have Hb4 := hid (Below.on Hb3.out b4)
  have Hk14 := hid (Hk1.out.below b4)
  have Hk24 := hid (Hk2.out.below b4)
  have hz4 := Hb4.out.size
  have hlt2 := Hk24.out.lt
  clear b4 Hk1 Hk2 HTs Hb3
  generalize sumZ key = S at *
  go_wp2_with (
    refine wpList_store_blk rfl 25 _ _ rfl w4.heap.size _ rfl rfl _ 25 (Blk.new rfl (byteCells 32 []) _) 32 size_digest HzA.out (dsize Hl2.out) (ints_one _ _) ?_
    intro w5 b5 k5
    have Hb5 := hid (b5.below (Hb4.out.alloc hz4 _) (by rw [World.size_alloc]; omega) hz4)
    have Hk15 := hid (b5.blk (Hk14.out.old _) (by omega))
    have Hk25 := hid (b5.blk (Hk24.out.old _) (by omega))
    have Hk5 := hid k5
    clear b5 k5 Hk14 Hk24)
  simp only [Act.put]
  refine wp_region_flow 2 [0, 1] [] [] (by kernel_rfl) (by kernel_rfl) ?_
  apply Exists.intro
  refine ⟨fun w0 hb0 hF0 => ?_, ?_⟩
  · simp only [pick, List.getElem?_toArray, List.getElem?_cons_succ, List.getElem?_cons_zero, Option.toList_some, List.cons_append, List.nil_append]
    repeat (go_big_quiet_step (fail))
    exact wpQuiet_nil rfl
  refine AlChk.nil ?_
  refine Walk.fin fun w6 h6 _ _ => ?_
  simp only [List.drop_succ_cons, List.drop_zero]
  have Hb6 := hid (Below.on Hb5.out h6)
  have Hk16 := hid (Hk15.out.below h6)
  have Hk26 := hid (Hk25.out.below h6)
  have HT6 := hid (TextAt.of_ints (Hk5.out.below h6) Hl2.out (by omega) HSs.out)
  clear h6 Hb5 Hk15 Hk25 Hk5
  go_wp2_with (first | (refine wpList_copy_front rfl _ _ _ _ rfl 5 Tryz.underlying56 size_byte8 (w.heap.size + 1) 64 rfl _ 32 32 rfl 155 Hk26.out _ HT6.out (by omega) ?_; intro w7 b7 k7; have Hk7 := hid k7; have Hr7 := hid (b7.blk Hk16.out (by omega)); have Hb7 := hid (b7.below Hb6.out Hb6.out.size (by omega)); clear b7 k7) | (refine wpList_load_blk rfl 155 _ rfl (w.heap.size + 1) rfl (byteCells 64 S) 155 Hk7.out _ Tryz.underlying155 rfl 64 size_64 Hs.out ?_) | (refine wpList_store_blk rfl 155 _ _ rfl w.heap.size _ rfl rfl _ 155 Hr7.out 64 size_64 Hz.out Hs.out H1.out ?_; intro w8 hbut8 hk8))
  rw [← HB.out]
  exact bodyPost_ret (v := .agg (byteCells 64 S)) (results_blk Tryz.results70 _ w.heap.size rfl _ 155 hk8 _ Tryz.underlying155 rfl 64 size_64 Hs.out) rfl ⟨rfl, hbut8.below Hb7.out Hb7.out.size (Nat.le_refl _)⟩
theorem blockOf_any (a : Option Addr) (len cap : Nat) (key : List Int) (w : World) (hT : TextAt w a len cap key) (hbnd : len < 1152921504606846976) (tab : ShaTab w) :
    Calls Tryz.prog 70 #[.slice a len cap] w fun e w' => e = .returned (.agg ((blockZ key).map (Value.int .u8)).toArray) ∧ Below w.heap.size w w' := by
  by_cases hn : len ≤ 64
  · exact blockOf_short a len cap key w hT hn
  · exact blockOf_long a len cap key w hT (by omega) hbnd tab
set_option maxHeartbeats 2000000 in
theorem masked_any (bs : List Int) (m : Int) (w : World) (hbs : ∀ x ∈ bs, 0 ≤ x ∧ x < 256) (hl : bs.length = 64) (hm : 0 ≤ m ∧ m < 256) :
    Calls Tryz.prog 71 #[.agg (bs.map (Value.int .u8)).toArray, .int .u8 m] w fun e w' => ∃ g, e = .returned (.slice (some ⟨g, 0, none⟩) 64 64) ∧ w.heap.size ≤ g ∧ Blk w' g ((maskZ bs m).map (Value.int .u8)).toArray 5 ∧ Below w.heap.size w w' := by
  obtain ⟨i0, hi, hz0, hz1, hz2⟩ := info_parts info_byte
  have Hl := hid hl
  have Hs := hid (show ((bs.map (Value.int .u8)).toArray).size = 64 by simp [hl])
  have hg64 : ∀ k, k < 64 → ((maskZ bs m).take (k + 1)) = (maskZ bs m).take k ++ [xorZ (bs.getD k 0) m] := fun k hk => by
    have h1 : k < (maskZ bs m).length := by rw [maskZ_length]; omega
    rw [List.take_succ_eq_append_getElem h1]
    congr 2
    simp [maskZ, List.getD_eq_getElem?_getD, show k < bs.length by omega]
  have Hg := hid hg64
  have Hbs := hid hbs
  have Hm := hid hm
  clear hl hg64 hbs hm
  have Hb0 := hid ((Below.refl w.heap.size w).alloc (Nat.le_refl _) (Obj.cells (bs.map (Value.int .u8)).toArray 155))
  have Hk0 := hid (Blk.new (w := w) rfl (bs.map (Value.int .u8)).toArray 155)
  have hix : ∀ (k : Nat), k < 64 → ∀ W, (Instr.index 155 (.agg (bs.map (Value.int .u8)).toArray) (.int .i64 k)).run Tryz.prog W = .ok (.int .u8 (bs.getD k 0)) W := fun k hk W => run_index_ints (P := Tryz.prog) (e := 5) (n := 64) (by kernel_rfl) (by kernel_rfl) rfl rfl bs Hl.out k hk W
  have Hix := hid hix
  clear hix
  go_enter Tryz.func71, Tryz.ntmps71
  go_wp2_with (at_make; refine wpList_make_full _ rfl _ _ 56 rfl (w.heap.size + 1) 5 i0 (.int .u8 0) 1 Tryz.underlying56 hi hz0 hz1 _ _ _ _ 64 rfl rfl rfl rfl ?a3 ?a4 ?a5 ?_)
  case a3 => rw [hz2]; omega
  case a4 => unfold maxLen; omega
  case a5 => rw [World.size_alloc]; omega
  intro w3 hown hgrow
  obtain ⟨_, kB⟩ := blk_of_owns hown
  have e64 : (madeCells #[Value.int IntKind.u8 0] 64).toList.toArray = byteCells 64 [] := by kernel_rfl
  rw [e64] at kB
  have hB3 : Below (w.heap.size + 1) (w.alloc (Obj.cells (bs.map (Value.int .u8)).toArray 155)) w3 := ⟨hgrow.os, hgrow.tape, hgrow.output, hgrow.size, fun k hk => hgrow.block k (by rw [World.size_alloc]; omega) (by simp)⟩
  have Hk3 := hid (Hk0.out.belowB (by omega) hB3)
  have Hb3 := hid (Hb0.out.trans (hB3.mono (by omega)))
  have HkB := hid (show Blk w3 (w.heap.size + 1) (byteCells 64 []) 5 by simpa using kB)
  generalize hgl : w.heap.size + 1 = gl at *
  have hge : w.heap.size ≤ gl := by omega
  clear hown hgrow kB hB3 e64 Hb0 Hk0 hgl
  go_wp2_with (refine wpList_load_blk rfl 155 _ rfl w.heap.size rfl _ 155 Hk3.out _ Tryz.underlying155 rfl 64 size_64 Hs.out ?_)
  go_loopw [10] (fun v wr => ∃ k : Nat, k ≤ 64 ∧ v = .int .i64 k ∧ Blk wr gl (byteCells 64 ((maskZ bs m).take k)) 5 ∧ Below w.heap.size w wr) (fun v _ => 64 - (intOf v).toNat)
  case atStart => exact ⟨0, Nat.zero_le _, rfl, HkB.out, Hb3.out⟩
  case round =>
    clear HkB Hb3 Hk3
    obtain ⟨k, hk, rfl, kr, br⟩ := hrel
    by_cases hlt : k < 64
    · have hi := fun W => Hix.out k hlt W
      have hx : 0 ≤ bs.getD k 0 ∧ bs.getD k 0 < 256 := Hbs.out _ (by
        have := Hl.out
        rw [List.getD_eq_getElem?_getD, List.getElem?_eq_getElem (by omega)]
        exact List.getElem_mem _)
      have hb := bits_xorZ hx Hm.out
      have HG := hid (Hg.out k hlt)
      have hbl : ((maskZ bs m).take k).length = k := by rw [List.length_take, maskZ_length, Hl.out]; omega
      generalize (maskZ bs m).take k = L at *
      generalize bs.getD k 0 = x at *
      have hz : wr.cell? ⟨gl, k, none⟩ = some (.int .u8 0) := by rw [kr.cell]; exact byteCells_zero _ _ _ (by omega) (by omega)
      have fr := kr.free
      have Hkr := hid kr
      have Hbr := hid br
      have Hbl := hid hbl
      obtain ⟨hx0, hx1⟩ := hx
      clear kr br hbl
      go_wp2_with fail
      refine ⟨⟨k + 1, by omega, by go_num, ?_, Hbr.out.setCell (p := ⟨gl, k, none⟩) hge _⟩, by simp [intOf]; omega⟩
      have h1 := Hkr.out.set k (.int .u8 (xorZ x m))
      have h2 := byteCells_set 64 L (xorZ x m) (by have := Hbl.out; omega)
      rw [Hbl.out] at h2
      rw [h2, ← HG.out] at h1
      exact h1
    · have h64 : k = 64 := by omega
      have kf : Blk wr gl ((maskZ bs m).map (Value.int .u8)).toArray 5 := by
        rw [h64, List.take_of_length_le (by rw [maskZ_length, Hl.out]; omega), byteCells_full 64 _ (by rw [maskZ_length, Hl.out])] at kr
        exact kr
      have Hkf := hid kf
      have Hbr := hid br
      have H64 := hid h64
      clear kr br kf h64
      go_wp2_with fail
      go_ret
      exact ⟨gl, rfl, hge, Hkf.out, Hbr.out⟩
end Go.Proofs.YtpinamdgbijjlaaGreatDoor
namespace Go.Proofs.YtpinamdgbijjlaaGreatDoor
set_option maxRecDepth 100000
open Go.ChangeShapes Go.WideShapes Go.ChangeAt Go.RowKit
theorem info_text : (Tryz.prog.info? 56).map (fun i => (i.zero, i.size, i.bytes)) = some (some (.slice none 0 0), 1, 24) := by kernel_rfl
set_option maxHeartbeats 4000000 in
theorem code_any (ka : Option Addr) (kn kc : Nat) (key : List Int) (a : Option Addr) (len cap : Nat) (ts : List (List Int)) (w : World) (hK : TextAt w ka kn kc key) (hT : TextsAt w a len cap ts) (hkn : kn < 1152921504606846976) (hln : len ≤ 4000000000000) (hsl : sumLen ts < 1152921504606846000) (tab : ShaTab w) :
    Calls Tryz.prog 26 #[.slice ka kn kc, .slice a len cap] w fun e w' => e = .returned (.agg ((macZ key ts.flatten).map (Value.int .u8)).toArray) ∧ Below w.heap.size w w' := by
  have hks := hK.small
  have hbl := blockZ_length key
  have hbs := blockZ_small hks
  have HM : Hid (macZ key ts.flatten = sumZ (maskZ (blockZ key) 92 ++ sumZ (maskZ (blockZ key) 54 ++ ts.flatten))) := hid (by unfold macZ; rfl)
  have hfl := flatten_length ts
  have Hkr := hid (Blk.new (w := w) rfl (byteCells 32 []) 25)
  have Hb0 := hid ((Below.refl w.heap.size w).alloc (Nat.le_refl _) (.cells (byteCells 32 []) 25 (0, 0)))
  have HK := hid hK
  have HT := hid hT
  have Htab := hid tab
  have hle := hT.le
  have hmx := hT.max
  have Hfl := hid hfl
  have hl1 := hT.length
  have Hl1 := hid hl1
  clear hK hT tab hks hfl hl1
  have HbS := hid (And.intro hbl hbs)
  obtain ⟨i1, hi1, hz1, hs1, hy1⟩ := info_parts info_text
  have hks64 : (((blockZ key).map (Value.int .u8)).toArray).size = 64 := by simp [hbl]
  have Hs64 := hid hks64
  have Hz64 := hid zsize64
  have HzA := hid zsize
  clear hbl hbs hks64
  go_enter Tryz.func26, Tryz.ntmps26
  go_wp2_with fail
  refine (blockOf_any ka kn kc key _ (HK.out.below Hb0.out) hkn (Htab.out.below Hb0.out)).mono ?_
  rintro e w1 ⟨rfl, b1⟩
  have Hb1 := hid (Below.on Hb0.out b1)
  have Hkr1 := hid (Hkr.out.below b1)
  have hz1' := Hb1.out.size
  have hltr := Hkr1.out.lt
  clear b1 Hkr Hb0
  go_wp2_with (
    first
    | (refine wpList_store_blk rfl 155 _ _ rfl w1.heap.size _ rfl rfl _ 155 (Blk.new rfl (byteCells 64 []) _) 64 size_64 Hz64.out Hs64.out (ints_one _ _) ?_
       intro w2 b2 k2
       have Hb2 := hid (b2.below (Hb1.out.alloc hz1' _) (by rw [World.size_alloc]; omega) hz1')
       have Hk2 := hid k2
       have Hkr2 := hid (b2.blk (Hkr1.out.old _) (by omega))
       clear b2 k2 Hkr1)
    | (refine wpList_load_blk rfl 155 _ rfl w1.heap.size rfl _ 155 Hk2.out _ Tryz.underlying155 rfl 64 size_64 Hs64.out ?_))
  refine (masked_any (blockZ key) 54 w2 HbS.out.2 HbS.out.1 (by omega)).mono ?_
  rintro e w3 ⟨g3, rfl, hg3, k3, b3⟩
  have HT3 := hid (TextAt.of_ints k3 (by rw [maskZ_length, HbS.out.1]) (by omega) (maskZ_small HbS.out.2 (by omega)))
  have Hb3 := hid (Below.on Hb2.out b3)
  have Hk3 := hid (Hk2.out.below b3)
  have Hkr3 := hid (Hkr2.out.below b3)
  have hg3l := k3.lt
  have hz3 := Hb3.out.size
  have ba := (Below.refl w3.heap.size w3).alloc (Nat.le_refl _) (.cells #[.slice (some ⟨g3, 0, none⟩) 64 64] 56 (0, 0))
  have own : OwnL (w3.alloc (.cells #[.slice (some ⟨g3, 0, none⟩) 64 64] 56 (0, 0))) w3.heap.size 56 (.slice (some ⟨w3.heap.size, 0, none⟩) 1 1) [maskZ (blockZ key) 54] :=
    OwnL.of_blk (Blk.new rfl [Value.slice (some ⟨g3, 0, none⟩) 64 64].toArray 56) (Nat.le_refl _) rfl rfl (by omega) fun j hj => by
      obtain rfl : j = 0 := by omega
      exact ⟨_, _, _, rfl, HT3.out.below ba, fun _ p hp => by cases hp; exact hg3l⟩
  have Hown := hid own
  have Hb4 := hid (Hb3.out.alloc hz3 (.cells #[.slice (some ⟨g3, 0, none⟩) 64 64] 56 (0, 0)))
  have Hba := hid ba
  clear k3 b3 own ba Hk2 Hkr2 Hb2
  go_wp2_with (at_builtin; refine wpList_append_texts rfl _ _ rfl Tryz.underlying154 hi1 hz1 hs1 hy1 rfl Hown.out rfl HT.out Hb4.out hz3 ?c1 ?c2 ?_)
  case c1 => simp only [List.length_cons, List.length_nil]; omega
  case c2 => rw [World.size_alloc]; omega
  intro v5 w5 own5 b5
  have Hb5w := hid (Hba.out.trans b5)
  obtain ⟨a5, c5, rfl, hT5⟩ := own5.texts
  rw [show (maskZ (blockZ key) 54 :: ts).length = len + 1 by rw [List.length_cons, Hl1.out]] at hT5 ⊢
  have HT5 := hid hT5
  have Hb5 := hid (Below.on Hb3.out Hb5w.out)
  have Hk5 := hid (Hk3.out.below Hb5w.out)
  have Hkr5 := hid (Hkr3.out.below Hb5w.out)
  have hz5 := Hb5.out.size
  clear own5 b5 hT5 Hk3 Hkr3 Hown Hba Hb4
  go_wp2_with fail
  refine (sum_any a5 (len + 1) c5 _ w5 HT5.out (by simp only [sumLen, List.map_cons, List.sum_cons, maskZ_length, HbS.out.1]; unfold sumLen at hsl; omega) (Htab.out.below Hb5.out)).mono ?_
  rintro e w6 ⟨rfl, b6⟩
  rw [show (maskZ (blockZ key) 54 :: ts).flatten = maskZ (blockZ key) 54 ++ ts.flatten by simp]
  have Hb6 := hid (Below.on Hb5.out b6)
  have Hk6 := hid (Hk5.out.below b6)
  have Hkr6 := hid (Hkr5.out.below b6)
  have hz6 := Hb6.out.size
  have Hl2 := hid (sumZ_length (maskZ (blockZ key) 54 ++ ts.flatten))
  have HSs := hid (sumZ_small (maskZ (blockZ key) 54 ++ ts.flatten))
  have hltk := Hk6.out.lt
  have hltr6 := Hkr6.out.lt
  clear b6 Hk5 Hkr5 HT5 Hb5
  generalize sumZ (maskZ (blockZ key) 54 ++ ts.flatten) = S at *
  generalize w1.heap.size = gk at *
  go_wp2_with (
    refine wpList_store_blk rfl 25 _ _ rfl w6.heap.size _ rfl rfl _ 25 (Blk.new rfl (byteCells 32 []) _) 32 size_digest HzA.out (dsize Hl2.out) (ints_one _ _) ?_
    intro w7 b7 k7
    have Hb7 := hid (b7.below (Hb6.out.alloc hz6 _) (by rw [World.size_alloc]; omega) hz6)
    have Hk7 := hid (b7.blk (Hk6.out.old _) (by omega))
    have Hkr7 := hid (b7.blk (Hkr6.out.old _) (by omega))
    have Hkd7 := hid k7
    clear b7 k7 Hk6 Hkr6)
  generalize w6.heap.size = gd at *
  simp only [Act.put]
  refine wp_region_flow 5 [0, 2] [] [(.c 1, [], [3]), (.b 3, [4], [])] (by kernel_rfl) (by kernel_rfl) ?_
  apply Exists.intro
  refine ⟨fun w0 hb0 hF0 => ?_, ?_⟩
  · have xK : ∀ w', (∃ x : Ext w0, w' = x.at_) → ∃ T, Blk w' gk ((blockZ key).map (Value.int .u8)).toArray T := fun w' ⟨x, hx⟩ => ⟨_, hx ▸ (Hk7.out.below hb0).below x.same⟩
    simp only [pick, List.getElem?_toArray, List.getElem?_cons_succ, List.getElem?_cons_zero, Option.toList_some, List.cons_append, List.nil_append]
    repeat (first | (go_big_quiet_want; refine quiet_load_blk 155 _ rfl gk rfl _ xK _ Tryz.underlying155 rfl 64 size_64 Hs64.out ?_; go_big_quiet_on; simp only [Act.put, List.setIfInBounds_toArray, List.set_cons_zero, List.set_cons_succ]) | go_big_quiet_step (fail))
    exact wpQuiet_nil rfl
  refine AlChk.nil ?_
  refine Walk.call rfl 71 #[.agg ((blockZ key).map (Value.int .u8)).toArray, .int .u8 92] (fun v w' => ∃ g, v = .slice (some ⟨g, 0, none⟩) 64 64 ∧ Blk w' g ((maskZ (blockZ key) 92).map (Value.int .u8)).toArray 5) (fun v w' w'' ⟨g, h1, h2⟩ k => ⟨g, h1, h2.below k⟩) rfl (fun w8 hb8 hF8 => ⟨by go_simp, ?_⟩) ?_
  · refine (masked_any (blockZ key) 92 w8 HbS.out.2 HbS.out.1 (by omega)).mono ?_
    rintro e w9 ⟨g, rfl, hg, k9, b9⟩
    exact ⟨_, rfl, b9, g, rfl, k9⟩
  rintro v w8 hb8 hF8 ⟨g9, rfl, _⟩
  apply Exists.intro
  refine ⟨fun w9 hb9 hF9 => ?_, ?_⟩
  · exact wpQuiet_nil rfl
  refine AlChk.one rfl (fun b => .slice (some ⟨b, 0, none⟩) 2 2) (.cells #[.slice (some ⟨g9, 0, none⟩) 64 64, .slice (some ⟨gd, 0, none⟩) 32 32] 56 (0, 0)) rfl (fun w9 hb9 hF9 => by go_simp) ?_
  refine AlChk.nil ?_
  refine Walk.blk rfl (fun b => .slice (some ⟨b, 0, none⟩) 2 2) (.cells #[.slice (some ⟨g9, 0, none⟩) 64 64, .slice (some ⟨gd, 0, none⟩) 32 32] 56 (0, 0)) (by simp) ?_
  intro b9 w9 hb9 hF9 hge9 _
  apply Exists.intro
  refine ⟨fun w10 hb10 hF10 => ?_, ?_⟩
  · have k10 : Blk w10 b9 #[.slice (some ⟨g9, 0, none⟩) 64 64, .slice (some ⟨gd, 0, none⟩) 32 32] 56 := hF10.2
    obtain ⟨g', he, hk'⟩ := hF10.1.2
    have hg' : g' = g9 := by injection he with h1; injection h1 with h2; injection h2 with h3; exact h3.symm
    subst hg'
    have hs := fun e : Ext w10 => sum_any (some ⟨b9, 0, none⟩) 2 2 [maskZ (blockZ key) 92, S] e.at_ (TextsAt.of_blk (k10.below e.same) rfl (Nat.le_refl _) (by omega) fun j hj => by
      match j, hj with
      | 0, _ => exact ⟨_, _, _, rfl, TextAt.of_ints (bs := maskZ (blockZ key) 92) (hk'.below e.same) (by rw [maskZ_length, HbS.out.1]) (by omega) (maskZ_small HbS.out.2 (by omega))⟩
      | 1, _ => exact ⟨_, _, _, rfl, TextAt.of_ints ((Hkd7.out.below hb10).below e.same) Hl2.out (by omega) HSs.out⟩) (by simp only [sumLen, List.map_cons, List.map_nil, List.sum_cons, List.sum_nil, maskZ_length, HbS.out.1, Hl2.out]; omega) ((Htab.out.below (Below.on Hb7.out hb10)).below e.same)
    rw [show ([maskZ (blockZ key) 92, S] : List (List Int)).flatten = maskZ (blockZ key) 92 ++ S by simp, ← HM.out] at hs
    simp only [pick, List.getElem?_toArray, List.getElem?_cons_succ, List.getElem?_cons_zero, Option.toList_some, List.cons_append, List.nil_append, Act.put, List.setIfInBounds_toArray, List.set_cons_zero, List.set_cons_succ]
    repeat (go_big_quiet_step (first | (go_at_call 72; exact Calls.ext (hs _))))
    exact wpQuiet_nil rfl
  refine AlChk.nil ?_
  refine Walk.fin fun w11 h11 _ _ => ?_
  simp only [List.drop_succ_cons, List.drop_zero]
  have Hkr11 := hid (Hkr7.out.below h11)
  have Hb11 := hid (Below.on Hb7.out h11)
  have Hlm := hid (macZ_length key ts.flatten)
  clear h11
  go_wp2_with (refine wpList_store_blk rfl 25 _ _ rfl w.heap.size _ rfl rfl _ 25 Hkr11.out 32 size_digest HzA.out (dsize Hlm.out) (ints_one _ _) ?_; intro w12 hbut12 hk12)
  exact bodyPost_ret (v := .agg ((macZ key ts.flatten).map (Value.int .u8)).toArray) (results_blk Tryz.results26 _ w.heap.size rfl _ 25 hk12 _ Tryz.underlying25 rfl 32 size_digest (dsize Hlm.out)) rfl ⟨rfl, hbut12.below Hb11.out Hb11.out.size (Nat.le_refl _)⟩
end Go.Proofs.YtpinamdgbijjlaaGreatDoor
namespace Go.Proofs.YtpinamdgbijjlaaGreatDoor
set_option maxRecDepth 100000
open Go.ChangeShapes Go.WideShapes Go.ChangeAt Go.RowKit
/-- what the loop needs of the key, whichever way it came -/
structure KeyAt (w wz : World) (a : Option Addr) (n c : Nat) (key key' : List Int) : Prop where
  txt : TextAt wz a n c key'
  few : n ≤ 64
  blk : blockZ key = key' ++ List.replicate (64 - n) 0
  res : Blk wz w.heap.size (byteCells 32 []) 25
  bel : Below w.heap.size w wz
set_option maxHeartbeats 8000000 in
theorem refcode_any (ka : Option Addr) (kn kc : Nat) (key : List Int) (a : Option Addr) (len cap : Nat) (text : List Int) (w : World) (hK : TextAt w ka kn kc key) (hT : TextAt w a len cap text) (hkn : kn ≤ 140737488340000) (hln : len ≤ 140737488339000) :
    Calls Tryz.prog 24 #[.slice ka kn kc, .slice a len cap] w fun e w' => e = .returned (.agg ((macZ key text).map (Value.int .u8)).toArray) ∧ Below w.heap.size w w' := by
  have HM : Hid (macZ key text = sumZ (maskZ (blockZ key) 92 ++ sumZ (maskZ (blockZ key) 54 ++ text))) := hid (by unfold macZ; rfl)
  have Hkr := hid (Blk.new (w := w) rfl (byteCells 32 []) 25)
  have Hb0 := hid ((Below.refl w.heap.size w).alloc (Nat.le_refl _) (.cells (byteCells 32 []) 25 (0, 0)))
  have HbS := hid (And.intro (blockZ_length key) (blockZ_small hK.small))
  have HK := hid hK
  have HT := hid hT
  have HzA := hid zsize
  have hkl := hK.length
  have hkle := hK.le
  have hkm := hK.max
  have hle := hT.le
  have hmx := hT.max
  have hlt := hT.length
  have Hlt := hid hlt
  have Hkl := hid hkl
  obtain ⟨i0, hi, hz0, hz1, hz2⟩ := info_parts info_byte
  clear hK hT hkl hlt
  go_enter Tryz.func24, Tryz.ntmps24
  by_cases hcase : kn ≤ 64
  · have hA : KeyAt w (w.alloc (Obj.cells #[Value.int IntKind.u8 0, Value.int IntKind.u8 0, Value.int IntKind.u8 0, Value.int IntKind.u8 0, Value.int IntKind.u8 0, Value.int IntKind.u8 0, Value.int IntKind.u8 0, Value.int IntKind.u8 0, Value.int IntKind.u8 0, Value.int IntKind.u8 0, Value.int IntKind.u8 0, Value.int IntKind.u8 0, Value.int IntKind.u8 0, Value.int IntKind.u8 0, Value.int IntKind.u8 0, Value.int IntKind.u8 0, Value.int IntKind.u8 0, Value.int IntKind.u8 0, Value.int IntKind.u8 0, Value.int IntKind.u8 0, Value.int IntKind.u8 0, Value.int IntKind.u8 0, Value.int IntKind.u8 0, Value.int IntKind.u8 0, Value.int IntKind.u8 0, Value.int IntKind.u8 0, Value.int IntKind.u8 0, Value.int IntKind.u8 0, Value.int IntKind.u8 0, Value.int IntKind.u8 0, Value.int IntKind.u8 0, Value.int IntKind.u8 0] 25)) ka kn kc key key :=
      ⟨HK.out.below Hb0.out, hcase, by unfold blockZ; rw [if_neg (by have := Hkl.out; omega), Hkl.out], Hkr.out, Hb0.out⟩
    have HA := hid hA
    clear hA
    go_wp2_with fail
    generalize w.alloc (Obj.cells #[Value.int IntKind.u8 0, Value.int IntKind.u8 0, Value.int IntKind.u8 0, Value.int IntKind.u8 0, Value.int IntKind.u8 0, Value.int IntKind.u8 0, Value.int IntKind.u8 0, Value.int IntKind.u8 0, Value.int IntKind.u8 0, Value.int IntKind.u8 0, Value.int IntKind.u8 0, Value.int IntKind.u8 0, Value.int IntKind.u8 0, Value.int IntKind.u8 0, Value.int IntKind.u8 0, Value.int IntKind.u8 0, Value.int IntKind.u8 0, Value.int IntKind.u8 0, Value.int IntKind.u8 0, Value.int IntKind.u8 0, Value.int IntKind.u8 0, Value.int IntKind.u8 0, Value.int IntKind.u8 0, Value.int IntKind.u8 0, Value.int IntKind.u8 0, Value.int IntKind.u8 0, Value.int IntKind.u8 0, Value.int IntKind.u8 0, Value.int IntKind.u8 0, Value.int IntKind.u8 0, Value.int IntKind.u8 0, Value.int IntKind.u8 0] 25) = wz at HA ⊢
    go_loopw [6, 7, 8] (fun va vb i wr => ∃ k : Nat, k ≤ 64 ∧ i = .int .i64 k ∧ OwnB wr wz.heap.size 5 va (maskZ ((blockZ key).take k) 54) ∧ OwnB wr wz.heap.size 5 vb (maskZ ((blockZ key).take k) 92) ∧ (∀ q, va.ownBlock = some q → vb.ownBlock ≠ some q) ∧ Below wz.heap.size wz wr) (fun _ _ i _ => 64 - (intOf i).toNat)
    case atStart => exact ⟨0, Nat.zero_le _, rfl, by simpa [maskZ] using OwnB.nil wz wz.heap.size 5, by simpa [maskZ] using OwnB.nil wz wz.heap.size 5, fun q h => (by cases h), Below.refl _ _⟩
    case round =>
      obtain ⟨k, hk, rfl, oa, ob, hap, bel⟩ := hrel
      have Hoa := hid oa
      have Hob := hid ob
      have Hap := hid hap
      have Hbel := hid bel
      have hszr := bel.size
      clear oa ob hap bel
      by_cases hlt : k < 64
      · have hx0 : 0 ≤ (blockZ key).getD k 0 ∧ (blockZ key).getD k 0 < 256 := HbS.out.2 _ (by
          have := HbS.out.1
          rw [List.getD_eq_getElem?_getD, List.getElem?_eq_getElem (by omega)]
          exact List.getElem_mem _)
        have ht1 : ∀ m : Int, maskZ ((blockZ key).take (k + 1)) m = maskZ ((blockZ key).take k) m ++ [xorZ ((blockZ key).getD k 0) m] := fun m => by
          have := HbS.out.1
          unfold maskZ
          rw [List.take_succ_eq_append_getElem (by omega), List.map_append, List.map_cons, List.map_nil, List.getD_eq_getElem?_getD, List.getElem?_eq_getElem (by omega)]
          rfl
        have HtA := hid (ht1 54)
        have HtB := hid (ht1 92)
        have hbA := bits_xorZ hx0 (show (0 : Int) ≤ 54 ∧ (54 : Int) < 256 by omega)
        have hbB := bits_xorZ hx0 (show (0 : Int) ≤ 92 ∧ (92 : Int) < 256 by omega)
        have hsA := xorZ_small hx0 (show (0 : Int) ≤ 54 ∧ (54 : Int) < 256 by omega)
        have hsB := xorZ_small hx0 (show (0 : Int) ≤ 92 ∧ (92 : Int) < 256 by omega)
        have hlA : (maskZ ((blockZ key).take k) 54).length = k := by rw [maskZ_length, List.length_take, HbS.out.1]; omega
        have hlB : (maskZ ((blockZ key).take k) 92).length = k := by rw [maskZ_length, List.length_take, HbS.out.1]; omega
        have hget : (blockZ key).getD k 0 = if k < kn then (key).getD k 0 else 0 := by
          have hl := HA.out.txt.length
          rw [HA.out.blk]
          simp only [List.getD_eq_getElem?_getD]
          split
          · rw [List.getElem?_append_left (by omega)]
          · rw [List.getElem?_append_right (by omega), List.getElem?_replicate]
            split <;> rfl
        have Hget := hid hget
        have HlA := hid hlA
        have HlB := hid hlB
        have HsA := hid hsA
        have HsB := hid hsB
        obtain ⟨hx1, hx2⟩ := hx0
        clear ht1 hget hlA hlB hsA hsB
        generalize hX : (blockZ key).getD k 0 = X at *
        have HX := hid hX
        clear hX
        by_cases hin : k < kn
        all_goals
          first
          | (have hin2 : k < kn := hin
             obtain ⟨p, o, hpa, hp, hc⟩ := HA.out.txt.at_ (show 0 < kn by omega)
             have hcX : wr.cell? ⟨p, o + k, none⟩ = some (.int .u8 X) := by rw [Hbel.out.cell (p := ⟨p, o + k, none⟩) hp, hc k hin2, Hget.out, if_pos hin2]
             cases hpa
             try simp only [Nat.zero_add] at hcX
             clear hc)
          | (have hX0 : X = 0 := by rw [Hget.out, if_neg hin]
             have hA0 : bits .xor .u8 0 54 = xorZ X 54 := by rw [hX0]; exact bits_xorZ (by omega) (by omega)
             have hB0 : bits .xor .u8 0 92 = xorZ X 92 := by rw [hX0]; exact bits_xorZ (by omega) (by omega)
             clear hX0 hbA hbB)
        all_goals
          have oN := Hoa.out.below ((Below.refl wr.heap.size wr).alloc (Nat.le_refl _) (Obj.cells #[.int .u8 (xorZ X 54)] 5))
          have kT : TextAt (wr.alloc (Obj.cells #[.int .u8 (xorZ X 54)] 5)) (some ⟨wr.heap.size, 0, none⟩) 1 1 [xorZ X 54] := TextAt.of_ints (T := 5) (Blk.new rfl _ _) rfl (by omega) (by simpa using HsA.out)
          have oB := Hob.out.below ((Below.refl wr.heap.size wr).alloc (Nat.le_refl _) (Obj.cells #[.int .u8 (xorZ X 54)] 5))
          have bN := Hbel.out.alloc Hbel.out.size (Obj.cells #[.int .u8 (xorZ X 54)] 5)
          have HoN := hid oN
          have HkT := hid kT
          have HoB := hid oB
          have HbN := hid bN
          clear oN kT oB bN
        all_goals
          go_wp2_with (at_builtin; refine wpList_append_text_at rfl (.tmp 29) (.tmp 32) rfl Tryz.underlying56 hi hz0 hz1 hz2 rfl HoN.out rfl HkT.out (by have := HlA.out; omega) HbN.out.size ?_)
          intro v5 w5 oA5 g5 b5 hv5
          have hap5 : ∀ q, v5.ownBlock = some q → u7.ownBlock ≠ some q := fun q hq => by
            rcases hv5 with h | h
            · exact Hap.out q (h ▸ hq)
            · intro h7
              have h8 := (HoB.out.lt q h7).2
              simp only [World.size_alloc] at h8
              rw [h, Option.some.injEq] at hq
              omega
          have Ho5 := hid (HoB.out.grown g5 (fun q hq he => Hap.out q he hq))
          have Hap5 := hid hap5
          have Hb5 := hid (HbN.out.trans b5)
          have HoA5 := hid oA5
          have hz5 := Hb5.out.size
          clear oA5 g5 b5 hv5 hap5 HoN HkT HoB HbN
          have kT2 : TextAt (w5.alloc (Obj.cells #[.int .u8 (xorZ X 92)] 5)) (some ⟨w5.heap.size, 0, none⟩) 1 1 [xorZ X 92] := TextAt.of_ints (T := 5) (Blk.new rfl _ _) rfl (by omega) (by simpa using HsB.out)
          have oA6 := HoA5.out.below ((Below.refl w5.heap.size w5).alloc (Nat.le_refl _) (Obj.cells #[.int .u8 (xorZ X 92)] 5))
          have oB6 := Ho5.out.below ((Below.refl w5.heap.size w5).alloc (Nat.le_refl _) (Obj.cells #[.int .u8 (xorZ X 92)] 5))
          have bN6 := Hb5.out.alloc Hb5.out.size (Obj.cells #[.int .u8 (xorZ X 92)] 5)
          have HkT2 := hid kT2
          have HoA6 := hid oA6
          have HoB6 := hid oB6
          have HbN6 := hid bN6
          clear kT2 oA6 oB6 bN6
          go_wp2_with (at_builtin; refine wpList_append_text_at rfl (.tmp 34) (.tmp 37) rfl Tryz.underlying56 hi hz0 hz1 hz2 rfl HoB6.out rfl HkT2.out (by have := HlB.out; omega) HbN6.out.size ?_)
          intro v7 w7 oB7 g7 b7 hv7
          have hap7 : ∀ q, v5.ownBlock = some q → v7.ownBlock ≠ some q := fun q hq => by
            rcases hv7 with h | h
            · rw [h]; exact Hap5.out q hq
            · intro h7
              have h8 := (HoA6.out.lt q hq).2
              simp only [World.size_alloc] at h8
              rw [h, Option.some.injEq] at h7
              omega
          have H7 := hid (And.intro (HoA6.out.grown g7 (fun q hq he => Hap5.out q hq he)) (And.intro oB7 (And.intro hap7 (HbN6.out.trans b7))))
          rw [← HtA.out, ← HtB.out] at H7
          clear oB7 g7 b7 hv7 hap7
          go_wp2_with fail
          exact ⟨⟨k + 1, by omega, by go_num, H7.out.1, H7.out.2.1, H7.out.2.2.1, H7.out.2.2.2⟩, by simp [intOf]; omega⟩
      · have h64 : k = 64 := by omega
        have hfA : maskZ ((blockZ key).take k) 54 = maskZ (blockZ key) 54 := by rw [List.take_of_length_le (by have := HbS.out.1; omega)]
        have hfB : maskZ ((blockZ key).take k) 92 = maskZ (blockZ key) 92 := by rw [List.take_of_length_le (by have := HbS.out.1; omega)]
        rw [hfA] at Hoa
        rw [hfB] at Hob
        have H64 := hid h64
        have HlA := hid (show (maskZ (blockZ key) 54).length = 64 by rw [maskZ_length, HbS.out.1])
        have HlB := hid (show (maskZ (blockZ key) 92).length = 64 by rw [maskZ_length, HbS.out.1])
        have HTw := hid ((HT.out.below HA.out.bel).below Hbel.out)
        have Hkrw := hid (HA.out.res.below Hbel.out)
        have Hbw := hid (Below.on HA.out.bel Hbel.out)
        have hzz := HA.out.bel.size
        clear h64 hfA hfB
        go_wp2_with (at_builtin; refine wpList_append_text_at rfl (.tmp 39) (.tmp 40) rfl Tryz.underlying56 hi hz0 hz1 hz2 rfl Hoa.out rfl HTw.out (by have := HlA.out; omega) hszr ?_)
        intro v5 w5 oA5 g5 b5 _
        have Ho5 := hid (Hob.out.grown g5 (fun q hq he => Hap.out q he hq))
        have Hb5 := hid (Hbw.out.trans (b5.mono hzz))
        have Hkr5 := hid (Hkrw.out.belowB (Nat.lt_of_lt_of_le HA.out.res.lt (Nat.le_refl _)) b5)
        obtain ⟨a6, c6, rfl, hT6, _⟩ := oA5.text
        rw [show (maskZ (blockZ key) 54 ++ text).length = 64 + len by rw [List.length_append, HlA.out, Hlt.out]] at hT6 ⊢
        have HT6 := hid hT6
        have Hz5 := hid (Nat.le_trans hszr (Below.size b5))
        clear oA5 g5 b5 hT6 Hoa Hob Hkrw Hbw
        go_wp2_with fail
        refine (refsum_any a6 (64 + len) c6 (maskZ (blockZ key) 54 ++ text) w5 HT6.out (by omega)).mono ?_
        rintro e w6 ⟨rfl, b6⟩
        have Hb6 := hid (Below.on Hb5.out b6)
        have Hkr6 := hid (Hkr5.out.below b6)
        have Ho6 := hid (Ho5.out.below b6)
        have hz6 := Hb6.out.size
        have hz6b := Nat.le_trans Hz5.out (Below.size b6)
        have hltr6 := Hkr6.out.lt
        have HlS := hid (sumZ_length (maskZ (blockZ key) 54 ++ text))
        have HsS := hid (sumZ_small (maskZ (blockZ key) 54 ++ text))
        clear b6 Ho5 Hkr5 Hb5 HT6
        generalize sumZ (maskZ (blockZ key) 54 ++ text) = S at *
        go_wp2_with (
          first
          | (refine wpList_store_blk rfl 25 _ _ rfl w6.heap.size _ rfl rfl _ 25 (Blk.new rfl (byteCells 32 []) _) 32 size_digest HzA.out (dsize HlS.out) (ints_one _ _) ?_
             intro w7 b7 k7
             have Hb7 := hid (b7.below (Hb6.out.alloc hz6 _) (by rw [World.size_alloc]; omega) hz6)
             have Hkr7 := hid (b7.blk (Hkr6.out.old _) (by omega))
             have Ho7 := hid ((Ho6.out.below ((Below.refl _ _).alloc (Nat.le_refl _) _)).grown (w' := w7) (row := some w6.heap.size) ⟨b7.os, b7.tape, b7.output, b7.size, fun j hj hne => b7.block j hj (fun e => hne (by rw [e]))⟩ (fun q hq he => by
               have := (Ho6.out.lt q hq).2
               rw [Option.some.injEq] at he
               omega))
             have Hz7 := hid (Nat.le_trans hz6b (Nat.le_trans (by rw [World.size_alloc]; omega) b7.size))
             have HT7 := hid (TextAt.of_ints k7 HlS.out (by omega) HsS.out)
             clear b7 k7 Ho6 Hkr6 Hb6)
          | (at_builtin; refine wpList_append_text_at rfl (.tmp 43) (.tmp 44) rfl Tryz.underlying56 hi hz0 hz1 hz2 rfl Ho7.out rfl HT7.out (by have := HlB.out; omega) Hz7.out ?_))
        intro v8 w8 oB8 g8 b8 _
        have Hb8 := hid (Hb7.out.trans (b8.mono hzz))
        have Hkr8 := hid (Hkr7.out.belowB (Nat.lt_of_lt_of_le HA.out.res.lt (Nat.le_refl _)) b8)
        obtain ⟨a9, c9, rfl, hT9, _⟩ := oB8.text
        rw [show (maskZ (blockZ key) 92 ++ S).length = 96 by rw [List.length_append, HlB.out, HlS.out]] at hT9 ⊢
        have HT9 := hid hT9
        clear oB8 g8 b8 hT9 Ho7 HT7 Hkr7 Hb7
        go_wp2_with fail
        refine (refsum_any a9 96 c9 (maskZ (blockZ key) 92 ++ S) w8 HT9.out (by omega)).mono ?_
        rintro e w9 ⟨rfl, b9⟩
        rw [← HM.out]
        have Hb9 := hid (Below.on Hb8.out b9)
        have Hkr9 := hid (Hkr8.out.below b9)
        have Hlm := hid (macZ_length key text)
        clear b9 HT9 Hb8 Hkr8
        go_wp2_with (refine wpList_store_blk rfl 25 _ _ rfl w.heap.size _ rfl rfl _ 25 Hkr9.out 32 size_digest HzA.out (dsize Hlm.out) (ints_one _ _) ?_; intro w12 hbut12 hk12)
        exact bodyPost_ret (v := .agg ((macZ key text).map (Value.int .u8)).toArray) (results_blk Tryz.results24 _ w.heap.size rfl _ 25 hk12 _ Tryz.underlying25 rfl 32 size_digest (dsize Hlm.out)) rfl ⟨rfl, hbut12.below Hb9.out Hb9.out.size (Nat.le_refl _)⟩
  · have hcase2 : 64 < kn := by omega
    go_wp2_with fail
    refine (refsum_any ka kn kc key _ (HK.out.below Hb0.out) (by omega)).mono ?_
    rintro e w4 ⟨rfl, b4⟩
    have Hb4 := hid (Below.on Hb0.out b4)
    have Hkr4 := hid (Hkr.out.below b4)
    have hz4 := Hb4.out.size
    have hltr := Hkr4.out.lt
    have Hl2 := hid (sumZ_length key)
    have HSs := hid (sumZ_small key)
    clear b4 Hkr Hb0
    go_wp2_with (
      refine wpList_store_blk rfl 25 _ _ rfl w4.heap.size _ rfl rfl _ 25 (Blk.new rfl (byteCells 32 []) _) 32 size_digest HzA.out (dsize Hl2.out) (ints_one _ _) ?_
      intro wz b5 k5
      have HA : Hid (KeyAt w wz (some ⟨w4.heap.size, 0, none⟩) 32 32 key (sumZ key)) := hid ⟨TextAt.of_ints k5 Hl2.out (by omega) HSs.out, by omega, by unfold blockZ; rw [if_pos (by have := Hkl.out; omega)], b5.blk (Hkr4.out.old _) (by omega), b5.below (Hb4.out.alloc hz4 _) (by rw [World.size_alloc]; omega) hz4⟩
      clear b5 k5)
    generalize w4.heap.size = gd at HA ⊢
    go_loopw [6, 7, 8] (fun va vb i wr => ∃ k : Nat, k ≤ 64 ∧ i = .int .i64 k ∧ OwnB wr wz.heap.size 5 va (maskZ ((blockZ key).take k) 54) ∧ OwnB wr wz.heap.size 5 vb (maskZ ((blockZ key).take k) 92) ∧ (∀ q, va.ownBlock = some q → vb.ownBlock ≠ some q) ∧ Below wz.heap.size wz wr) (fun _ _ i _ => 64 - (intOf i).toNat)
    case atStart => exact ⟨0, Nat.zero_le _, rfl, by simpa [maskZ] using OwnB.nil wz wz.heap.size 5, by simpa [maskZ] using OwnB.nil wz wz.heap.size 5, fun q h => (by cases h), Below.refl _ _⟩
    case round =>
      obtain ⟨k, hk, rfl, oa, ob, hap, bel⟩ := hrel
      have Hoa := hid oa
      have Hob := hid ob
      have Hap := hid hap
      have Hbel := hid bel
      have hszr := bel.size
      clear oa ob hap bel
      by_cases hlt : k < 64
      · have hx0 : 0 ≤ (blockZ key).getD k 0 ∧ (blockZ key).getD k 0 < 256 := HbS.out.2 _ (by
          have := HbS.out.1
          rw [List.getD_eq_getElem?_getD, List.getElem?_eq_getElem (by omega)]
          exact List.getElem_mem _)
        have ht1 : ∀ m : Int, maskZ ((blockZ key).take (k + 1)) m = maskZ ((blockZ key).take k) m ++ [xorZ ((blockZ key).getD k 0) m] := fun m => by
          have := HbS.out.1
          unfold maskZ
          rw [List.take_succ_eq_append_getElem (by omega), List.map_append, List.map_cons, List.map_nil, List.getD_eq_getElem?_getD, List.getElem?_eq_getElem (by omega)]
          rfl
        have HtA := hid (ht1 54)
        have HtB := hid (ht1 92)
        have hbA := bits_xorZ hx0 (show (0 : Int) ≤ 54 ∧ (54 : Int) < 256 by omega)
        have hbB := bits_xorZ hx0 (show (0 : Int) ≤ 92 ∧ (92 : Int) < 256 by omega)
        have hsA := xorZ_small hx0 (show (0 : Int) ≤ 54 ∧ (54 : Int) < 256 by omega)
        have hsB := xorZ_small hx0 (show (0 : Int) ≤ 92 ∧ (92 : Int) < 256 by omega)
        have hlA : (maskZ ((blockZ key).take k) 54).length = k := by rw [maskZ_length, List.length_take, HbS.out.1]; omega
        have hlB : (maskZ ((blockZ key).take k) 92).length = k := by rw [maskZ_length, List.length_take, HbS.out.1]; omega
        have hget : (blockZ key).getD k 0 = if k < 32 then (sumZ key).getD k 0 else 0 := by
          have hl := HA.out.txt.length
          rw [HA.out.blk]
          simp only [List.getD_eq_getElem?_getD]
          split
          · rw [List.getElem?_append_left (by omega)]
          · rw [List.getElem?_append_right (by omega), List.getElem?_replicate]
            split <;> rfl
        have Hget := hid hget
        have HlA := hid hlA
        have HlB := hid hlB
        have HsA := hid hsA
        have HsB := hid hsB
        obtain ⟨hx1, hx2⟩ := hx0
        clear ht1 hget hlA hlB hsA hsB
        generalize hX : (blockZ key).getD k 0 = X at *
        have HX := hid hX
        clear hX
        by_cases hin : k < 32
        all_goals
          first
          | (have hin2 : k < 32 := hin
             obtain ⟨p, o, hpa, hp, hc⟩ := HA.out.txt.at_ (show 0 < 32 by omega)
             have hcX : wr.cell? ⟨p, o + k, none⟩ = some (.int .u8 X) := by rw [Hbel.out.cell (p := ⟨p, o + k, none⟩) hp, hc k hin2, Hget.out, if_pos hin2]
             cases hpa
             try simp only [Nat.zero_add] at hcX
             clear hc)
          | (have hX0 : X = 0 := by rw [Hget.out, if_neg hin]
             have hA0 : bits .xor .u8 0 54 = xorZ X 54 := by rw [hX0]; exact bits_xorZ (by omega) (by omega)
             have hB0 : bits .xor .u8 0 92 = xorZ X 92 := by rw [hX0]; exact bits_xorZ (by omega) (by omega)
             clear hX0 hbA hbB)
        all_goals
          have oN := Hoa.out.below ((Below.refl wr.heap.size wr).alloc (Nat.le_refl _) (Obj.cells #[.int .u8 (xorZ X 54)] 5))
          have kT : TextAt (wr.alloc (Obj.cells #[.int .u8 (xorZ X 54)] 5)) (some ⟨wr.heap.size, 0, none⟩) 1 1 [xorZ X 54] := TextAt.of_ints (T := 5) (Blk.new rfl _ _) rfl (by omega) (by simpa using HsA.out)
          have oB := Hob.out.below ((Below.refl wr.heap.size wr).alloc (Nat.le_refl _) (Obj.cells #[.int .u8 (xorZ X 54)] 5))
          have bN := Hbel.out.alloc Hbel.out.size (Obj.cells #[.int .u8 (xorZ X 54)] 5)
          have HoN := hid oN
          have HkT := hid kT
          have HoB := hid oB
          have HbN := hid bN
          clear oN kT oB bN
        all_goals
          go_wp2_with (at_builtin; refine wpList_append_text_at rfl (.tmp 29) (.tmp 32) rfl Tryz.underlying56 hi hz0 hz1 hz2 rfl HoN.out rfl HkT.out (by have := HlA.out; omega) HbN.out.size ?_)
          intro v5 w5 oA5 g5 b5 hv5
          have hap5 : ∀ q, v5.ownBlock = some q → u7.ownBlock ≠ some q := fun q hq => by
            rcases hv5 with h | h
            · exact Hap.out q (h ▸ hq)
            · intro h7
              have h8 := (HoB.out.lt q h7).2
              simp only [World.size_alloc] at h8
              rw [h, Option.some.injEq] at hq
              omega
          have Ho5 := hid (HoB.out.grown g5 (fun q hq he => Hap.out q he hq))
          have Hap5 := hid hap5
          have Hb5 := hid (HbN.out.trans b5)
          have HoA5 := hid oA5
          have hz5 := Hb5.out.size
          clear oA5 g5 b5 hv5 hap5 HoN HkT HoB HbN
          have kT2 : TextAt (w5.alloc (Obj.cells #[.int .u8 (xorZ X 92)] 5)) (some ⟨w5.heap.size, 0, none⟩) 1 1 [xorZ X 92] := TextAt.of_ints (T := 5) (Blk.new rfl _ _) rfl (by omega) (by simpa using HsB.out)
          have oA6 := HoA5.out.below ((Below.refl w5.heap.size w5).alloc (Nat.le_refl _) (Obj.cells #[.int .u8 (xorZ X 92)] 5))
          have oB6 := Ho5.out.below ((Below.refl w5.heap.size w5).alloc (Nat.le_refl _) (Obj.cells #[.int .u8 (xorZ X 92)] 5))
          have bN6 := Hb5.out.alloc Hb5.out.size (Obj.cells #[.int .u8 (xorZ X 92)] 5)
          have HkT2 := hid kT2
          have HoA6 := hid oA6
          have HoB6 := hid oB6
          have HbN6 := hid bN6
          clear kT2 oA6 oB6 bN6
          go_wp2_with (at_builtin; refine wpList_append_text_at rfl (.tmp 34) (.tmp 37) rfl Tryz.underlying56 hi hz0 hz1 hz2 rfl HoB6.out rfl HkT2.out (by have := HlB.out; omega) HbN6.out.size ?_)
          intro v7 w7 oB7 g7 b7 hv7
          have hap7 : ∀ q, v5.ownBlock = some q → v7.ownBlock ≠ some q := fun q hq => by
            rcases hv7 with h | h
            · rw [h]; exact Hap5.out q hq
            · intro h7
              have h8 := (HoA6.out.lt q hq).2
              simp only [World.size_alloc] at h8
              rw [h, Option.some.injEq] at h7
              omega
          have H7 := hid (And.intro (HoA6.out.grown g7 (fun q hq he => Hap5.out q hq he)) (And.intro oB7 (And.intro hap7 (HbN6.out.trans b7))))
          rw [← HtA.out, ← HtB.out] at H7
          clear oB7 g7 b7 hv7 hap7
          go_wp2_with fail
          exact ⟨⟨k + 1, by omega, by go_num, H7.out.1, H7.out.2.1, H7.out.2.2.1, H7.out.2.2.2⟩, by simp [intOf]; omega⟩
      · have h64 : k = 64 := by omega
        have hfA : maskZ ((blockZ key).take k) 54 = maskZ (blockZ key) 54 := by rw [List.take_of_length_le (by have := HbS.out.1; omega)]
        have hfB : maskZ ((blockZ key).take k) 92 = maskZ (blockZ key) 92 := by rw [List.take_of_length_le (by have := HbS.out.1; omega)]
        rw [hfA] at Hoa
        rw [hfB] at Hob
        have H64 := hid h64
        have HlA := hid (show (maskZ (blockZ key) 54).length = 64 by rw [maskZ_length, HbS.out.1])
        have HlB := hid (show (maskZ (blockZ key) 92).length = 64 by rw [maskZ_length, HbS.out.1])
        have HTw := hid ((HT.out.below HA.out.bel).below Hbel.out)
        have Hkrw := hid (HA.out.res.below Hbel.out)
        have Hbw := hid (Below.on HA.out.bel Hbel.out)
        have hzz := HA.out.bel.size
        clear h64 hfA hfB
        go_wp2_with (at_builtin; refine wpList_append_text_at rfl (.tmp 39) (.tmp 40) rfl Tryz.underlying56 hi hz0 hz1 hz2 rfl Hoa.out rfl HTw.out (by have := HlA.out; omega) hszr ?_)
        intro v5 w5 oA5 g5 b5 _
        have Ho5 := hid (Hob.out.grown g5 (fun q hq he => Hap.out q he hq))
        have Hb5 := hid (Hbw.out.trans (b5.mono hzz))
        have Hkr5 := hid (Hkrw.out.belowB (Nat.lt_of_lt_of_le HA.out.res.lt (Nat.le_refl _)) b5)
        obtain ⟨a6, c6, rfl, hT6, _⟩ := oA5.text
        rw [show (maskZ (blockZ key) 54 ++ text).length = 64 + len by rw [List.length_append, HlA.out, Hlt.out]] at hT6 ⊢
        have HT6 := hid hT6
        have Hz5 := hid (Nat.le_trans hszr (Below.size b5))
        clear oA5 g5 b5 hT6 Hoa Hob Hkrw Hbw
        go_wp2_with fail
        refine (refsum_any a6 (64 + len) c6 (maskZ (blockZ key) 54 ++ text) w5 HT6.out (by omega)).mono ?_
        rintro e w6 ⟨rfl, b6⟩
        have Hb6 := hid (Below.on Hb5.out b6)
        have Hkr6 := hid (Hkr5.out.below b6)
        have Ho6 := hid (Ho5.out.below b6)
        have hz6 := Hb6.out.size
        have hz6b := Nat.le_trans Hz5.out (Below.size b6)
        have hltr6 := Hkr6.out.lt
        have HlS := hid (sumZ_length (maskZ (blockZ key) 54 ++ text))
        have HsS := hid (sumZ_small (maskZ (blockZ key) 54 ++ text))
        clear b6 Ho5 Hkr5 Hb5 HT6
        generalize sumZ (maskZ (blockZ key) 54 ++ text) = S at *
        go_wp2_with (
          first
          | (refine wpList_store_blk rfl 25 _ _ rfl w6.heap.size _ rfl rfl _ 25 (Blk.new rfl (byteCells 32 []) _) 32 size_digest HzA.out (dsize HlS.out) (ints_one _ _) ?_
             intro w7 b7 k7
             have Hb7 := hid (b7.below (Hb6.out.alloc hz6 _) (by rw [World.size_alloc]; omega) hz6)
             have Hkr7 := hid (b7.blk (Hkr6.out.old _) (by omega))
             have Ho7 := hid ((Ho6.out.below ((Below.refl _ _).alloc (Nat.le_refl _) _)).grown (w' := w7) (row := some w6.heap.size) ⟨b7.os, b7.tape, b7.output, b7.size, fun j hj hne => b7.block j hj (fun e => hne (by rw [e]))⟩ (fun q hq he => by
               have := (Ho6.out.lt q hq).2
               rw [Option.some.injEq] at he
               omega))
             have Hz7 := hid (Nat.le_trans hz6b (Nat.le_trans (by rw [World.size_alloc]; omega) b7.size))
             have HT7 := hid (TextAt.of_ints k7 HlS.out (by omega) HsS.out)
             clear b7 k7 Ho6 Hkr6 Hb6)
          | (at_builtin; refine wpList_append_text_at rfl (.tmp 43) (.tmp 44) rfl Tryz.underlying56 hi hz0 hz1 hz2 rfl Ho7.out rfl HT7.out (by have := HlB.out; omega) Hz7.out ?_))
        intro v8 w8 oB8 g8 b8 _
        have Hb8 := hid (Hb7.out.trans (b8.mono hzz))
        have Hkr8 := hid (Hkr7.out.belowB (Nat.lt_of_lt_of_le HA.out.res.lt (Nat.le_refl _)) b8)
        obtain ⟨a9, c9, rfl, hT9, _⟩ := oB8.text
        rw [show (maskZ (blockZ key) 92 ++ S).length = 96 by rw [List.length_append, HlB.out, HlS.out]] at hT9 ⊢
        have HT9 := hid hT9
        clear oB8 g8 b8 hT9 Ho7 HT7 Hkr7 Hb7
        go_wp2_with fail
        refine (refsum_any a9 96 c9 (maskZ (blockZ key) 92 ++ S) w8 HT9.out (by omega)).mono ?_
        rintro e w9 ⟨rfl, b9⟩
        rw [← HM.out]
        have Hb9 := hid (Below.on Hb8.out b9)
        have Hkr9 := hid (Hkr8.out.below b9)
        have Hlm := hid (macZ_length key text)
        clear b9 HT9 Hb8 Hkr8
        go_wp2_with (refine wpList_store_blk rfl 25 _ _ rfl w.heap.size _ rfl rfl _ 25 Hkr9.out 32 size_digest HzA.out (dsize Hlm.out) (ints_one _ _) ?_; intro w12 hbut12 hk12)
        exact bodyPost_ret (v := .agg ((macZ key text).map (Value.int .u8)).toArray) (results_blk Tryz.results24 _ w.heap.size rfl _ 25 hk12 _ Tryz.underlying25 rfl 32 size_digest (dsize Hlm.out)) rfl ⟨rfl, hbut12.below Hb9.out Hb9.out.size (Nat.le_refl _)⟩
end Go.Proofs.YtpinamdgbijjlaaGreatDoor
namespace Go.Proofs.YtpinamdgbijjlaaGreatDoor
set_option maxRecDepth 100000
open Go.ChangeShapes Go.WideShapes Go.ChangeAt Go.RowKit
/-- the bytes of words -/
def wordBytes (xs : List Int) : List Int := xs.flatMap (be 4)
theorem wordBytes_small (xs : List Int) : ∀ x ∈ wordBytes xs, 0 ≤ x ∧ x < 256 := by
  intro x hx
  unfold wordBytes at hx
  rw [List.mem_flatMap] at hx
  obtain ⟨y, _, hx⟩ := hx
  exact be_small 4 y x hx
theorem wordBytes_length (xs : List Int) : (wordBytes xs).length = 4 * xs.length := by
  induction xs with
  | nil => rfl
  | cons x xs ih => simp only [wordBytes, List.flatMap_cons, List.length_append, be_length, List.length_cons] at *; omega
theorem wordBytes_take (xs : List Int) (k : Nat) (h : k < xs.length) : wordBytes (xs.take (k + 1)) = wordBytes (xs.take k) ++ be 4 (xs.getD k 0) := by
  rw [List.take_succ_eq_append_getElem h]
  simp only [wordBytes, List.flatMap_append, List.flatMap_cons, List.flatMap_nil, List.append_nil]
  simp [h]
theorem sizeAdrs : (Tryz.prog.info? 216).map (·.size) = some 8 := by kernel_rfl
set_option maxHeartbeats 2000000 in
theorem adrs_bytes (xs : List Int) (hl : xs.length = 8) (hb : ∀ x ∈ xs, 0 ≤ x ∧ x < 4294967296) (w : World) :
    Calls Tryz.prog 213 #[ints .u32 xs] w fun e w' => ∃ g cap, 32 ≤ cap ∧ cap ≤ 9223372036854775807 ∧ w.heap.size ≤ g ∧ e = .returned (.slice (some ⟨g, 0, none⟩) 32 cap) ∧ Below w.heap.size w w' ∧ Row8 w' g (wordBytes xs) := by
  obtain ⟨i0, hi, hz0, hz1, hz2⟩ := info_parts info_byte
  have heq := fun w => run_eql_ints (P := Tryz.prog) (t := 216) (e := 98) Tryz.underlying216 Tryz.underlying98 rfl (by kernel_rfl) xs (List.replicate 8 0) hl rfl w
  simp only [ints, List.replicate, List.map_cons, List.map_nil] at heq
  have hidx : ∀ (k : Nat), k < 8 → ∀ w, (Instr.index 216 (.agg (xs.map (Value.int .u32)).toArray) (.int .i64 k)).run Tryz.prog w = .ok (.int .u32 (xs.getD k 0)) w := fun k hk w =>
    run_index_ints (P := Tryz.prog) Tryz.underlying216 Tryz.underlying98 rfl rfl xs hl k hk w
  have Hidx := hid hidx
  clear hidx
  unfold ints
  have sz : (List.map (Value.int IntKind.u32) xs).toArray.size = 8 := by simp [hl]
  generalize (List.map (Value.int IntKind.u32) xs).toArray = D at *
  have Hsz := hid sz
  clear sz
  have kD : Blk (w.alloc (Obj.cells D 216)) w.heap.size D 216 := Blk.new rfl _ _
  have bel : Below w.heap.size w (w.alloc (Obj.cells D 216)) := by go_grown
  by_cases hx : xs = [0, 0, 0, 0, 0, 0, 0, 0]
  · have hd : decide (xs = [0, 0, 0, 0, 0, 0, 0, 0]) = true := by simp [hx]
    rw [hd] at heq
    have HX := hid hx
    clear hd hx Hidx
    go_enter Tryz.func213, Tryz.ntmps213
    go_wp2_with (first | (refine wpList_load_blk rfl 216 _ rfl w.heap.size rfl D 216 kD _ Tryz.underlying216 rfl 8 sizeAdrs Hsz.out ?_) | (at_make; refine wpList_make_full _ rfl _ _ 56 rfl (w.heap.size + 1) 5 i0 (.int .u8 0) 1 Tryz.underlying56 hi hz0 hz1 _ _ _ _ 32 rfl rfl rfl rfl ?a3 ?a4 ?a5 ?_))
    case a3 => rw [hz2]; omega
    case a4 => unfold maxLen; omega
    case a5 => simp
    intro w1 hown hgrow
    obtain ⟨_, kB⟩ := blk_of_owns hown
    have bel1 := bel.grown hgrow bel.size (fun _ h => by cases h)
    rw [made_zeros 32 0] at kB
    have hrow : Row8 w1 (w.heap.size + 1) (wordBytes xs) := by
      rw [HX.out, show wordBytes [0, 0, 0, 0, 0, 0, 0, 0] = List.replicate 32 0 ++ be 0 0 by decide]
      exact Row8.of_blk kB
    clear hown hgrow kB
    go_wp2
    go_ret
    exact ⟨w.heap.size + 1, 32, by decide, by decide, by omega, rfl, bel1, hrow⟩
  · have hd : decide (xs = [0, 0, 0, 0, 0, 0, 0, 0]) = false := by simp [hx]
    rw [hd] at heq
    clear hd hx
    go_enter Tryz.func213, Tryz.ntmps213
    go_wp2_with (first | (refine wpList_load_blk rfl 216 _ rfl w.heap.size rfl D 216 kD _ Tryz.underlying216 rfl 8 sizeAdrs Hsz.out ?_) | (at_make; refine wpList_make_own _ rfl _ _ 56 rfl (w.heap.size + 1) 5 i0 (.int .u8 0) 1 Tryz.underlying56 hi hz0 hz1 _ _ _ 32 rfl rfl rfl ?a3 ?a4 ?a5 ?_))
    case a3 => rw [hz2]; omega
    case a4 => unfold maxLen; omega
    case a5 => simp
    intro w1 hown hgrow
    have bel1 := bel.grown hgrow bel.size (fun _ h => by cases h)
    have kD1 := kD.grown hgrow (fun _ h => by cases h)
    clear hgrow kD bel heq
    go_wp2_with (refine wpList_load_blk rfl 216 _ rfl w.heap.size rfl D 216 kD1 _ Tryz.underlying216 rfl 8 sizeAdrs Hsz.out ?_)
    go_loopw [3, 12] (fun v i wr => ∃ k : Nat, k ≤ 8 ∧ i = .int .i64 k ∧ wr.ownsRow (w.heap.size + 1) 5 1 v (4 * k) ((wordBytes (xs.take k)).map (Value.int .u8)) ∧ (v ≠ .slice none 0 0) ∧ Below w.heap.size w wr ∧ w.heap.size + 1 ≤ wr.heap.size) (fun _ i _ => 8 - (intOf i).toNat)
    case atStart => exact ⟨0, by omega, rfl, by simpa [wordBytes] using hown, by simp, bel1, by have := kD1.lt; omega⟩
    case round =>
      clear kD1 bel1 hown
      obtain ⟨k, hk, rfl, hown, hnn, bel, hsz⟩ := hrel
      by_cases hlt : k < 8
      · have hx := Hidx.out k hlt
        have hxb := hb (xs.getD k 0) (by rw [show xs.getD k 0 = xs[k]'(by omega) by simp [show k < xs.length by omega]]; exact List.getElem_mem _)
        have HS := hid (wordBytes_take xs k (by omega))
        generalize xs.getD k 0 = x at hx hxb HS
        obtain ⟨hx0, hx1⟩ := hxb
        go_wp2_with fail
        refine (number_any x 4 4 _ hx0 (by omega) (by decide)).mono ?_
        rintro e w2 ⟨g, hge, rfl, b2, kN⟩
        have hown2 := owns_below hown b2
        have bel2 := bel.trans (b2.mono bel.size)
        have hlt2 := hown2.lt
        have hs2 := b2.size
        go_wp2_with (at_builtin; refine wpList_append_own _ rfl _ _ 56 rfl (w.heap.size + 1) 5 i0 (.int .u8 0) 1 1 Tryz.underlying56 hi hz0 hz1 hz2 rfl (by decide) u3 (4 * k) _ rfl hown2 ⟨g, 0, none⟩ 4 4 ((be 4 x).map (Value.int .u8)) rfl ?c0 ?c1 ?c2 ?c3 ?c4 ?c5 ?_)
        case c0 => simp [be_length]
        case c1 => exact news_blk kN
        case c2 => intro u hu; simp only [List.mem_map] at hu; obtain ⟨y, _, rfl⟩ := hu; rfl
        case c3 => unfold maxLen; omega
        case c4 => omega
        case c5 => omega
        intro v' w3 hown3 hgrow hnil
        have bel3 := bel2.grown hgrow (by omega) (fun q hq => by have := hlt2 q hq; omega)
        have hnn' : v' ≠ .slice none 0 0 := hnil
        have hs3 := hgrow.size
        clear hown hown2 hlt2 hgrow kN bel bel2 b2
        go_wp2
        refine ⟨⟨k + 1, by omega, by go_num, by rw [HS.out, List.map_append, show 4 * (k + 1) = 4 * k + 4 by omega]; exact hown3, hnn', bel3, by omega⟩, by simp [intOf]; omega⟩
      · obtain rfl : k = 8 := by omega
        rw [List.take_of_length_le (by omega)] at hown
        have hv : ∃ g cap, u3 = .slice (some ⟨g, 0, none⟩) 32 cap ∧ 32 ≤ cap ∧ cap ≤ 9223372036854775807 := by
          obtain ⟨_, h | ⟨g, cap, cur, h, _, _, hle, hmx, _⟩⟩ := hown
          · exact absurd h.1 hnn
          · exact ⟨g, cap, h, by omega, by unfold maxLen at hmx; omega⟩
        obtain ⟨g, cap, hv, hc1, hc2⟩ := hv
        rw [hv] at hown ⊢
        obtain ⟨hg, hrow⟩ := Row8.of_owns hown
        clear hown hv hnn
        go_wp2
        go_ret
        exact ⟨g, cap, hc1, hc2, by omega, rfl, bel, hrow⟩
end Go.Proofs.YtpinamdgbijjlaaGreatDoor
namespace Go.Proofs.YtpinamdgbijjlaaGreatDoor
set_option maxRecDepth 100000
open Go.ChangeShapes Go.WideShapes Go.ChangeAt Go.RowKit
theorem made_any (kd la tr le : Int) (w : World) (h0 : 0 ≤ tr) (h1 : tr < 18446744073709551616) :
    Calls Tryz.prog 153 #[.int .u32 kd, .int .u32 la, .int .u64 tr, .int .u32 le] w fun e w' => e = .returned (.agg #[.int .u32 la, .int .u32 (tr / 4294967296), .int .u32 (tr % 4294967296), .int .u32 kd, .int .u32 le, .int .u32 0, .int .u32 0, .int .u32 0]) ∧ Below w.heap.size w w' := by
  go_enter Tryz.func153, Tryz.ntmps153
  go_wp2
  go_returns
  exact ⟨rfl, by go_grown⟩
theorem ots_any (la tr le : Int) (w : World) (h0 : 0 ≤ tr) (h1 : tr < 18446744073709551616) :
    Calls Tryz.prog 159 #[.int .u32 la, .int .u64 tr, .int .u32 le] w fun e w' => e = .returned (.agg #[.int .u32 la, .int .u32 (tr / 4294967296), .int .u32 (tr % 4294967296), .int .u32 0, .int .u32 le, .int .u32 0, .int .u32 0, .int .u32 0]) ∧ Below w.heap.size w w' := by
  go_enter Tryz.func159, Tryz.ntmps159
  go_wp2
  go_returns
  exact ⟨rfl, by go_grown⟩
theorem ltree_any (la tr le : Int) (w : World) (h0 : 0 ≤ tr) (h1 : tr < 18446744073709551616) :
    Calls Tryz.prog 161 #[.int .u32 la, .int .u64 tr, .int .u32 le] w fun e w' => e = .returned (.agg #[.int .u32 la, .int .u32 (tr / 4294967296), .int .u32 (tr % 4294967296), .int .u32 1, .int .u32 le, .int .u32 0, .int .u32 0, .int .u32 0]) ∧ Below w.heap.size w w' := by
  go_enter Tryz.func161, Tryz.ntmps161
  go_wp2
  go_returns
  exact ⟨rfl, by go_grown⟩
theorem tree_any (la tr : Int) (w : World) (h0 : 0 ≤ tr) (h1 : tr < 18446744073709551616) :
    Calls Tryz.prog 121 #[.int .u32 la, .int .u64 tr] w fun e w' => e = .returned (.agg #[.int .u32 la, .int .u32 (tr / 4294967296), .int .u32 (tr % 4294967296), .int .u32 2, .int .u32 0, .int .u32 0, .int .u32 0, .int .u32 0]) ∧ Below w.heap.size w w' := by
  go_enter Tryz.func121, Tryz.ntmps121
  go_wp2
  go_returns
  exact ⟨rfl, by go_grown⟩
theorem at_any (a0 a1 a2 a3 a4 a5 a6 a7 f s : Int) (w : World) :
    Calls Tryz.prog 187 #[.agg #[.int .u32 a0, .int .u32 a1, .int .u32 a2, .int .u32 a3, .int .u32 a4, .int .u32 a5, .int .u32 a6, .int .u32 a7], .int .u32 f, .int .u32 s] w fun e w' => e = .returned (.agg #[.int .u32 a0, .int .u32 a1, .int .u32 a2, .int .u32 a3, .int .u32 a4, .int .u32 f, .int .u32 s, .int .u32 0]) ∧ Below w.heap.size w w' := by
  go_enter Tryz.func187, Tryz.ntmps187
  go_wp2
  go_returns
  exact ⟨rfl, by go_grown⟩
theorem for_any (a0 a1 a2 a3 a4 a5 a6 a7 f : Int) (w : World) :
    Calls Tryz.prog 209 #[.agg #[.int .u32 a0, .int .u32 a1, .int .u32 a2, .int .u32 a3, .int .u32 a4, .int .u32 a5, .int .u32 a6, .int .u32 a7], .int .u32 f] w fun e w' => e = .returned (.agg #[.int .u32 a0, .int .u32 a1, .int .u32 a2, .int .u32 a3, .int .u32 a4, .int .u32 a5, .int .u32 a6, .int .u32 f]) ∧ Below w.heap.size w w' := by
  go_enter Tryz.func209, Tryz.ntmps209
  go_wp2
  go_returns
  exact ⟨rfl, by go_grown⟩
end Go.Proofs.YtpinamdgbijjlaaGreatDoor
namespace Go.Proofs.YtpinamdgbijjlaaGreatDoor
set_option maxRecDepth 100000
open Go.ChangeShapes Go.WideShapes Go.ChangeAt Go.RowKit
theorem ref_base (kd la tr le : Int) (w : World) (h0 : 0 ≤ tr) (h1 : tr < 18446744073709551616) :
    Calls Tryz.prog 163 #[.int .u32 la, .int .u64 tr, .int .u32 kd, .int .u32 le] w fun e w' => e = .returned (.agg #[.int .u32 la, .int .u32 (tr / 4294967296), .int .u32 (tr % 4294967296), .int .u32 kd, .int .u32 le, .int .u32 0, .int .u32 0, .int .u32 0]) ∧ Below w.heap.size w w' := by
  go_enter Tryz.func163, Tryz.ntmps163
  go_wp2
  go_returns
  exact ⟨rfl, by go_grown⟩
theorem ref_at (a0 a1 a2 a3 a4 a5 a6 a7 f s t : Int) (w : World) :
    Calls Tryz.prog 166 #[.agg #[.int .u32 a0, .int .u32 a1, .int .u32 a2, .int .u32 a3, .int .u32 a4, .int .u32 a5, .int .u32 a6, .int .u32 a7], .int .u32 f, .int .u32 s, .int .u32 t] w fun e w' => e = .returned (.agg #[.int .u32 a0, .int .u32 a1, .int .u32 a2, .int .u32 a3, .int .u32 a4, .int .u32 f, .int .u32 s, .int .u32 t]) ∧ Below w.heap.size w w' := by
  go_enter Tryz.func166, Tryz.ntmps166
  go_wp2
  go_returns
  exact ⟨rfl, by go_grown⟩
theorem be_four (x : Int) (h0 : 0 ≤ x) (h1 : x < 4294967296) : be 4 x = [x / 16777216, x / 65536 % 256, x / 256 % 256, x % 256] := by
  simp only [be, List.nil_append, List.cons_append, List.cons.injEq, and_true]
  omega
end Go.Proofs.YtpinamdgbijjlaaGreatDoor
namespace Go.Proofs.YtpinamdgbijjlaaGreatDoor
set_option maxRecDepth 100000
open Go.ChangeShapes Go.WideShapes Go.ChangeAt Go.RowKit
set_option maxHeartbeats 2000000 in
theorem ref_bytes_cap (xs : List Int) (hl : xs.length = 8) (hb : ∀ x ∈ xs, 0 ≤ x ∧ x < 4294967296) (w : World) :
    Calls Tryz.prog 216 #[ints .u32 xs] w fun e w' => ∃ g cap, 32 ≤ cap ∧ cap ≤ 9223372036854775807 ∧ w.heap.size ≤ g ∧ e = .returned (.slice (some ⟨g, 0, none⟩) 32 cap) ∧ Below w.heap.size w w' ∧ Row8 w' g (wordBytes xs) := by
  obtain ⟨i0, hi, hz0, hz1, hz2⟩ := info_parts info_byte
  unfold ints
  generalize hD : (List.map (Value.int IntKind.u32) xs).toArray = D
  have HD := hid hD
  clear hD
  have kD : Blk (w.alloc (Obj.cells D 216)) w.heap.size D 216 := Blk.new rfl _ _
  have bel : Below w.heap.size w (w.alloc (Obj.cells D 216)) := by go_grown
  go_enter Tryz.func216, Tryz.ntmps216
  go_wp2_with fail
  generalize w.alloc (Obj.cells D 216) = w0 at kD bel ⊢
  go_loopw [3, 4] (fun v i wr => ∃ k : Nat, k ≤ 8 ∧ i = .int .i64 k ∧ wr.ownsRow (w.heap.size + 1) 5 1 v (4 * k) ((wordBytes (xs.take k)).map (Value.int .u8)) ∧ Blk wr w.heap.size D 216 ∧ Below w.heap.size w wr) (fun _ i _ => 8 - (intOf i).toNat)
  case atStart => exact ⟨0, by omega, rfl, World.ownsRow_nil _ _ _ _, kD, bel⟩
  case round =>
    clear kD bel
    obtain ⟨k, hk, rfl, hown, kD, bel⟩ := hrel
    by_cases hlt : k < 8
    · have hx : wr.cell? ⟨w.heap.size, k, none⟩ = some (.int .u32 (xs.getD k 0)) := by
        rw [kD.cell, ← HD.out]; simp [show k < xs.length by omega]
      have hxb := hb (xs.getD k 0) (by rw [show xs.getD k 0 = xs[k]'(by omega) by simp [show k < xs.length by omega]]; exact List.getElem_mem _)
      have HS := hid (wordBytes_take xs k (by omega))
      generalize xs.getD k 0 = x at hx hxb HS
      obtain ⟨hx0, hx1⟩ := hxb
      have HB := hid (be_four x hx0 hx1)
      have hs0 := bel.size
      have hlw := kD.lt
      go_wp2_with (at_builtin; refine wpList_append_own _ rfl _ _ 56 rfl (w.heap.size + 1) 5 i0 (.int .u8 0) 1 1 Tryz.underlying56 hi hz0 hz1 hz2 rfl (by decide) u3 (4 * k) _ rfl (hown.alloc _) ⟨wr.heap.size, 0, none⟩ 4 4 [.int .u8 (x / 16777216), .int .u8 (x / 65536 % 256), .int .u8 (x / 256 % 256), .int .u8 (x % 256)] rfl rfl ?c1 ?c2 ?c3 ?c4 ?c5 ?_)
      case c1 => exact news_new wr [.int .u8 (x / 16777216), .int .u8 (x / 65536 % 256), .int .u8 (x / 256 % 256), .int .u8 (x % 256)] 5
      case c2 => simp [Value.oneCell']
      case c3 => unfold maxLen; omega
      case c4 => omega
      case c5 => simp; omega
      intro v' w3 hown3 hgrow _
      have hlt2 := hown.lt
      have bel3 := (bel.alloc hs0 (Obj.cells #[.int .u8 (x / 16777216), .int .u8 (x / 65536 % 256), .int .u8 (x / 256 % 256), .int .u8 (x % 256)] 5)).grown hgrow (by simp; omega) (fun q hq => by have := hlt2 q hq; omega)
      have kD3 := (kD.old (Obj.cells #[.int .u8 (x / 16777216), .int .u8 (x / 65536 % 256), .int .u8 (x / 256 % 256), .int .u8 (x % 256)] 5)).grown hgrow (fun q hq => by have := hlt2 q hq; omega)
      clear hown hlt2 hgrow bel kD
      go_wp2
      refine ⟨⟨k + 1, by omega, by go_num, by rw [HS.out, HB.out, List.map_append, show 4 * (k + 1) = 4 * k + 4 by omega]; exact hown3, kD3, bel3⟩, by simp [intOf]; omega⟩
    · obtain rfl : k = 8 := by omega
      rw [List.take_of_length_le (by omega)] at hown
      have hv : ∃ g cap, u3 = .slice (some ⟨g, 0, none⟩) 32 cap ∧ 32 ≤ cap ∧ cap ≤ 9223372036854775807 := by
        obtain ⟨_, h | ⟨g, cap, cur, h, _, _, hle, hmx, _⟩⟩ := hown
        · omega
        · exact ⟨g, cap, h, hle, by unfold maxLen at hmx; omega⟩
      obtain ⟨g, cap, hv, hc1, hc2⟩ := hv
      rw [hv] at hown ⊢
      obtain ⟨hg, hrow⟩ := Row8.of_owns hown
      clear hown hv
      go_wp2
      go_ret
      exact ⟨g, cap, hc1, hc2, by omega, rfl, bel, hrow⟩
end Go.Proofs.YtpinamdgbijjlaaGreatDoor
namespace Go.Proofs.YtpinamdgbijjlaaGreatDoor
set_option maxRecDepth 100000
open Go.ChangeShapes Go.WideShapes Go.ChangeAt Go.RowKit
/-- a digest's bytes -/
structure Dg (xs : List Int) : Prop where
  len : xs.length = 32
  small : ∀ x ∈ xs, 0 ≤ x ∧ x < 256
@[irreducible] def fZ (key m : List Int) : List Int := sumZ (be 32 0 ++ (key ++ m))
@[irreducible] def hZ (key a b : List Int) : List Int := sumZ (be 32 1 ++ (key ++ (a ++ b)))
@[irreducible] def prfZ (key m : List Int) : List Int := sumZ (be 32 3 ++ (key ++ m))
@[irreducible] def msgZ (r root : List Int) (index : Int) (m : List Int) : List Int := sumZ (be 32 2 ++ (r ++ (root ++ (be 32 index ++ m))))
theorem Dg.sum (bs : List Int) : Dg (sumZ bs) := ⟨sumZ_length _, sumZ_small _⟩
theorem Dg.f (a b : List Int) : Dg (fZ a b) := by unfold fZ; exact Dg.sum _
theorem Dg.h (a b c : List Int) : Dg (hZ a b c) := by unfold hZ; exact Dg.sum _
theorem Dg.prf (a b : List Int) : Dg (prfZ a b) := by unfold prfZ; exact Dg.sum _
theorem wide_any (n : Int) (w : World) (h0 : 0 ≤ n) (h1 : n < 18446744073709551616) :
    Calls Tryz.prog 205 #[.int .u64 n] w fun e w' => ∃ g, w.heap.size ≤ g ∧ e = .returned (.slice (some ⟨g, 0, none⟩) 32 32) ∧ Below w.heap.size w w' ∧ Blk w' g ((be 32 n).map (Value.int .u8)).toArray 5 := by
  go_enter Tryz.func205, Tryz.ntmps205
  go_wp2_with fail
  refine (number_any n 32 32 _ h0 h1 (by decide)).mono ?_
  rintro e w1 ⟨g, hg, rfl, b1, k1⟩
  have H := hid (And.intro b1 k1)
  clear b1 k1
  go_wp2_with fail
  go_ret
  exact ⟨g, hg, rfl, H.out⟩
/-- what 'wide' hands back -/
def WideAt (n : Int) (v : Value) (w : World) : Prop := ∃ g, v = .slice (some ⟨g, 0, none⟩) 32 32 ∧ Blk w g ((be 32 n).map (Value.int .u8)).toArray 5
theorem WideAt.below {n : Int} {v : Value} {w w' : World} (h : WideAt n v w) (hb : Below w.heap.size w w') : WideAt n v w' := by
  obtain ⟨g, h1, h2⟩ := h
  exact ⟨g, h1, h2.below hb⟩
theorem WideAt.text {n : Int} {g : Nat} {w : World} (h : WideAt n (.slice (some ⟨g, 0, none⟩) 32 32) w) : TextAt w (some ⟨g, 0, none⟩) 32 32 (be 32 n) := by
  obtain ⟨g', h1, h2⟩ := h
  injection h1 with h1
  injection h1 with h1
  injection h1 with h1
  subst h1
  exact TextAt.of_ints h2 (be_length 32 n) (by omega) (be_small 32 n)
theorem Dg.text {xs : List Int} (h : Dg xs) {w : World} {g : Nat} {T : TypeId} (k : Blk w g (xs.map (Value.int .u8)).toArray T) : TextAt w (some ⟨g, 0, none⟩) 32 32 xs := TextAt.of_ints k h.len (by omega) h.small
theorem Dg.size {xs : List Int} (h : Dg xs) : ((xs.map (Value.int .u8)).toArray).size = 32 := dsize h.len
set_option maxHeartbeats 2000000 in
theorem F_any (key m : List Int) (w : World) (hkey : Dg key) (hm : Dg m) (tab : ShaTab w) :
    Calls Tryz.prog 224 #[.agg (key.map (Value.int .u8)).toArray, .agg (m.map (Value.int .u8)).toArray] w fun e w' => e = .returned (.agg ((fZ key m).map (Value.int .u8)).toArray) ∧ Below w.heap.size w w' := by
  have HM : Hid (fZ key m = sumZ (be 32 0 ++ (key ++ m))) := hid (by unfold fZ; rfl)
  have HD := hid (Dg.f key m)
  have b1 := (Below.refl w.heap.size w).alloc (Nat.le_refl _) (.cells (key.map (Value.int .u8)).toArray 25 (0, 0))
  have b2 := b1.alloc b1.size (.cells (m.map (Value.int .u8)).toArray 25 (0, 0))
  have bz := b2.alloc b2.size (.cells (byteCells 32 []) 25 (0, 0))
  have K0 := hid (((Blk.new (w := w) (n := w.heap.size) rfl (key.map (Value.int .u8)).toArray 25).old (.cells (m.map (Value.int .u8)).toArray 25 (0, 0))).old (.cells (byteCells 32 []) 25 (0, 0)))
  have K1 := hid ((Blk.new (w := (w.alloc (.cells (key.map (Value.int .u8)).toArray 25 (0, 0)))) (n := w.heap.size + 1) (by simp only [World.size_alloc]) (m.map (Value.int .u8)).toArray 25).old (.cells (byteCells 32 []) 25 (0, 0)))
  have Kr := hid (Blk.new (w := ((w.alloc (.cells (key.map (Value.int .u8)).toArray 25 (0, 0))).alloc (.cells (m.map (Value.int .u8)).toArray 25 (0, 0)))) (n := w.heap.size + 1 + 1) (by simp only [World.size_alloc]) (byteCells 32 []) 25)
  have Hb := hid bz
  have Htab := hid (tab.below bz)
  have HzA := hid zsize
  have hbz := bz.size
  clear tab bz
  clear b2
  clear b1
  go_enter Tryz.func224, Tryz.ntmps224
  go_wp2_with fail
  refine wp_region_flow 5 [1, 2] [] [(.c 0, [], [3]), (.b 3, [4], [])] (by kernel_rfl) (by kernel_rfl) ?_
  apply Exists.intro
  refine ⟨fun w0 hb0 hF0 => ?_, ?_⟩
  · simp only [pick, List.getElem?_toArray, List.getElem?_cons_succ, List.getElem?_cons_zero, Option.toList_some, List.cons_append, List.nil_append]
    repeat (go_big_quiet_step (fail))
    exact wpQuiet_nil rfl
  refine AlChk.nil ?_
  refine Walk.call rfl 205 #[.int .u64 0] (WideAt 0) (fun v w' w'' h k => h.below k) rfl (fun w1 hb1 hF1 => ⟨by go_simp, ?_⟩) ?_
  · refine (wide_any 0 w1 (by omega) (by omega)).mono ?_
    rintro e w2 ⟨g, hg, rfl, b2, k2⟩
    exact ⟨_, rfl, b2, g, rfl, k2⟩
  rintro v w1 hb1 hF1 ⟨gw, rfl, _⟩
  apply Exists.intro
  refine ⟨fun w2 hb2 hF2 => wpQuiet_nil rfl, ?_⟩
  refine AlChk.one rfl (fun b => .slice (some ⟨b, 0, none⟩) 3 3) (.cells #[.slice (some ⟨gw, 0, none⟩) 32 32, .slice (some ⟨w.heap.size, 0, none⟩) 32 32, .slice (some ⟨w.heap.size + 1, 0, none⟩) 32 32] 56 (0, 0)) rfl (fun w2 hb2 hF2 => by go_simp) ?_
  refine AlChk.nil ?_
  refine Walk.blk rfl (fun b => .slice (some ⟨b, 0, none⟩) 3 3) (.cells #[.slice (some ⟨gw, 0, none⟩) 32 32, .slice (some ⟨w.heap.size, 0, none⟩) 32 32, .slice (some ⟨w.heap.size + 1, 0, none⟩) 32 32] 56 (0, 0)) (by simp) ?_
  intro b9 w2 hb2 hF2 hge9 _
  apply Exists.intro
  refine ⟨fun w3 hb3 hF3 => ?_, ?_⟩
  · have k9 : Blk w3 b9 #[.slice (some ⟨gw, 0, none⟩) 32 32, .slice (some ⟨w.heap.size, 0, none⟩) 32 32, .slice (some ⟨w.heap.size + 1, 0, none⟩) 32 32] 56 := hF3.2
    have hW := hF3.1.2
    have hs := fun e : Ext w3 => sum_any (some ⟨b9, 0, none⟩) 3 3 [be 32 0, key, m] e.at_ (TextsAt.of_blk (k9.below e.same) rfl (Nat.le_refl _) (by omega) fun j hj => by
      match j, hj with
      | 0, _ => exact ⟨_, _, _, rfl, (hW.below e.same).text⟩
      | 1, _ => exact ⟨_, _, _, rfl, hkey.text ((K0.out.below hb3).below e.same)⟩
      | 2, _ => exact ⟨_, _, _, rfl, hm.text ((K1.out.below hb3).below e.same)⟩) (by simp only [sumLen, List.map_cons, List.map_nil, List.sum_cons, List.sum_nil, be_length, hkey.len, hm.len]; omega) ((Htab.out.below hb3).below e.same)
    rw [show ([be 32 0, key, m] : List (List Int)).flatten = be 32 0 ++ (key ++ m) by simp, ← HM.out] at hs
    simp only [pick, List.getElem?_toArray, List.getElem?_cons_succ, List.getElem?_cons_zero, Option.toList_some, List.cons_append, List.nil_append, Act.put, List.setIfInBounds_toArray, List.set_cons_zero, List.set_cons_succ]
    repeat (go_big_quiet_step (first | (go_at_call 72; exact Calls.ext (hs _))))
    exact wpQuiet_nil rfl
  refine AlChk.nil ?_
  refine Walk.fin fun w4 h4 _ _ => ?_
  simp only [List.drop_succ_cons, List.drop_zero]
  have Hr4 := hid (Kr.out.below h4)
  have Hb4 := hid (Below.on Hb.out h4)
  clear h4
  go_wp2_with (refine wpList_store_blk rfl 25 _ _ rfl (w.heap.size + 1 + 1) _ rfl rfl _ 25 Hr4.out 32 size_digest HzA.out HD.out.size (ints_one _ _) ?_; intro w5 hbut5 hk5)
  exact bodyPost_ret (v := .agg ((fZ key m).map (Value.int .u8)).toArray) (results_blk Tryz.results224 _ (w.heap.size + 1 + 1) rfl _ 25 hk5 _ Tryz.underlying25 rfl 32 size_digest HD.out.size) rfl ⟨rfl, hbut5.below Hb4.out Hb4.out.size (by omega)⟩
set_option maxHeartbeats 2000000 in
theorem H_any (key a b : List Int) (w : World) (hkey : Dg key) (ha : Dg a) (hb : Dg b) (tab : ShaTab w) :
    Calls Tryz.prog 210 #[.agg (key.map (Value.int .u8)).toArray, .agg (a.map (Value.int .u8)).toArray, .agg (b.map (Value.int .u8)).toArray] w fun e w' => e = .returned (.agg ((hZ key a b).map (Value.int .u8)).toArray) ∧ Below w.heap.size w w' := by
  have HM : Hid (hZ key a b = sumZ (be 32 1 ++ (key ++ (a ++ b)))) := hid (by unfold hZ; rfl)
  have HD := hid (Dg.h key a b)
  have b1 := (Below.refl w.heap.size w).alloc (Nat.le_refl _) (.cells (key.map (Value.int .u8)).toArray 25 (0, 0))
  have b2 := b1.alloc b1.size (.cells (a.map (Value.int .u8)).toArray 25 (0, 0))
  have b3 := b2.alloc b2.size (.cells (b.map (Value.int .u8)).toArray 25 (0, 0))
  have bz := b3.alloc b3.size (.cells (byteCells 32 []) 25 (0, 0))
  have K0 := hid ((((Blk.new (w := w) (n := w.heap.size) rfl (key.map (Value.int .u8)).toArray 25).old (.cells (a.map (Value.int .u8)).toArray 25 (0, 0))).old (.cells (b.map (Value.int .u8)).toArray 25 (0, 0))).old (.cells (byteCells 32 []) 25 (0, 0)))
  have K1 := hid (((Blk.new (w := (w.alloc (.cells (key.map (Value.int .u8)).toArray 25 (0, 0)))) (n := w.heap.size + 1) (by simp only [World.size_alloc]) (a.map (Value.int .u8)).toArray 25).old (.cells (b.map (Value.int .u8)).toArray 25 (0, 0))).old (.cells (byteCells 32 []) 25 (0, 0)))
  have K2 := hid ((Blk.new (w := ((w.alloc (.cells (key.map (Value.int .u8)).toArray 25 (0, 0))).alloc (.cells (a.map (Value.int .u8)).toArray 25 (0, 0)))) (n := w.heap.size + 1 + 1) (by simp only [World.size_alloc]) (b.map (Value.int .u8)).toArray 25).old (.cells (byteCells 32 []) 25 (0, 0)))
  have Kr := hid (Blk.new (w := (((w.alloc (.cells (key.map (Value.int .u8)).toArray 25 (0, 0))).alloc (.cells (a.map (Value.int .u8)).toArray 25 (0, 0))).alloc (.cells (b.map (Value.int .u8)).toArray 25 (0, 0)))) (n := w.heap.size + 1 + 1 + 1) (by simp only [World.size_alloc]) (byteCells 32 []) 25)
  have Hb := hid bz
  have Htab := hid (tab.below bz)
  have HzA := hid zsize
  have hbz := bz.size
  clear tab bz
  clear b3
  clear b2
  clear b1
  go_enter Tryz.func210, Tryz.ntmps210
  go_wp2_with fail
  refine wp_region_flow 6 [1, 2, 3] [] [(.c 0, [], [4]), (.b 4, [5], [])] (by kernel_rfl) (by kernel_rfl) ?_
  apply Exists.intro
  refine ⟨fun w0 hb0 hF0 => ?_, ?_⟩
  · simp only [pick, List.getElem?_toArray, List.getElem?_cons_succ, List.getElem?_cons_zero, Option.toList_some, List.cons_append, List.nil_append]
    repeat (go_big_quiet_step (fail))
    exact wpQuiet_nil rfl
  refine AlChk.nil ?_
  refine Walk.call rfl 205 #[.int .u64 1] (WideAt 1) (fun v w' w'' h k => h.below k) rfl (fun w1 hb1 hF1 => ⟨by go_simp, ?_⟩) ?_
  · refine (wide_any 1 w1 (by omega) (by omega)).mono ?_
    rintro e w2 ⟨g, hg, rfl, b2, k2⟩
    exact ⟨_, rfl, b2, g, rfl, k2⟩
  rintro v w1 hb1 hF1 ⟨gw, rfl, _⟩
  apply Exists.intro
  refine ⟨fun w2 hb2 hF2 => wpQuiet_nil rfl, ?_⟩
  refine AlChk.one rfl (fun b => .slice (some ⟨b, 0, none⟩) 4 4) (.cells #[.slice (some ⟨gw, 0, none⟩) 32 32, .slice (some ⟨w.heap.size, 0, none⟩) 32 32, .slice (some ⟨w.heap.size + 1, 0, none⟩) 32 32, .slice (some ⟨w.heap.size + 1 + 1, 0, none⟩) 32 32] 56 (0, 0)) rfl (fun w2 hb2 hF2 => by go_simp) ?_
  refine AlChk.nil ?_
  refine Walk.blk rfl (fun b => .slice (some ⟨b, 0, none⟩) 4 4) (.cells #[.slice (some ⟨gw, 0, none⟩) 32 32, .slice (some ⟨w.heap.size, 0, none⟩) 32 32, .slice (some ⟨w.heap.size + 1, 0, none⟩) 32 32, .slice (some ⟨w.heap.size + 1 + 1, 0, none⟩) 32 32] 56 (0, 0)) (by simp) ?_
  intro b9 w2 hb2 hF2 hge9 _
  apply Exists.intro
  refine ⟨fun w3 hb3 hF3 => ?_, ?_⟩
  · have k9 : Blk w3 b9 #[.slice (some ⟨gw, 0, none⟩) 32 32, .slice (some ⟨w.heap.size, 0, none⟩) 32 32, .slice (some ⟨w.heap.size + 1, 0, none⟩) 32 32, .slice (some ⟨w.heap.size + 1 + 1, 0, none⟩) 32 32] 56 := hF3.2
    have hW := hF3.1.2
    have hs := fun e : Ext w3 => sum_any (some ⟨b9, 0, none⟩) 4 4 [be 32 1, key, a, b] e.at_ (TextsAt.of_blk (k9.below e.same) rfl (Nat.le_refl _) (by omega) fun j hj => by
      match j, hj with
      | 0, _ => exact ⟨_, _, _, rfl, (hW.below e.same).text⟩
      | 1, _ => exact ⟨_, _, _, rfl, hkey.text ((K0.out.below hb3).below e.same)⟩
      | 2, _ => exact ⟨_, _, _, rfl, ha.text ((K1.out.below hb3).below e.same)⟩
      | 3, _ => exact ⟨_, _, _, rfl, hb.text ((K2.out.below hb3).below e.same)⟩) (by simp only [sumLen, List.map_cons, List.map_nil, List.sum_cons, List.sum_nil, be_length, hkey.len, ha.len, hb.len]; omega) ((Htab.out.below hb3).below e.same)
    rw [show ([be 32 1, key, a, b] : List (List Int)).flatten = be 32 1 ++ (key ++ (a ++ b)) by simp, ← HM.out] at hs
    simp only [pick, List.getElem?_toArray, List.getElem?_cons_succ, List.getElem?_cons_zero, Option.toList_some, List.cons_append, List.nil_append, Act.put, List.setIfInBounds_toArray, List.set_cons_zero, List.set_cons_succ]
    repeat (go_big_quiet_step (first | (go_at_call 72; exact Calls.ext (hs _))))
    exact wpQuiet_nil rfl
  refine AlChk.nil ?_
  refine Walk.fin fun w4 h4 _ _ => ?_
  simp only [List.drop_succ_cons, List.drop_zero]
  have Hr4 := hid (Kr.out.below h4)
  have Hb4 := hid (Below.on Hb.out h4)
  clear h4
  go_wp2_with (refine wpList_store_blk rfl 25 _ _ rfl (w.heap.size + 1 + 1 + 1) _ rfl rfl _ 25 Hr4.out 32 size_digest HzA.out HD.out.size (ints_one _ _) ?_; intro w5 hbut5 hk5)
  exact bodyPost_ret (v := .agg ((hZ key a b).map (Value.int .u8)).toArray) (results_blk Tryz.results210 _ (w.heap.size + 1 + 1 + 1) rfl _ 25 hk5 _ Tryz.underlying25 rfl 32 size_digest HD.out.size) rfl ⟨rfl, hbut5.below Hb4.out Hb4.out.size (by omega)⟩
set_option maxHeartbeats 2000000 in
theorem Prf_any (key m : List Int) (ta : Option Addr) (tn tc : Nat) (w : World) (hkey : Dg key) (hT : TextAt w ta tn tc m) (hn : tn < 1000000000000000000) (tab : ShaTab w) :
    Calls Tryz.prog 179 #[.agg (key.map (Value.int .u8)).toArray, .slice ta tn tc] w fun e w' => e = .returned (.agg ((prfZ key m).map (Value.int .u8)).toArray) ∧ Below w.heap.size w w' := by
  have HM : Hid (prfZ key m = sumZ (be 32 3 ++ (key ++ m))) := hid (by unfold prfZ; rfl)
  have HD := hid (Dg.prf key m)
  have b1 := (Below.refl w.heap.size w).alloc (Nat.le_refl _) (.cells (key.map (Value.int .u8)).toArray 25 (0, 0))
  have bz := b1.alloc b1.size (.cells (byteCells 32 []) 25 (0, 0))
  have K0 := hid ((Blk.new (w := w) (n := w.heap.size) rfl (key.map (Value.int .u8)).toArray 25).old (.cells (byteCells 32 []) 25 (0, 0)))
  have Kr := hid (Blk.new (w := (w.alloc (.cells (key.map (Value.int .u8)).toArray 25 (0, 0)))) (n := w.heap.size + 1) (by simp only [World.size_alloc]) (byteCells 32 []) 25)
  have Hb := hid bz
  have Htab := hid (tab.below bz)
  have HzA := hid zsize
  have hle := hT.le
  have hmx := hT.max
  have HTx := hid (hT.below bz)
  have Hml := hid hT.length
  have hbz := bz.size
  clear tab bz hT
  clear b1
  go_enter Tryz.func179, Tryz.ntmps179
  go_wp2_with fail
  refine wp_region_flow 5 [1, 2] [] [(.c 0, [], [3]), (.b 3, [4], [])] (by kernel_rfl) (by kernel_rfl) ?_
  apply Exists.intro
  refine ⟨fun w0 hb0 hF0 => ?_, ?_⟩
  · simp only [pick, List.getElem?_toArray, List.getElem?_cons_succ, List.getElem?_cons_zero, Option.toList_some, List.cons_append, List.nil_append]
    repeat (go_big_quiet_step (fail))
    exact wpQuiet_nil rfl
  refine AlChk.nil ?_
  refine Walk.call rfl 205 #[.int .u64 3] (WideAt 3) (fun v w' w'' h k => h.below k) rfl (fun w1 hb1 hF1 => ⟨by go_simp, ?_⟩) ?_
  · refine (wide_any 3 w1 (by omega) (by omega)).mono ?_
    rintro e w2 ⟨g, hg, rfl, b2, k2⟩
    exact ⟨_, rfl, b2, g, rfl, k2⟩
  rintro v w1 hb1 hF1 ⟨gw, rfl, _⟩
  apply Exists.intro
  refine ⟨fun w2 hb2 hF2 => wpQuiet_nil rfl, ?_⟩
  refine AlChk.one rfl (fun b => .slice (some ⟨b, 0, none⟩) 3 3) (.cells #[.slice (some ⟨gw, 0, none⟩) 32 32, .slice (some ⟨w.heap.size, 0, none⟩) 32 32, .slice ta tn tc] 56 (0, 0)) rfl (fun w2 hb2 hF2 => by go_simp) ?_
  refine AlChk.nil ?_
  refine Walk.blk rfl (fun b => .slice (some ⟨b, 0, none⟩) 3 3) (.cells #[.slice (some ⟨gw, 0, none⟩) 32 32, .slice (some ⟨w.heap.size, 0, none⟩) 32 32, .slice ta tn tc] 56 (0, 0)) (by simp) ?_
  intro b9 w2 hb2 hF2 hge9 _
  apply Exists.intro
  refine ⟨fun w3 hb3 hF3 => ?_, ?_⟩
  · have k9 : Blk w3 b9 #[.slice (some ⟨gw, 0, none⟩) 32 32, .slice (some ⟨w.heap.size, 0, none⟩) 32 32, .slice ta tn tc] 56 := hF3.2
    have hW := hF3.1.2
    have hs := fun e : Ext w3 => sum_any (some ⟨b9, 0, none⟩) 3 3 [be 32 3, key, m] e.at_ (TextsAt.of_blk (k9.below e.same) rfl (Nat.le_refl _) (by omega) fun j hj => by
      match j, hj with
      | 0, _ => exact ⟨_, _, _, rfl, (hW.below e.same).text⟩
      | 1, _ => exact ⟨_, _, _, rfl, hkey.text ((K0.out.below hb3).below e.same)⟩
      | 2, _ => exact ⟨_, _, _, rfl, (HTx.out.below hb3).below e.same⟩) (by simp only [sumLen, List.map_cons, List.map_nil, List.sum_cons, List.sum_nil, be_length, hkey.len, Hml.out]; omega) ((Htab.out.below hb3).below e.same)
    rw [show ([be 32 3, key, m] : List (List Int)).flatten = be 32 3 ++ (key ++ m) by simp, ← HM.out] at hs
    simp only [pick, List.getElem?_toArray, List.getElem?_cons_succ, List.getElem?_cons_zero, Option.toList_some, List.cons_append, List.nil_append, Act.put, List.setIfInBounds_toArray, List.set_cons_zero, List.set_cons_succ]
    repeat (go_big_quiet_step (first | (go_at_call 72; exact Calls.ext (hs _))))
    exact wpQuiet_nil rfl
  refine AlChk.nil ?_
  refine Walk.fin fun w4 h4 _ _ => ?_
  simp only [List.drop_succ_cons, List.drop_zero]
  have Hr4 := hid (Kr.out.below h4)
  have Hb4 := hid (Below.on Hb.out h4)
  clear h4
  go_wp2_with (refine wpList_store_blk rfl 25 _ _ rfl (w.heap.size + 1) _ rfl rfl _ 25 Hr4.out 32 size_digest HzA.out HD.out.size (ints_one _ _) ?_; intro w5 hbut5 hk5)
  exact bodyPost_ret (v := .agg ((prfZ key m).map (Value.int .u8)).toArray) (results_blk Tryz.results179 _ (w.heap.size + 1) rfl _ 25 hk5 _ Tryz.underlying25 rfl 32 size_digest HD.out.size) rfl ⟨rfl, hbut5.below Hb4.out Hb4.out.size (by omega)⟩
end Go.Proofs.YtpinamdgbijjlaaGreatDoor
namespace Go.Proofs.YtpinamdgbijjlaaGreatDoor
set_option maxRecDepth 100000
open Go.ChangeShapes Go.WideShapes Go.ChangeAt Go.RowKit
/-- an address's words -/
structure Aw (xs : List Int) : Prop where
  len : xs.length = 8
  small : ∀ x ∈ xs, 0 ≤ x ∧ x < 4294967296
theorem Aw.size {xs : List Int} (h : Aw xs) : ((xs.map (Value.int .u32)).toArray).size = 8 := by simp [h.len]
@[irreducible] def atZ (key ad : List Int) : List Int := prfZ key (wordBytes ad)
theorem Dg.at_ (a b : List Int) : Dg (atZ a b) := by unfold atZ; exact Dg.prf _ _
/-- what 'adrs.Bytes' hands back -/
def BytesAt (ad : List Int) (v : Value) (w : World) : Prop := ∃ g cap, v = .slice (some ⟨g, 0, none⟩) 32 cap ∧ 32 ≤ cap ∧ cap ≤ 9223372036854775807 ∧ Row8 w g (wordBytes ad)
theorem BytesAt.below {ad : List Int} {v : Value} {w w' : World} (h : BytesAt ad v w) (hb : Below w.heap.size w w') : BytesAt ad v w' := by
  obtain ⟨g, c, h1, h2, h3, h4⟩ := h
  exact ⟨g, c, h1, h2, h3, h4.below hb⟩
theorem BytesAt.text {ad : List Int} (hl : ad.length = 8) {a : Option Addr} {n c : Nat} {w : World} (h : BytesAt ad (.slice a n c) w) : TextAt w a n c (wordBytes ad) := by
  obtain ⟨g', c', h1, h2, h3, h4⟩ := h
  injection h1 with e1 e2 e3
  subst e1 e2 e3
  exact TextAt.of_row h4 (by rw [wordBytes_length, hl]) h2 h3 (wordBytes_small _)
set_option maxHeartbeats 2000000 in
theorem At_any (key ad : List Int) (w : World) (hkey : Dg key) (ha : Aw ad) (tab : ShaTab w) :
    Calls Tryz.prog 191 #[.agg (key.map (Value.int .u8)).toArray, .agg (ad.map (Value.int .u32)).toArray] w fun e w' => e = .returned (.agg ((atZ key ad).map (Value.int .u8)).toArray) ∧ Below w.heap.size w w' := by
  have HM : Hid (atZ key ad = prfZ key (wordBytes ad)) := hid (by unfold atZ; rfl)
  have HD := hid (Dg.at_ key ad)
  have b1 := (Below.refl w.heap.size w).alloc (Nat.le_refl _) (.cells (key.map (Value.int .u8)).toArray 25 (0, 0))
  have b2 := b1.alloc b1.size (.cells (ad.map (Value.int .u32)).toArray 216 (0, 0))
  have bz := b2.alloc b2.size (.cells (byteCells 32 []) 25 (0, 0))
  have K0 := hid (((Blk.new (w := w) (n := w.heap.size) rfl (key.map (Value.int .u8)).toArray 25).old (.cells (ad.map (Value.int .u32)).toArray 216 (0, 0))).old (.cells (byteCells 32 []) 25 (0, 0)))
  have K1 := hid ((Blk.new (w := (w.alloc (.cells (key.map (Value.int .u8)).toArray 25 (0, 0)))) (n := w.heap.size + 1) (by simp only [World.size_alloc]) (ad.map (Value.int .u32)).toArray 216).old (.cells (byteCells 32 []) 25 (0, 0)))
  have Kr := hid (Blk.new (w := ((w.alloc (.cells (key.map (Value.int .u8)).toArray 25 (0, 0))).alloc (.cells (ad.map (Value.int .u32)).toArray 216 (0, 0)))) (n := w.heap.size + 1 + 1) (by simp only [World.size_alloc]) (byteCells 32 []) 25)
  have Hb := hid bz
  have Htab := hid (tab.below bz)
  have HzA := hid zsize
  have hbz := bz.size
  clear tab bz b2 b1
  go_enter Tryz.func191, Tryz.ntmps191
  go_wp2_with fail
  refine wp_region_flow 4 [0, 1] [] [(.c 2, [3], [])] (by kernel_rfl) (by kernel_rfl) ?_
  apply Exists.intro
  refine ⟨fun w0 hb0 hF0 => ?_, ?_⟩
  · have x0 : ∀ w', (∃ x : Ext w0, w' = x.at_) → ∃ T, Blk w' w.heap.size (key.map (Value.int .u8)).toArray T := fun w' ⟨x, hx⟩ => ⟨_, hx ▸ (K0.out.below hb0).below x.same⟩
    have x1 : ∀ w', (∃ x : Ext w0, w' = x.at_) → ∃ T, Blk w' (w.heap.size + 1) (ad.map (Value.int .u32)).toArray T := fun w' ⟨x, hx⟩ => ⟨_, hx ▸ (K1.out.below hb0).below x.same⟩
    simp only [pick, List.getElem?_toArray, List.getElem?_cons_succ, List.getElem?_cons_zero, Option.toList_some, List.cons_append, List.nil_append]
    repeat (first | (go_big_quiet_want; refine quiet_load_blk 25 _ rfl w.heap.size rfl _ x0 _ Tryz.underlying25 rfl 32 size_digest hkey.size ?_; go_big_quiet_on; simp only [Act.put, List.setIfInBounds_toArray, List.set_cons_zero, List.set_cons_succ]) | (go_big_quiet_want; refine quiet_load_blk 216 _ rfl (w.heap.size + 1) rfl _ x1 _ Tryz.underlying216 rfl 8 sizeAdrs ha.size ?_; go_big_quiet_on; simp only [Act.put, List.setIfInBounds_toArray, List.set_cons_zero, List.set_cons_succ]) | go_big_quiet_step (fail))
    exact wpQuiet_nil rfl
  refine AlChk.nil ?_
  refine Walk.call rfl 213 #[.agg (ad.map (Value.int .u32)).toArray] (BytesAt ad) (fun v w' w'' h k => h.below k) rfl (fun w1 hb1 hF1 => ⟨by go_simp, ?_⟩) ?_
  · refine (adrs_bytes ad ha.len ha.small w1).mono ?_
    rintro e w2 ⟨g, cap, h1, h2, hg, rfl, b2, k2⟩
    exact ⟨_, rfl, b2, g, cap, rfl, h1, h2, k2⟩
  rintro v w1 hb1 hF1 ⟨g, cap, rfl, _, _, _⟩
  apply Exists.intro
  refine ⟨fun w3 hb3 hF3 => ?_, ?_⟩
  · have hs := fun e : Ext w3 => Prf_any key (wordBytes ad) _ 32 cap e.at_ hkey ((hF3.2.below e.same).text ha.len) (by omega) ((Htab.out.below hb3).below e.same)
    rw [← HM.out] at hs
    simp only [pick, List.getElem?_toArray, List.getElem?_cons_succ, List.getElem?_cons_zero, Option.toList_some, List.cons_append, List.nil_append, Act.put, List.setIfInBounds_toArray, List.set_cons_zero, List.set_cons_succ]
    repeat (go_big_quiet_step (first | (go_at_call 179; exact Calls.ext (hs _))))
    exact wpQuiet_nil rfl
  refine AlChk.nil ?_
  refine Walk.fin fun w4 h4 _ _ => ?_
  simp only [List.drop_succ_cons, List.drop_zero]
  have Hr4 := hid (Kr.out.below h4)
  have Hb4 := hid (Below.on Hb.out h4)
  clear h4
  go_wp2_with (refine wpList_store_blk rfl 25 _ _ rfl (w.heap.size + 1 + 1) _ rfl rfl _ 25 Hr4.out 32 size_digest HzA.out HD.out.size (ints_one _ _) ?_; intro w5 hbut5 hk5)
  exact bodyPost_ret (v := .agg ((atZ key ad).map (Value.int .u8)).toArray) (results_blk Tryz.results191 _ (w.heap.size + 1 + 1) rfl _ 25 hk5 _ Tryz.underlying25 rfl 32 size_digest HD.out.size) rfl ⟨rfl, hbut5.below Hb4.out Hb4.out.size (by omega)⟩
/-- byte by byte exclusive-ored -/
def xorD (a b : List Int) : List Int := a.zipWith xorZ b
theorem Dg.xor {a b : List Int} (ha : Dg a) (hb : Dg b) : Dg (xorD a b) := ⟨by simp [xorD, ha.len, hb.len], fun x hx => by
  unfold xorD at hx
  rw [List.zipWith_eq_zipWith_take_min] at hx
  obtain ⟨i, hi, rfl⟩ := List.getElem_of_mem hx
  simp only [List.getElem_zipWith]
  exact xorZ_small (ha.small _ (List.mem_of_mem_take (List.getElem_mem _))) (hb.small _ (List.mem_of_mem_take (List.getElem_mem _)))⟩
theorem xorD_step {a b : List Int} (ha : a.length = 32) (hb : b.length = 32) (k : Nat) (hk : k < 32) : ((xorD a b).take k ++ a.drop k).set k (xorZ (a.getD k 0) (b.getD k 0)) = (xorD a b).take (k + 1) ++ a.drop (k + 1) := by
  have hl : k < (xorD a b).length := by simp [xorD, ha, hb, hk]
  rw [List.set_append_right _ _ (by simp; omega), List.take_succ_eq_append_getElem hl, List.append_assoc]
  congr 1
  rw [show k - ((xorD a b).take k).length = 0 by simp; omega, List.drop_eq_getElem_cons (by omega), List.set_cons_zero]
  simp [xorD, List.getD_eq_getElem?_getD, show k < a.length by omega, show k < b.length by omega]
set_option maxHeartbeats 2000000 in
theorem Mask_any (a b : List Int) (w : World) (ha : Dg a) (hb : Dg b) :
    Calls Tryz.prog 211 #[.agg (a.map (Value.int .u8)).toArray, .agg (b.map (Value.int .u8)).toArray] w fun e w' => e = .returned (.agg ((xorD a b).map (Value.int .u8)).toArray) ∧ Below w.heap.size w w' := by
  have HD := hid (ha.xor hb)
  have b1 := (Below.refl w.heap.size w).alloc (Nat.le_refl _) (.cells (a.map (Value.int .u8)).toArray 25 (0, 0))
  have b2 := b1.alloc b1.size (.cells (b.map (Value.int .u8)).toArray 25 (0, 0))
  have bz := b2.alloc b2.size (.cells (byteCells 32 []) 25 (0, 0))
  have K0 := hid (((Blk.new (w := w) (n := w.heap.size) rfl (a.map (Value.int .u8)).toArray 25).old (.cells (b.map (Value.int .u8)).toArray 25 (0, 0))).old (.cells (byteCells 32 []) 25 (0, 0)))
  have K1 := hid ((Blk.new (w := (w.alloc (.cells (a.map (Value.int .u8)).toArray 25 (0, 0)))) (n := w.heap.size + 1) (by simp only [World.size_alloc]) (b.map (Value.int .u8)).toArray 25).old (.cells (byteCells 32 []) 25 (0, 0)))
  have Kr := hid (Blk.new (w := ((w.alloc (.cells (a.map (Value.int .u8)).toArray 25 (0, 0))).alloc (.cells (b.map (Value.int .u8)).toArray 25 (0, 0)))) (n := w.heap.size + 1 + 1) (by simp only [World.size_alloc]) (byteCells 32 []) 25)
  have Hb := hid bz
  have HzA := hid zsize
  have hbz := bz.size
  have hix := fun (k : Nat) (hk : k < 32) (W : World) => run_index_ints (P := Tryz.prog) (t := 25) (e := 5) (n := 32) (k' := .i64) Tryz.underlying25 Tryz.underlying5 rfl rfl b hb.len k hk W
  have Hix := hid hix
  clear bz b2 b1 hix
  go_enter Tryz.func211, Tryz.ntmps211
  go_wp2_with (refine wpList_load_blk rfl 25 _ rfl (w.heap.size + 1) rfl _ 25 K1.out _ Tryz.underlying25 rfl 32 size_digest hb.size ?_)
  go_loopw [8] (fun v wr => ∃ k : Nat, k ≤ 32 ∧ v = .int .i64 k ∧ Blk wr w.heap.size (((xorD a b).take k ++ a.drop k).map (Value.int .u8)).toArray 25 ∧ Blk wr (w.heap.size + 1 + 1) (byteCells 32 []) 25 ∧ Below w.heap.size w wr) (fun v _ => 32 - (intOf v).toNat)
  case atStart => exact ⟨0, Nat.zero_le _, rfl, (by rw [List.take_zero, List.nil_append, List.drop_zero]; exact K0.out), Kr.out, Hb.out⟩
  case round =>
    clear K0 K1 Kr Hb
    obtain ⟨k, hk, rfl, kA, kR, bel⟩ := hrel
    by_cases hlt : k < 32
    · have hi := fun W => Hix.out k hlt W
      have hxa : 0 ≤ a.getD k 0 ∧ a.getD k 0 < 256 := ha.small _ (by rw [List.getD_eq_getElem?_getD, List.getElem?_eq_getElem (by rw [ha.len]; omega)]; exact List.getElem_mem _)
      have hxb : 0 ≤ b.getD k 0 ∧ b.getD k 0 < 256 := hb.small _ (by rw [List.getD_eq_getElem?_getD, List.getElem?_eq_getElem (by rw [hb.len]; omega)]; exact List.getElem_mem _)
      have hxor := bits_xorZ hxa hxb
      have Hst := hid (xorD_step ha.len hb.len k hlt)
      have hc : wr.cell? ⟨w.heap.size, k, none⟩ = some (.int .u8 (a.getD k 0)) := by
        rw [kA.cell]
        have h1 : ((xorD a b).take k).length = k := by simp [xorD, ha.len, hb.len]; omega
        have h2 : k < a.length := by rw [ha.len]; omega
        rw [List.getElem?_toArray, List.getElem?_map, List.getElem?_append_right (by omega), h1, Nat.sub_self, List.getElem?_drop, Nat.add_zero, List.getD_eq_getElem?_getD, List.getElem?_eq_getElem h2]
        rfl
      have fr := kA.free
      have hlt2 := kA.lt
      have HkA := hid kA
      have HkR := hid kR
      have Hbel := hid bel
      obtain ⟨hxa0, hxa1⟩ := hxa
      obtain ⟨hxb0, hxb1⟩ := hxb
      generalize a.getD k 0 = x at *
      generalize b.getD k 0 = y at *
      clear kA kR bel
      go_wp2_with fail
      refine ⟨⟨k + 1, by omega, by go_num, ?_, HkR.out.other ⟨w.heap.size, k, none⟩ (show w.heap.size ≠ w.heap.size + 1 + 1 by omega) _, Hbel.out.setCell (p := ⟨w.heap.size, k, none⟩) (Nat.le_refl _) _⟩, by simp [intOf]; omega⟩
      have h1 := HkA.out.set k (.int .u8 (xorZ x y))
      rw [List.setIfInBounds_toArray, ← List.map_set, Hst.out] at h1
      exact h1
    · have h32 : k = 32 := by omega
      have kF : Blk wr w.heap.size ((xorD a b).map (Value.int .u8)).toArray 25 := by
        rw [h32, List.take_of_length_le (by simp [xorD, ha.len, hb.len]), List.drop_eq_nil_of_le (by rw [ha.len]; omega), List.append_nil] at kA
        exact kA
      have HkF := hid kF
      have HkR := hid kR
      have Hbel := hid bel
      have H32 := hid h32
      clear kA kR bel kF h32
      go_wp2_with (first | (refine wpList_load_blk rfl 25 _ rfl w.heap.size rfl _ 25 HkF.out _ Tryz.underlying25 rfl 32 size_digest HD.out.size ?_) | (refine wpList_store_blk rfl 25 _ _ rfl (w.heap.size + 1 + 1) _ rfl rfl _ 25 HkR.out 32 size_digest HzA.out HD.out.size (ints_one _ _) ?_; intro w5 hbut5 hk5))
      exact bodyPost_ret (v := .agg ((xorD a b).map (Value.int .u8)).toArray) (results_blk Tryz.results211 _ (w.heap.size + 1 + 1) rfl _ 25 hk5 _ Tryz.underlying25 rfl 32 size_digest HD.out.size) rfl ⟨rfl, hbut5.below Hbel.out Hbel.out.size (by omega)⟩
end Go.Proofs.YtpinamdgbijjlaaGreatDoor
namespace Go.Proofs.YtpinamdgbijjlaaGreatDoor
set_option maxRecDepth 100000
open Go.ChangeShapes Go.WideShapes Go.ChangeAt Go.RowKit
end Go.Proofs.YtpinamdgbijjlaaGreatDoor
namespace Go.Proofs.YtpinamdgbijjlaaGreatDoor
set_option maxRecDepth 100000
open Go.ChangeShapes Go.WideShapes Go.ChangeAt Go.RowKit
/-- what an append may write to: the row, if it is a text of the call's own -/
theorem OwnB.typed {w w' : World} {B base : Nat} {e : TypeId} {v : Value} {bs : List Int} (h : OwnB w base e v bs) (hB : B ≤ base) (hg : w.grownBy w' v.ownBlock) : FlowB.Typed B e w w' :=
  FlowB.Typed.of_grown hg fun q hq => by
    refine ⟨Nat.le_trans hB (h.lt q hq).1, ?_⟩
    obtain ⟨⟨_, ⟨h, _⟩ | ⟨g, cap, cur, he, _, hh, _⟩⟩, _⟩ := h
    · rw [h] at hq; cases hq
    · rw [he] at hq
      simp only [Value.ownBlock, Option.some.injEq] at hq
      subst hq
      exact ⟨_, _, hh⟩
set_option maxHeartbeats 4000000 in
theorem of_any (n : Int) (key m : List Int) (ta : Option Addr) (tn tc : Nat) (w : World) (h0 : 0 ≤ n) (h1 : n < 18446744073709551616) (hkey : Dg key) (hT : TextAt w ta tn tc m) (hn : tn ≤ 140737488330000) :
    Calls Tryz.prog 215 #[.int .u64 n, .agg (key.map (Value.int .u8)).toArray, .slice ta tn tc] w fun e w' => e = .returned (.agg ((sumZ (be 32 n ++ (key ++ m))).map (Value.int .u8)).toArray) ∧ Below w.heap.size w w' := by
  obtain ⟨i0, hi, hz0, hz1, hz2⟩ := info_parts info_byte
  have HD := hid (Dg.sum (be 32 n ++ (key ++ m)))
  have b1 := (Below.refl w.heap.size w).alloc (Nat.le_refl _) (.cells (key.map (Value.int .u8)).toArray 25 (0, 0))
  have bz := b1.alloc b1.size (.cells (byteCells 32 []) 25 (0, 0))
  have K0 := hid ((Blk.new (w := w) (n := w.heap.size) rfl (key.map (Value.int .u8)).toArray 25).old (.cells (byteCells 32 []) 25 (0, 0)))
  have Kr := hid (Blk.new (w := w.alloc (.cells (key.map (Value.int .u8)).toArray 25 (0, 0))) (n := w.heap.size + 1) (by simp only [World.size_alloc]) (byteCells 32 []) 25)
  have Hb := hid bz
  have HzA := hid zsize
  have HT := hid hT
  have hle := hT.le
  have hmx := hT.max
  have Hml := hid hT.length
  have hbs : w.heap.size + 1 + 1 = ((w.alloc (.cells (key.map (Value.int .u8)).toArray 25 (0, 0))).alloc (.cells (byteCells 32 []) 25 (0, 0))).heap.size := by simp only [World.size_alloc]
  have Hbs := hid hbs
  clear bz b1 hT hbs
  go_enter Tryz.func215, Tryz.ntmps215
  go_wp2_with fail
  refine FlowB.wp_region_typed (w.heap.size + 1 + 1) 5 4 [0, 2] [] [(.c 1, [], []), (.c 3, [], [])] (by kernel_rfl) (by kernel_rfl) ?_
  apply Exists.intro
  refine ⟨fun w0 hb0 hF0 => ?_, ?_⟩
  · simp only [pick, List.getElem?_toArray, List.getElem?_cons_succ, List.getElem?_cons_zero, Option.toList_some, List.cons_append, List.nil_append]
    repeat (go_big_quiet_step (fail))
    exact wpQuiet_nil rfl
  refine FlowB.AlChk.nil ?_
  refine FlowB.Walk.call rfl 23 #[.int .u64 n, .int .i64 32] (fun _ _ => True) (fun v w' => OwnB w' (w.heap.size + 1 + 1) 5 v (be 32 n)) (fun v w' w'' _ h _ => h) (fun v w' w'' h k => h.below k) rfl (fun w1 hb1 hF1 _ => ⟨by go_simp, ?_⟩) ?_
  · refine (refnumber_own n 32 32 w1 h0 h1 rfl (by omega)).mono ?_
    rintro e w2 ⟨v, rfl, b2, o2⟩
    exact ⟨v, rfl, (FlowB.rel_typed _ _).of b2, trivial, o2.re (by rw [Hbs.out]; exact hb1.size)⟩
  rintro v w1 hb1 hF1 _
  apply Exists.intro
  refine ⟨fun w2 hb2 hF2 => wpQuiet_nil rfl, ?_⟩
  refine FlowB.AlChk.nil ?_
  refine FlowB.Walk.does rfl (fun _ _ => True) (fun v w' => OwnB w' (w.heap.size + 1 + 1) 5 v (be 32 n ++ key)) (fun v w' w'' _ h _ => h) (fun v w' w'' h k => h.below k) rfl (fun w2 hb2 hF2 hG2 => ?_) ?_
  · have hbB := hb2.below (B := w.heap.size + 1 + 1) (by rw [Hbs.out]; exact Nat.le_refl _)
    obtain ⟨v', w', hr, q2, q3, q4⟩ := run_append_text (P := Tryz.prog) 56 Tryz.underlying56 hi hz0 hz1 hz2 hG2 (hkey.text (K0.out.belowB (by omega) hbB)) (by simp [be_length]) (by rw [Hbs.out]; exact hb2.size)
    exact ⟨v', w', FlowB.exec_append rfl rfl rfl hr, hG2.typed (Nat.le_refl _) q3, trivial, q2⟩
  rintro v3 w3 hb3 hF3 _
  apply Exists.intro
  refine ⟨fun w2 hb2 hF2 => wpQuiet_nil rfl, ?_⟩
  refine FlowB.AlChk.nil ?_
  refine FlowB.Walk.fin fun w4 h4 _ hG4 => ?_
  simp only [List.drop_succ_cons, List.drop_zero]
  have hbB := h4.below (B := w.heap.size + 1 + 1) (by rw [Hbs.out]; exact Nat.le_refl _)
  have Hr4 := hid (Kr.out.belowB (by omega) hbB)
  have Hb4 := hid (Hb.out.trans (hbB.mono (by omega)))
  have Ho4 := hid (show OwnB w4 (w.heap.size + 1 + 1) 5 v3 (be 32 n ++ key) from hG4)
  have hsz4 : w.heap.size + 1 + 1 ≤ w4.heap.size := by rw [Hbs.out]; exact h4.size
  have HT4 := hid (HT.out.below Hb4.out)
  clear h4 hG4 hbB Kr K0 Hb
  go_wp2_with (at_builtin; refine wpList_append_text rfl _ _ rfl Tryz.underlying56 hi hz0 hz1 hz2 rfl Ho4.out rfl HT4.out (by rw [List.length_append, be_length, hkey.len]; omega) hsz4 ?_)
  intro v5 w5 own5 _ b5
  obtain ⟨a5, c5, rfl, hT5, _⟩ := own5.text
  rw [show (be 32 n ++ (key ++ m)).length = 64 + tn by rw [List.length_append, List.length_append, be_length, hkey.len, Hml.out]; omega] at hT5 ⊢
  have HT5 := hid hT5
  have Hb5 := hid (Hb4.out.trans (b5.mono (by omega)))
  have Hr5 := hid (Hr4.out.belowB (by omega) b5)
  clear own5 hT5 b5
  go_wp2_with fail
  refine (refsum_any a5 (64 + tn) c5 (be 32 n ++ (key ++ m)) w5 HT5.out (by omega)).mono ?_
  rintro e w6 ⟨rfl, b6⟩
  have Hb6 := hid (Below.on Hb5.out b6)
  have Hr6 := hid (Hr5.out.below b6)
  clear b6 HT5
  generalize hS : sumZ (be 32 n ++ (key ++ m)) = S at *
  go_wp2_with (refine wpList_store_blk rfl 25 _ _ rfl (w.heap.size + 1) _ rfl rfl _ 25 Hr6.out 32 size_digest HzA.out HD.out.size (ints_one _ _) ?_; intro w7 hbut7 hk7)
  exact bodyPost_ret (v := .agg (S.map (Value.int .u8)).toArray) (results_blk Tryz.results215 _ (w.heap.size + 1) rfl _ 25 hk7 _ Tryz.underlying25 rfl 32 size_digest HD.out.size) rfl ⟨by rw [hS], hbut7.below Hb6.out Hb6.out.size (by omega)⟩
set_option maxHeartbeats 2000000 in
theorem refF_any (key m : List Int) (w : World) (hkey : Dg key) (hm : Dg m) :
    Calls Tryz.prog 225 #[.agg (key.map (Value.int .u8)).toArray, .agg (m.map (Value.int .u8)).toArray] w fun e w' => e = .returned (.agg ((fZ key m).map (Value.int .u8)).toArray) ∧ Below w.heap.size w w' := by
  have HM : Hid (fZ key m = sumZ (be 32 0 ++ (key ++ m))) := hid (by unfold fZ; rfl)
  have HD := hid (Dg.f key m)
  have b1 := (Below.refl w.heap.size w).alloc (Nat.le_refl _) (.cells (key.map (Value.int .u8)).toArray 25 (0, 0))
  have b2 := b1.alloc b1.size (.cells (m.map (Value.int .u8)).toArray 25 (0, 0))
  have bz := b2.alloc b2.size (.cells (byteCells 32 []) 25 (0, 0))
  have K0 := hid (((Blk.new (w := w) (n := w.heap.size) rfl (key.map (Value.int .u8)).toArray 25).old (.cells (m.map (Value.int .u8)).toArray 25 (0, 0))).old (.cells (byteCells 32 []) 25 (0, 0)))
  have K1 := hid ((Blk.new (w := (w.alloc (.cells (key.map (Value.int .u8)).toArray 25 (0, 0)))) (n := w.heap.size + 1) (by simp only [World.size_alloc]) (m.map (Value.int .u8)).toArray 25).old (.cells (byteCells 32 []) 25 (0, 0)))
  have Kr := hid (Blk.new (w := ((w.alloc (.cells (key.map (Value.int .u8)).toArray 25 (0, 0))).alloc (.cells (m.map (Value.int .u8)).toArray 25 (0, 0)))) (n := w.heap.size + 1 + 1) (by simp only [World.size_alloc]) (byteCells 32 []) 25)
  have Hb := hid bz
  have HzA := hid zsize
  have hbz := bz.size
  have hbs : w.heap.size + 1 + 1 + 1 = (((w.alloc (.cells (key.map (Value.int .u8)).toArray 25 (0, 0))).alloc (.cells (m.map (Value.int .u8)).toArray 25 (0, 0))).alloc (.cells (byteCells 32 []) 25 (0, 0))).heap.size := by simp only [World.size_alloc]
  have Hbs := hid hbs
  clear bz hbs b1 b2
  go_enter Tryz.func225, Tryz.ntmps225
  go_wp2_with fail
  refine wp_region_flow 3 [0, 1, 2] [] [] (by kernel_rfl) (by kernel_rfl) ?_
  apply Exists.intro
  refine ⟨fun w0 hb0 hF0 => ?_, ?_⟩
  · have hs := fun e : Ext w0 => of_any 0 key m _ 32 32 e.at_ (by omega) (by omega) hkey (hm.text ((K1.out.below hb0).below e.same)) (by omega)
    rw [← HM.out] at hs
    have x0 : ∀ w', (∃ x : Ext w0, w' = x.at_) → ∃ T, Blk w' (w.heap.size) (key.map (Value.int .u8)).toArray T := fun w' ⟨x, hx⟩ => ⟨_, hx ▸ (K0.out.below hb0).below x.same⟩
    simp only [pick, List.getElem?_toArray, List.getElem?_cons_succ, List.getElem?_cons_zero, Option.toList_some, List.cons_append, List.nil_append]
    repeat (first | (go_big_quiet_want; refine quiet_load_blk 25 _ rfl (w.heap.size) rfl _ x0 _ Tryz.underlying25 rfl 32 size_digest hkey.size ?_; go_big_quiet_on; simp only [Act.put, List.setIfInBounds_toArray, List.set_cons_zero, List.set_cons_succ]) | go_big_quiet_step (first | (go_at_call 215; exact Calls.ext (hs _))))
    exact wpQuiet_nil rfl
  refine AlChk.nil ?_
  refine Walk.fin fun w4 h4 _ _ => ?_
  simp only [List.drop_succ_cons, List.drop_zero]
  have Hr4 := hid (Kr.out.below h4)
  have Hb4 := hid (Below.on Hb.out h4)
  clear h4
  go_wp2_with (refine wpList_store_blk rfl 25 _ _ rfl (w.heap.size + 1 + 1) _ rfl rfl _ 25 Hr4.out 32 size_digest HzA.out HD.out.size (ints_one _ _) ?_; intro w7 hbut7 hk7)
  exact bodyPost_ret (v := .agg ((fZ key m).map (Value.int .u8)).toArray) (results_blk Tryz.results225 _ (w.heap.size + 1 + 1) rfl _ 25 hk7 _ Tryz.underlying25 rfl 32 size_digest HD.out.size) rfl ⟨rfl, hbut7.below Hb4.out Hb4.out.size (by omega)⟩
set_option maxHeartbeats 2000000 in
theorem refAt_any (key ad : List Int) (w : World) (hkey : Dg key) (ha : Aw ad) :
    Calls Tryz.prog 197 #[.agg (key.map (Value.int .u8)).toArray, .agg (ad.map (Value.int .u32)).toArray] w fun e w' => e = .returned (.agg ((atZ key ad).map (Value.int .u8)).toArray) ∧ Below w.heap.size w w' := by
  have HM : Hid (atZ key ad = sumZ (be 32 3 ++ (key ++ wordBytes ad))) := hid (by unfold atZ prfZ; rfl)
  have HD := hid (Dg.at_ key ad)
  have b1 := (Below.refl w.heap.size w).alloc (Nat.le_refl _) (.cells (key.map (Value.int .u8)).toArray 25 (0, 0))
  have b2 := b1.alloc b1.size (.cells (ad.map (Value.int .u32)).toArray 216 (0, 0))
  have bz := b2.alloc b2.size (.cells (byteCells 32 []) 25 (0, 0))
  have K0 := hid (((Blk.new (w := w) (n := w.heap.size) rfl (key.map (Value.int .u8)).toArray 25).old (.cells (ad.map (Value.int .u32)).toArray 216 (0, 0))).old (.cells (byteCells 32 []) 25 (0, 0)))
  have K1 := hid ((Blk.new (w := (w.alloc (.cells (key.map (Value.int .u8)).toArray 25 (0, 0)))) (n := w.heap.size + 1) (by simp only [World.size_alloc]) (ad.map (Value.int .u32)).toArray 216).old (.cells (byteCells 32 []) 25 (0, 0)))
  have Kr := hid (Blk.new (w := ((w.alloc (.cells (key.map (Value.int .u8)).toArray 25 (0, 0))).alloc (.cells (ad.map (Value.int .u32)).toArray 216 (0, 0)))) (n := w.heap.size + 1 + 1) (by simp only [World.size_alloc]) (byteCells 32 []) 25)
  have Hb := hid bz
  have HzA := hid zsize
  have hbz := bz.size
  have hbs : w.heap.size + 1 + 1 + 1 = (((w.alloc (.cells (key.map (Value.int .u8)).toArray 25 (0, 0))).alloc (.cells (ad.map (Value.int .u32)).toArray 216 (0, 0))).alloc (.cells (byteCells 32 []) 25 (0, 0))).heap.size := by simp only [World.size_alloc]
  have Hbs := hid hbs
  clear bz hbs b1 b2
  go_enter Tryz.func197, Tryz.ntmps197
  go_wp2_with fail
  refine wp_region_flow 4 [0, 1] [] [(.c 2, [3], [])] (by kernel_rfl) (by kernel_rfl) ?_
  apply Exists.intro
  refine ⟨fun w0 hb0 hF0 => ?_, ?_⟩
  · skip
    have x0 : ∀ w', (∃ x : Ext w0, w' = x.at_) → ∃ T, Blk w' (w.heap.size) (key.map (Value.int .u8)).toArray T := fun w' ⟨x, hx⟩ => ⟨_, hx ▸ (K0.out.below hb0).below x.same⟩
    have x1 : ∀ w', (∃ x : Ext w0, w' = x.at_) → ∃ T, Blk w' (w.heap.size + 1) (ad.map (Value.int .u32)).toArray T := fun w' ⟨x, hx⟩ => ⟨_, hx ▸ (K1.out.below hb0).below x.same⟩
    simp only [pick, List.getElem?_toArray, List.getElem?_cons_succ, List.getElem?_cons_zero, Option.toList_some, List.cons_append, List.nil_append]
    repeat (first | (go_big_quiet_want; refine quiet_load_blk 25 _ rfl (w.heap.size) rfl _ x0 _ Tryz.underlying25 rfl 32 size_digest hkey.size ?_; go_big_quiet_on; simp only [Act.put, List.setIfInBounds_toArray, List.set_cons_zero, List.set_cons_succ]) | (go_big_quiet_want; refine quiet_load_blk 216 _ rfl (w.heap.size + 1) rfl _ x1 _ Tryz.underlying216 rfl 8 sizeAdrs ha.size ?_; go_big_quiet_on; simp only [Act.put, List.setIfInBounds_toArray, List.set_cons_zero, List.set_cons_succ]) | go_big_quiet_step (fail))
    exact wpQuiet_nil rfl
  refine AlChk.nil ?_
  refine Walk.call rfl 216 #[.agg (ad.map (Value.int .u32)).toArray] (BytesAt ad) (fun v w' w'' h k => h.below k) rfl (fun w1 hb1 hF1 => ⟨by go_simp, ?_⟩) ?_
  · refine (ref_bytes_cap ad ha.len ha.small w1).mono ?_
    rintro e w2 ⟨g, cap, hc1, hc2, hg, rfl, b2, k2⟩
    exact ⟨_, rfl, b2, g, cap, rfl, hc1, hc2, k2⟩
  rintro v w1 hb1 hF1 ⟨g, cap, rfl, _, _, _⟩
  apply Exists.intro
  refine ⟨fun w3 hb3 hF3 => ?_, ?_⟩
  · have hs := fun e : Ext w3 => of_any 3 key (wordBytes ad) _ 32 cap e.at_ (by omega) (by omega) hkey ((hF3.2.below e.same).text ha.len) (by omega)
    rw [← HM.out] at hs
    simp only [pick, List.getElem?_toArray, List.getElem?_cons_succ, List.getElem?_cons_zero, Option.toList_some, List.cons_append, List.nil_append, Act.put, List.setIfInBounds_toArray, List.set_cons_zero, List.set_cons_succ]
    repeat (go_big_quiet_step (first | (go_at_call 215; exact Calls.ext (hs _))))
    exact wpQuiet_nil rfl
  refine AlChk.nil ?_
  refine Walk.fin fun w4 h4 _ _ => ?_
  simp only [List.drop_succ_cons, List.drop_zero]
  have Hr4 := hid (Kr.out.below h4)
  have Hb4 := hid (Below.on Hb.out h4)
  clear h4
  go_wp2_with (refine wpList_store_blk rfl 25 _ _ rfl (w.heap.size + 1 + 1) _ rfl rfl _ 25 Hr4.out 32 size_digest HzA.out HD.out.size (ints_one _ _) ?_; intro w7 hbut7 hk7)
  exact bodyPost_ret (v := .agg ((atZ key ad).map (Value.int .u8)).toArray) (results_blk Tryz.results197 _ (w.heap.size + 1 + 1) rfl _ 25 hk7 _ Tryz.underlying25 rfl 32 size_digest HD.out.size) rfl ⟨rfl, hbut7.below Hb4.out Hb4.out.size (by omega)⟩
end Go.Proofs.YtpinamdgbijjlaaGreatDoor
namespace Go.Proofs.YtpinamdgbijjlaaGreatDoor
set_option maxRecDepth 100000
open Go.ChangeShapes Go.WideShapes Go.ChangeAt Go.RowKit
/-- an empty slice of bytes that the call made -/
def EmptyAt (B : Nat) (v : Value) : Prop := ∃ g, v = .slice (some ⟨g, 0, none⟩) 0 0 ∧ B ≤ g
def EmptyIn (v : Value) (w : World) : Prop := ∀ g, v = .slice (some ⟨g, 0, none⟩) 0 0 → Blk w g #[] 5
theorem EmptyIn.own {B g : Nat} {w : World} (h : EmptyIn (.slice (some ⟨g, 0, none⟩) 0 0) w) (hg : B ≤ g) : OwnB w B 5 (.slice (some ⟨g, 0, none⟩) 0 0) [] := OwnB.of_blk (bs := []) (h g rfl) hg rfl (by omega) (by simp)
theorem EmptyIn.new (w : World) : EmptyIn (.slice (some ⟨w.heap.size, 0, none⟩) 0 0) (w.alloc (.cells #[] 5)) := fun g hg => by
  injection hg with h1
  injection h1 with h1
  injection h1 with h1
  subst h1
  exact Blk.new rfl _ _
set_option maxHeartbeats 4000000 in
theorem refH_any (key a b : List Int) (w : World) (hkey : Dg key) (ha : Dg a) (hb : Dg b) :
    Calls Tryz.prog 198 #[.agg (key.map (Value.int .u8)).toArray, .agg (a.map (Value.int .u8)).toArray, .agg (b.map (Value.int .u8)).toArray] w fun e w' => e = .returned (.agg ((hZ key a b).map (Value.int .u8)).toArray) ∧ Below w.heap.size w w' := by
  have HM : Hid (hZ key a b = sumZ (be 32 1 ++ (key ++ (a ++ b)))) := hid (by unfold hZ; rfl)
  have HD := hid (Dg.h key a b)
  obtain ⟨i0, hi, hz0, hz1, hz2⟩ := info_parts info_byte
  have b1 := (Below.refl w.heap.size w).alloc (Nat.le_refl _) (.cells (key.map (Value.int .u8)).toArray 25 (0, 0))
  have b2 := b1.alloc b1.size (.cells (a.map (Value.int .u8)).toArray 25 (0, 0))
  have b3 := b2.alloc b2.size (.cells (b.map (Value.int .u8)).toArray 25 (0, 0))
  have bz := b3.alloc b3.size (.cells (byteCells 32 []) 25 (0, 0))
  have K0 := hid ((((Blk.new (w := w) (n := w.heap.size) rfl (key.map (Value.int .u8)).toArray 25).old (.cells (a.map (Value.int .u8)).toArray 25 (0, 0))).old (.cells (b.map (Value.int .u8)).toArray 25 (0, 0))).old (.cells (byteCells 32 []) 25 (0, 0)))
  have K1 := hid (((Blk.new (w := (w.alloc (.cells (key.map (Value.int .u8)).toArray 25 (0, 0)))) (n := w.heap.size + 1) (by simp only [World.size_alloc]) (a.map (Value.int .u8)).toArray 25).old (.cells (b.map (Value.int .u8)).toArray 25 (0, 0))).old (.cells (byteCells 32 []) 25 (0, 0)))
  have K2 := hid ((Blk.new (w := ((w.alloc (.cells (key.map (Value.int .u8)).toArray 25 (0, 0))).alloc (.cells (a.map (Value.int .u8)).toArray 25 (0, 0)))) (n := w.heap.size + 1 + 1) (by simp only [World.size_alloc]) (b.map (Value.int .u8)).toArray 25).old (.cells (byteCells 32 []) 25 (0, 0)))
  have Kr := hid (Blk.new (w := (((w.alloc (.cells (key.map (Value.int .u8)).toArray 25 (0, 0))).alloc (.cells (a.map (Value.int .u8)).toArray 25 (0, 0))).alloc (.cells (b.map (Value.int .u8)).toArray 25 (0, 0)))) (n := w.heap.size + 1 + 1 + 1) (by simp only [World.size_alloc]) (byteCells 32 []) 25)
  have Hb := hid bz
  have HzA := hid zsize
  have hbz := bz.size
  have hbs : w.heap.size + 1 + 1 + 1 + 1 = ((((w.alloc (.cells (key.map (Value.int .u8)).toArray 25 (0, 0))).alloc (.cells (a.map (Value.int .u8)).toArray 25 (0, 0))).alloc (.cells (b.map (Value.int .u8)).toArray 25 (0, 0))).alloc (.cells (byteCells 32 []) 25 (0, 0))).heap.size := by simp only [World.size_alloc]
  have Hbs := hid hbs
  clear bz hbs b1 b2 b3
  go_enter Tryz.func198, Tryz.ntmps198
  go_wp2_with fail
  have hB : w.heap.size + 1 + 1 + 1 + 1 ≤ ((((w.alloc (.cells (key.map (Value.int .u8)).toArray 25 (0, 0))).alloc (.cells (a.map (Value.int .u8)).toArray 25 (0, 0))).alloc (.cells (b.map (Value.int .u8)).toArray 25 (0, 0))).alloc (.cells (byteCells 32 []) 25 (0, 0))).heap.size := by rw [Hbs.out]; exact Nat.le_refl _
  have HB := hid hB
  clear hB
  refine FlowB.wp_region_typed (w.heap.size + 1 + 1 + 1 + 1) 5 7 [0, 2, 4] [] [(.c 1, [], []), (.c 3, [], []), (.c 5, [], []), (.c 6, [], [])] (by kernel_rfl) (by kernel_rfl) ?_
  apply Exists.intro
  refine ⟨fun w0 hb0 hF0 => ?_, ?_⟩
  · skip
    have x0 : ∀ w', (∃ x : Ext w0, w' = x.at_) → ∃ T, Blk w' (w.heap.size) (key.map (Value.int .u8)).toArray T := fun w' ⟨x, hx⟩ => ⟨_, hx ▸ (K0.out.belowB (by omega) (hb0.below HB.out)).below x.same⟩
    simp only [pick, List.getElem?_toArray, List.getElem?_cons_succ, List.getElem?_cons_zero, Option.toList_some, List.cons_append, List.nil_append]
    repeat (first | (go_big_quiet_want; refine quiet_load_blk 25 _ rfl (w.heap.size) rfl _ x0 _ Tryz.underlying25 rfl 32 size_digest hkey.size ?_; go_big_quiet_on; simp only [Act.put, List.setIfInBounds_toArray, List.set_cons_zero, List.set_cons_succ]) | go_big_quiet_step (fail))
    exact wpQuiet_nil rfl
  refine FlowB.AlChk.nil ?_
  refine FlowB.Walk.does rfl (fun v _ => EmptyAt (w.heap.size + 1 + 1 + 1 + 1) v) (fun v w' => EmptyIn v w') (fun v w' w'' _ h _ => h) (fun v w' w'' h k g hg => (h g hg).below k) rfl (fun w5 hb5 hF5 _ => ?_) ?_
  · exact ⟨.slice (some ⟨w5.heap.size, 0, none⟩) 0 0, w5.alloc (.cells #[] 5), by go_simp, (FlowB.rel_typed _ _).of ((Below.refl _ _).alloc (Nat.le_refl _) _), ⟨w5.heap.size, rfl, Nat.le_trans HB.out hb5.size⟩, EmptyIn.new w5⟩
  rintro v w5 hb5 hF5 ⟨gE, rfl, hgE⟩
  apply Exists.intro
  refine ⟨fun w4 hb4 hF4 => wpQuiet_nil rfl, ?_⟩
  refine FlowB.AlChk.nil ?_
  refine FlowB.Walk.does rfl (fun _ _ => True) (fun v w' => OwnB w' (w.heap.size + 1 + 1 + 1 + 1) 5 v a) (fun v w' w'' _ h _ => h) (fun v w' w'' h k => h.below k) rfl (fun w6 hb6 hF6 hG6 => ?_) ?_
  · have own := hG6.own hgE
    obtain ⟨v', w', hr, q2, q3, q4⟩ := run_append_text (P := Tryz.prog) 56 Tryz.underlying56 hi hz0 hz1 hz2 own (ha.text (K1.out.belowB (by omega) (hb6.below HB.out))) (by simp) (Nat.le_trans HB.out hb6.size)
    exact ⟨v', w', FlowB.exec_append rfl rfl rfl hr, own.typed (Nat.le_refl _) q3, trivial, by simpa using q2⟩
  rintro v6 w6 hb6 hF6 _
  apply Exists.intro
  refine ⟨fun w4 hb4 hF4 => wpQuiet_nil rfl, ?_⟩
  refine FlowB.AlChk.nil ?_
  refine FlowB.Walk.does rfl (fun _ _ => True) (fun v w' => OwnB w' (w.heap.size + 1 + 1 + 1 + 1) 5 v (a ++ b)) (fun v w' w'' _ h _ => h) (fun v w' w'' h k => h.below k) rfl (fun w7 hb7 hF7 hG7 => ?_) ?_
  · obtain ⟨v', w', hr, q2, q3, q4⟩ := run_append_text (P := Tryz.prog) 56 Tryz.underlying56 hi hz0 hz1 hz2 hG7 (hb.text (K2.out.belowB (by omega) (hb7.below HB.out))) (by rw [ha.len]; omega) (Nat.le_trans HB.out hb7.size)
    exact ⟨v', w', FlowB.exec_append rfl rfl rfl hr, hG7.typed (Nat.le_refl _) q3, trivial, q2⟩
  rintro v7 w7 hb7 hF7 _
  apply Exists.intro
  refine ⟨fun w4 hb4 hF4 => wpQuiet_nil rfl, ?_⟩
  refine FlowB.AlChk.nil ?_
  refine FlowB.Walk.call rfl 215 #[.int .u64 1, .agg (key.map (Value.int .u8)).toArray, v7] (fun v _ => v = .agg ((hZ key a b).map (Value.int .u8)).toArray) (fun _ _ => True) (fun v w' w'' _ h _ => h) (fun v w' w'' _ _ => trivial) rfl (fun w9 hb9 hF9 hG9 => ⟨by go_simp, ?_⟩) ?_
  · obtain ⟨aT, cT, rfl, hT, _⟩ := hG9.text
    refine (of_any 1 key (a ++ b) aT _ cT w9 (by omega) (by omega) hkey hT (by rw [List.length_append, ha.len, hb.len]; omega)).mono ?_
    rintro e w10 ⟨rfl, b10⟩
    exact ⟨_, rfl, (FlowB.rel_typed _ _).of b10, by rw [HM.out], trivial⟩
  rintro v9 w9 hb9 hF9 rfl
  apply Exists.intro
  refine ⟨fun w4 hb4 hF4 => wpQuiet_nil rfl, ?_⟩
  refine FlowB.AlChk.nil ?_
  refine FlowB.Walk.fin fun w4 h4 _ _ => ?_
  simp only [List.drop_succ_cons, List.drop_zero]
  have hbB := h4.below HB.out
  have Hr4 := hid (Kr.out.belowB (by omega) hbB)
  have Hb4 := hid (Hb.out.trans (hbB.mono (by omega)))
  clear h4 hbB
  go_wp2_with (refine wpList_store_blk rfl 25 _ _ rfl (w.heap.size + 1 + 1 + 1) _ rfl rfl _ 25 Hr4.out 32 size_digest HzA.out HD.out.size (ints_one _ _) ?_; intro w7 hbut7 hk7)
  exact bodyPost_ret (v := .agg ((hZ key a b).map (Value.int .u8)).toArray) (results_blk Tryz.results198 _ (w.heap.size + 1 + 1 + 1) rfl _ 25 hk7 _ Tryz.underlying25 rfl 32 size_digest HD.out.size) rfl ⟨rfl, hbut7.below Hb4.out Hb4.out.size (by omega)⟩
set_option maxHeartbeats 4000000 in
theorem refMask_any (a b : List Int) (w : World) (ha : Dg a) (hb : Dg b) :
    Calls Tryz.prog 199 #[.agg (a.map (Value.int .u8)).toArray, .agg (b.map (Value.int .u8)).toArray] w fun e w' => e = .returned (.agg ((xorD a b).map (Value.int .u8)).toArray) ∧ Below w.heap.size w w' := by
  have HD := hid (ha.xor hb)
  have b1 := (Below.refl w.heap.size w).alloc (Nat.le_refl _) (.cells (a.map (Value.int .u8)).toArray 25 (0, 0))
  have b2 := b1.alloc b1.size (.cells (b.map (Value.int .u8)).toArray 25 (0, 0))
  have bz := b2.alloc b2.size (.cells (byteCells 32 []) 25 (0, 0))
  have K0 := hid (((Blk.new (w := w) (n := w.heap.size) rfl (a.map (Value.int .u8)).toArray 25).old (.cells (b.map (Value.int .u8)).toArray 25 (0, 0))).old (.cells (byteCells 32 []) 25 (0, 0)))
  have K1 := hid ((Blk.new (w := (w.alloc (.cells (a.map (Value.int .u8)).toArray 25 (0, 0)))) (n := w.heap.size + 1) (by simp only [World.size_alloc]) (b.map (Value.int .u8)).toArray 25).old (.cells (byteCells 32 []) 25 (0, 0)))
  have Kr := hid (Blk.new (w := ((w.alloc (.cells (a.map (Value.int .u8)).toArray 25 (0, 0))).alloc (.cells (b.map (Value.int .u8)).toArray 25 (0, 0)))) (n := w.heap.size + 1 + 1) (by simp only [World.size_alloc]) (byteCells 32 []) 25)
  have Hb := hid bz
  have HzA := hid zsize
  have hbz := bz.size
  have hbs : w.heap.size + 1 + 1 + 1 = (((w.alloc (.cells (a.map (Value.int .u8)).toArray 25 (0, 0))).alloc (.cells (b.map (Value.int .u8)).toArray 25 (0, 0))).alloc (.cells (byteCells 32 []) 25 (0, 0))).heap.size := by simp only [World.size_alloc]
  have Hbs := hid hbs
  clear bz hbs b1 b2
  have Ko := hid (Blk.new (w := (((w.alloc (.cells (a.map (Value.int .u8)).toArray 25 (0, 0))).alloc (.cells (b.map (Value.int .u8)).toArray 25 (0, 0))).alloc (.cells (byteCells 32 []) 25 (0, 0)))) (n := w.heap.size + 1 + 1 + 1) (by rw [Hbs.out]) (byteCells 32 []) 25)
  have K0' := hid (K0.out.old (.cells (byteCells 32 []) 25 (0, 0)))
  have K1' := hid (K1.out.old (.cells (byteCells 32 []) 25 (0, 0)))
  have Kr' := hid (Kr.out.old (.cells (byteCells 32 []) 25 (0, 0)))
  have Hb' := hid (Hb.out.alloc Hb.out.size (.cells (byteCells 32 []) 25 (0, 0)))
  clear K0 K1 Kr Hb
  go_enter Tryz.func199, Tryz.ntmps199
  go_wp2_with fail
  go_loopw [6] (fun v wr => ∃ k : Nat, k ≤ 32 ∧ v = .int .i64 k ∧ Blk wr (w.heap.size + 1 + 1 + 1) (byteCells 32 ((xorD a b).take k)) 25 ∧ Blk wr (w.heap.size) (a.map (Value.int .u8)).toArray 25 ∧ Blk wr (w.heap.size + 1) (b.map (Value.int .u8)).toArray 25 ∧ Blk wr (w.heap.size + 1 + 1) (byteCells 32 []) 25 ∧ Below w.heap.size w wr) (fun v _ => 32 - (intOf v).toNat)
  case atStart => exact ⟨0, Nat.zero_le _, rfl, Ko.out, K0'.out, K1'.out, Kr'.out, Hb'.out⟩
  case round =>
    clear Ko K0' K1' Kr' Hb'
    obtain ⟨k, hk, rfl, kO, kA, kB, kR, bel⟩ := hrel
    by_cases hlt : k < 32
    · have hxa : 0 ≤ a.getD k 0 ∧ a.getD k 0 < 256 := ha.small _ (by rw [List.getD_eq_getElem?_getD, List.getElem?_eq_getElem (by rw [ha.len]; omega)]; exact List.getElem_mem _)
      have hxb : 0 ≤ b.getD k 0 ∧ b.getD k 0 < 256 := hb.small _ (by rw [List.getD_eq_getElem?_getD, List.getElem?_eq_getElem (by rw [hb.len]; omega)]; exact List.getElem_mem _)
      have hxor := bits_xorZ hxa hxb
      have ca := (kA.cell k).trans (digest_get ha.len k hlt _ rfl)
      have cb := (kB.cell k).trans (digest_get hb.len k hlt _ rfl)
      have hts : (xorD a b).take (k + 1) = (xorD a b).take k ++ [xorZ (a.getD k 0) (b.getD k 0)] := by
        have hl : k < (xorD a b).length := by simp [xorD, ha.len, hb.len, hlt]
        rw [List.take_succ_eq_append_getElem hl]
        congr 2
        simp [xorD, List.getD_eq_getElem?_getD, show k < a.length by rw [ha.len]; omega, show k < b.length by rw [hb.len]; omega]
      have hll : ((xorD a b).take k).length = k := by simp [xorD, ha.len, hb.len]; omega
      have Hts := hid hts
      have Hll := hid hll
      have hz : wr.cell? ⟨w.heap.size + 1 + 1 + 1, k, none⟩ = some (.int .u8 0) := by rw [kO.cell]; exact byteCells_zero _ _ _ (by omega) hlt
      have HO := hid kO
      have HA := hid kA
      have HB := hid kB
      have HR := hid kR
      have Hbel := hid bel
      have hlA := kA.lt
      have hlB := kB.lt
      have hlO := kO.lt
      obtain ⟨hxa0, hxa1⟩ := hxa
      obtain ⟨hxb0, hxb1⟩ := hxb
      clear hts hll
      generalize a.getD k 0 = x at *
      generalize b.getD k 0 = y at *
      clear kO kA kB kR bel
      go_wp2_with fail
      refine wp_region_flow 9 (List.range 9) [] [] (by kernel_rfl) (by kernel_rfl) ?_
      apply Exists.intro
      refine ⟨fun w0 hb0 hF0 => ?_, ?_⟩
      · have k1 : ∀ e : Ext w0, e.at_.cell? ⟨w.heap.size, k, none⟩ = some (.int .u8 x) := fun e => by rw [((HA.out.below hb0).below e.same).cell, ← HA.out.cell]; exact ca
        have k2 : ∀ e : Ext w0, e.at_.cell? ⟨w.heap.size + 1, k, none⟩ = some (.int .u8 y) := fun e => by rw [((HB.out.below hb0).below e.same).cell, ← HB.out.cell]; exact cb
        simp only [pick, List.range, List.range.loop, List.getElem?_toArray, List.getElem?_cons_succ, List.getElem?_cons_zero, Option.toList_some, List.cons_append, List.nil_append]
        repeat (go_big_quiet_step (fail))
        exact wpQuiet_nil rfl
      refine AlChk.nil ?_
      refine Walk.fin fun w4 h4 _ _ => ?_
      simp only [List.drop_succ_cons, List.drop_zero]
      have HO4 := hid (HO.out.below h4)
      have HA4 := hid (HA.out.below h4)
      have HB4 := hid (HB.out.below h4)
      have HR4 := hid (HR.out.below h4)
      have Hbel4 := hid (Below.on Hbel.out h4)
      have hz4 : w4.cell? ⟨w.heap.size + 1 + 1 + 1, k, none⟩ = some (.int .u8 0) := by rw [HO4.out.cell, ← HO.out.cell]; exact hz
      have fr := HO4.out.free
      clear h4 hz ca cb HO HA HB HR Hbel
      go_wp2_with fail
      refine ⟨⟨k + 1, by omega, by go_num, ?_, HA4.out.other ⟨w.heap.size + 1 + 1 + 1, k, none⟩ (show w.heap.size + 1 + 1 + 1 ≠ w.heap.size by omega) _, HB4.out.other ⟨w.heap.size + 1 + 1 + 1, k, none⟩ (show w.heap.size + 1 + 1 + 1 ≠ w.heap.size + 1 by omega) _, HR4.out.other ⟨w.heap.size + 1 + 1 + 1, k, none⟩ (show w.heap.size + 1 + 1 + 1 ≠ w.heap.size + 1 + 1 by omega) _, Hbel4.out.setCell (p := ⟨w.heap.size + 1 + 1 + 1, k, none⟩) (show w.heap.size ≤ w.heap.size + 1 + 1 + 1 by omega) _⟩, by simp [intOf]; omega⟩
      have h1 := HO4.out.set k (.int .u8 (xorZ x y))
      have h2 := byteCells_set 32 ((xorD a b).take k) (xorZ x y) (by have := Hll.out; omega)
      rw [Hll.out] at h2
      rw [h2, ← Hts.out] at h1
      exact h1
    · have h32 : k = 32 := by omega
      have kF : Blk wr (w.heap.size + 1 + 1 + 1) ((xorD a b).map (Value.int .u8)).toArray 25 := by
        rw [h32, List.take_of_length_le (by simp [xorD, ha.len, hb.len]), byteCells_full 32 _ (by simp [xorD, ha.len, hb.len])] at kO
        exact kO
      have HkF := hid kF
      have HkR := hid kR
      have Hbel := hid bel
      have H32 := hid h32
      clear kO kA kB kR bel kF h32
      go_wp2_with (first | (refine wpList_load_blk rfl 25 _ rfl (w.heap.size + 1 + 1 + 1) rfl _ 25 HkF.out _ Tryz.underlying25 rfl 32 size_digest HD.out.size ?_) | (refine wpList_store_blk rfl 25 _ _ rfl (w.heap.size + 1 + 1) _ rfl rfl _ 25 HkR.out 32 size_digest HzA.out HD.out.size (ints_one _ _) ?_; intro w7 hbut7 hk7))
      exact bodyPost_ret (v := .agg ((xorD a b).map (Value.int .u8)).toArray) (results_blk Tryz.results199 _ (w.heap.size + 1 + 1) rfl _ 25 hk7 _ Tryz.underlying25 rfl 32 size_digest HD.out.size) rfl ⟨rfl, hbut7.below Hbel.out Hbel.out.size (by omega)⟩
end Go.Proofs.YtpinamdgbijjlaaGreatDoor
namespace Go.Proofs.YtpinamdgbijjlaaGreatDoor
set_option maxRecDepth 100000
open Go.ChangeShapes Go.WideShapes Go.ChangeAt Go.RowKit
def zD : List Int := List.replicate 32 0
theorem Dg.zero : Dg zD := ⟨by simp [zD], fun x hx => by have := List.eq_of_mem_replicate hx; omega⟩
theorem exec_make {P : Program} {o : Oper} {A : Act} {w w' : World} {l c : Operand} {t : TypeId} {vl vc v' : Value} (ho : o.op = .makeSlice t l c) (hl : A.eval l = vl) (hc : A.eval c = vc)
    (hr : (Instr.makeSlice t vl vc).run P w = .ok v' w') : (execOp A.eval o).run P w = .ok (.value v') w' := by
  unfold execOp
  simp [ho, hl, hc, hr]
theorem make_cells (n : Nat) : madeCells #[Value.int IntKind.u8 0] n = byteCells n [] := by
  have := made_zeros n 0
  simp only [be, List.append_nil] at this
  apply Array.ext'
  rw [this]
  simp [byteCells]
end Go.Proofs.YtpinamdgbijjlaaGreatDoor
namespace Go.Proofs.YtpinamdgbijjlaaGreatDoor
set_option maxRecDepth 100000
open Go.ChangeShapes Go.WideShapes Go.ChangeAt Go.RowKit
/-- an address with its last three words -/
def setAd (ad : List Int) (f s p : Int) : List Int := ad.take 5 ++ [f, s, p]
theorem Aw.set {ad : List Int} (h : Aw ad) {f s p : Int} (hf : 0 ≤ f ∧ f < 4294967296) (hs : 0 ≤ s ∧ s < 4294967296) (hp : 0 ≤ p ∧ p < 4294967296) : Aw (setAd ad f s p) := ⟨by simp [setAd, h.len], fun x hx => by
  unfold setAd at hx
  rcases List.mem_append.1 hx with h1 | h1
  · exact h.small x (List.mem_of_mem_take h1)
  · simp at h1
    rcases h1 with rfl | rfl | rfl <;> assumption⟩
theorem Aw.get {ad : List Int} (h : Aw ad) (j : Nat) : 0 ≤ ad.getD j 0 ∧ ad.getD j 0 < 4294967296 := by
  rcases Nat.lt_or_ge j ad.length with hj | hj
  · rw [List.getD_eq_getElem?_getD, List.getElem?_eq_getElem hj]
    exact h.small _ (List.getElem_mem _)
  · rw [List.getD_eq_getElem?_getD, List.getElem?_eq_none hj]
    simp
theorem Aw.cases {ad : List Int} (h : Aw ad) : ∃ a0 a1 a2 a3 a4 a5 a6 a7, ad = [a0, a1, a2, a3, a4, a5, a6, a7] := by
  obtain ⟨hl, _⟩ := h
  match ad, hl with
  | [a0, a1, a2, a3, a4, a5, a6, a7], _ => exact ⟨a0, a1, a2, a3, a4, a5, a6, a7, rfl⟩
theorem at_list (ad : List Int) (f s : Int) (w : World) (h : Aw ad) : Calls Tryz.prog 187 #[.agg (ad.map (Value.int .u32)).toArray, .int .u32 f, .int .u32 s] w fun e w' => e = .returned (.agg ((setAd ad f s 0).map (Value.int .u32)).toArray) ∧ Below w.heap.size w w' := by
  obtain ⟨a0, a1, a2, a3, a4, a5, a6, a7, rfl⟩ := h.cases
  exact at_any a0 a1 a2 a3 a4 a5 a6 a7 f s w
theorem for_list (ad : List Int) (f s p q : Int) (w : World) (h : Aw ad) : Calls Tryz.prog 209 #[.agg ((setAd ad f s p).map (Value.int .u32)).toArray, .int .u32 q] w fun e w' => e = .returned (.agg ((setAd ad f s q).map (Value.int .u32)).toArray) ∧ Below w.heap.size w w' := by
  obtain ⟨a0, a1, a2, a3, a4, a5, a6, a7, rfl⟩ := h.cases
  exact for_any a0 a1 a2 a3 a4 f s p q w
theorem refat_list (ad : List Int) (f s t : Int) (w : World) (h : Aw ad) : Calls Tryz.prog 166 #[.agg (ad.map (Value.int .u32)).toArray, .int .u32 f, .int .u32 s, .int .u32 t] w fun e w' => e = .returned (.agg ((setAd ad f s t).map (Value.int .u32)).toArray) ∧ Below w.heap.size w w' := by
  obtain ⟨a0, a1, a2, a3, a4, a5, a6, a7, rfl⟩ := h.cases
  exact ref_at a0 a1 a2 a3 a4 a5 a6 a7 f s t w
/-- a step of a chain -/
@[irreducible] def stepZ (pub ad x : List Int) (j : Nat) : List Int := fZ (atZ pub (setAd ad (ad.getD 5 0) j 0)) (xorD x (atZ pub (setAd ad (ad.getD 5 0) j 1)))
def runZ (pub ad x : List Int) (frm : Nat) : Nat → List Int
  | 0 => x
  | n + 1 => stepZ pub ad (runZ pub ad x frm n) (frm + n)
theorem Dg.step (pub ad x : List Int) (j : Nat) : Dg (stepZ pub ad x j) := by unfold stepZ; exact Dg.f _ _
theorem Dg.run {pub ad x : List Int} (hx : Dg x) (frm n : Nat) : Dg (runZ pub ad x frm n) := by
  cases n with
  | zero => exact hx
  | succ n => exact Dg.step _ _ _ _
theorem zeroA_size : (List.replicate 8 (Value.int IntKind.u32 0)).toArray.size = 8 := by simp
set_option maxHeartbeats 4000000 in
theorem step_any (pub ad x : List Int) (j ba bp bx : Nat) (w : World) (hpub : Dg pub) (had : Aw ad) (hx : Dg x) (hj : j < 100) (ka : Blk w ba (ad.map (Value.int .u32)).toArray 216) (kp : Blk w bp (pub.map (Value.int .u8)).toArray 25) (kx : Blk w bx (x.map (Value.int .u8)).toArray 25) (tab : ShaTab w) :
    Calls Tryz.prog 223 #[.int .i64 j, .pointer (some ⟨ba, 0, none⟩), .pointer (some ⟨bp, 0, none⟩), .pointer (some ⟨bx, 0, none⟩)] w fun e w' => e = .returned (.tuple #[]) ∧ But bx w w' ∧ Blk w' bx ((stepZ pub ad x j).map (Value.int .u8)).toArray 25 := by
  have HS : Hid (stepZ pub ad x j = fZ (atZ pub (setAd ad (ad.getD 5 0) j 0)) (xorD x (atZ pub (setAd ad (ad.getD 5 0) j 1)))) := hid (by unfold stepZ; rfl)
  have hf := had.get 5
  have c5 : w.cell? ⟨ba, 5, none⟩ = some (.int .u32 (ad.getD 5 0)) := by
    rw [ka.cell]
    have := had.len
    simp [List.getD_eq_getElem?_getD, show 5 < ad.length by omega]
  have HA0 := hid (had.set hf (show 0 ≤ (j : Int) ∧ (j : Int) < 4294967296 by omega) (show (0 : Int) ≤ 0 ∧ (0 : Int) < 4294967296 by omega))
  have HA1 := hid (had.set hf (show 0 ≤ (j : Int) ∧ (j : Int) < 4294967296 by omega) (show (0 : Int) ≤ 1 ∧ (1 : Int) < 4294967296 by omega))
  have HZ := hid zeroA_size
  have HzA := hid zsize
  have HaI := hid (fun W : World => at_list ad (ad.getD 5 0) j W had)
  have HfI := hid (fun (q : Int) (W : World) => for_list ad (ad.getD 5 0) j 0 q W had)
  have Htab := hid tab
  have Ka := hid ka
  have Kp := hid kp
  have Kx := hid kx
  have Hsa := hid had.size
  have hlx := kx.lt
  have hla := ka.lt
  clear tab ka kp kx
  generalize ad.getD 5 0 = f at *
  obtain ⟨hf0, hf1⟩ := hf
  go_enter Tryz.func223, Tryz.ntmps223
  go_wp2_with (refine wpList_load_blk rfl 216 _ rfl ba rfl _ 216 Ka.out _ Tryz.underlying216 rfl 8 sizeAdrs Hsa.out ?_)
  refine (HaI.out _).mono ?_
  rintro e w1 ⟨rfl, b1⟩
  have Hb1 := hid b1
  have Kp1 := hid (Kp.out.below b1)
  have Kx1 := hid (Kx.out.below b1)
  have hz1 := b1.size
  clear b1 c5
  generalize hAD : setAd ad f j 0 = AD at *
  have HAD := hid hAD
  clear hAD
  go_wp2_with (
    refine wpList_store_blk rfl 216 _ _ rfl w1.heap.size _ rfl rfl _ 216 (Blk.new rfl (List.replicate 8 (Value.int IntKind.u32 0)).toArray _) 8 sizeAdrs HZ.out HA0.out.size (ints_one _ _) ?_
    intro w2 hb2 hk2
    have Hb2 := hid (hb2.below (Hb1.out.alloc hz1 _) (by rw [World.size_alloc]; omega) hz1)
    have Kd2 := hid hk2
    have Kp2 := hid (hb2.blk (Kp1.out.old _) (by have := Kp1.out.lt; omega))
    have Kx2 := hid (hb2.blk (Kx1.out.old _) (by have := Kx1.out.lt; omega))
    clear hb2 hk2)
  simp only [Act.put]
  refine wp_region_flow 5 [0, 1, 2, 3] [4] [(.b 4, [], [])] (by kernel_rfl) (by kernel_rfl) ?_
  apply Exists.intro
  refine ⟨fun w0 hb0 hF0 => ?_, ?_⟩
  · skip
    have x0 : ∀ w', (∃ x : Ext w0, w' = x.at_) → ∃ T, Blk w' (bp) (pub.map (Value.int .u8)).toArray T := fun w' ⟨x, hx⟩ => ⟨_, hx ▸ (Kp2.out.below hb0).below x.same⟩
    have x1 : ∀ w', (∃ x : Ext w0, w' = x.at_) → ∃ T, Blk w' (w1.heap.size) (AD.map (Value.int .u32)).toArray T := fun w' ⟨x, hx⟩ => ⟨_, hx ▸ (Kd2.out.below hb0).below x.same⟩
    have c1 := fun e : Ext w0 => HfI.out 0 e.at_
    have c2 := fun e : Ext w0 => At_any pub AD e.at_ hpub HA0.out ((Htab.out.below (Below.on Hb2.out hb0)).below e.same)
    rw [HAD.out] at c1
    simp only [pick, List.getElem?_toArray, List.getElem?_cons_succ, List.getElem?_cons_zero, Option.toList_some, List.cons_append, List.nil_append]
    repeat (first | (go_big_quiet_want; refine quiet_load_blk 25 _ rfl (bp) rfl _ x0 _ Tryz.underlying25 rfl 32 size_digest hpub.size ?_; go_big_quiet_on; simp only [Act.put, List.setIfInBounds_toArray, List.set_cons_zero, List.set_cons_succ]) | (go_big_quiet_want; refine quiet_load_blk 216 _ rfl (w1.heap.size) rfl _ x1 _ Tryz.underlying216 rfl 8 sizeAdrs HA0.out.size ?_; go_big_quiet_on; simp only [Act.put, List.setIfInBounds_toArray, List.set_cons_zero, List.set_cons_succ]) | go_big_quiet_step (first | (go_at_call 209; exact Calls.ext (c1 _)) | (go_at_call 191; exact Calls.ext (c2 _))))
    exact wpQuiet_nil rfl
  refine AlChk.one rfl (fun b => .pointer (some ⟨b, 0, none⟩)) (.cells (byteCells 32 []) 25 (0, 0)) rfl (fun w3 hb3 hF3 => by go_simp; rfl) ?_
  refine AlChk.nil ?_
  refine Walk.blk rfl (fun b => .pointer (some ⟨b, 0, none⟩)) (.cells (byteCells 32 []) 25 (0, 0)) (by simp) ?_
  intro b3 w3 hb3 hF3 hge3 _
  apply Exists.intro
  refine ⟨fun w4 hb4 hF4 => wpQuiet_nil rfl, ?_⟩
  refine AlChk.nil ?_
  refine Walk.fin fun w3 h3 hF3 _ => ?_
  simp only [List.drop_succ_cons, List.drop_zero]
  have kb3 : Blk w3 b3 (byteCells 32 []) 25 := hF3.2
  have Hk3 := hid kb3
  have Hb3 := hid (Below.on Hb2.out h3)
  have Kd3 := hid (Kd2.out.below h3)
  have Kp3 := hid (Kp2.out.below h3)
  have Kx3 := hid (Kx2.out.below h3)
  have hge3w : w.heap.size ≤ b3 := Nat.le_trans Hb2.out.size hge3
  have hne31 : w1.heap.size ≠ b3 := by have := Kd2.out.lt; omega
  have hne3p : bp ≠ b3 := by have := Kp2.out.lt; omega
  have hne3x : bx ≠ b3 := by have := Kx2.out.lt; omega
  have HDk := hid (Dg.at_ pub AD)
  clear kb3 h3 hF3 Kd2 Kp2 Kx2
  go_wp2_with (
    refine wpList_store_blk rfl 25 _ _ rfl b3 _ rfl rfl _ 25 Hk3.out 32 size_digest HzA.out HDk.out.size (ints_one _ _) ?_
    intro w4 hb4 hk4
    have Hb4 := hid (hb4.below Hb3.out Hb3.out.size hge3w)
    have Kk4 := hid hk4
    have Kd4 := hid (hb4.blk Kd3.out hne31)
    have Kp4 := hid (hb4.blk Kp3.out hne3p)
    have Kx4 := hid (hb4.blk Kx3.out hne3x)
    clear hb4 hk4)
  simp only [Act.put, List.setIfInBounds_toArray, List.set_cons_zero, List.set_cons_succ]
  refine wp_region_flow 5 [0, 1, 2, 3] [4] [(.b 4, [], [])] (by kernel_rfl) (by kernel_rfl) ?_
  apply Exists.intro
  refine ⟨fun w0 hb0 hF0 => ?_, ?_⟩
  · skip
    have x0 : ∀ w', (∃ x : Ext w0, w' = x.at_) → ∃ T, Blk w' (bp) (pub.map (Value.int .u8)).toArray T := fun w' ⟨x, hx⟩ => ⟨_, hx ▸ (Kp4.out.below hb0).below x.same⟩
    have x1 : ∀ w', (∃ x : Ext w0, w' = x.at_) → ∃ T, Blk w' (w1.heap.size) (AD.map (Value.int .u32)).toArray T := fun w' ⟨x, hx⟩ => ⟨_, hx ▸ (Kd4.out.below hb0).below x.same⟩
    have c1 := fun e : Ext w0 => HfI.out 1 e.at_
    have c2 := fun e : Ext w0 => At_any pub (setAd ad f j 1) e.at_ hpub HA1.out ((Htab.out.below (Below.on Hb4.out hb0)).below e.same)
    skip
    simp only [pick, List.getElem?_toArray, List.getElem?_cons_succ, List.getElem?_cons_zero, Option.toList_some, List.cons_append, List.nil_append]
    repeat (first | (go_big_quiet_want; refine quiet_load_blk 25 _ rfl (bp) rfl _ x0 _ Tryz.underlying25 rfl 32 size_digest hpub.size ?_; go_big_quiet_on; simp only [Act.put, List.setIfInBounds_toArray, List.set_cons_zero, List.set_cons_succ]) | (go_big_quiet_want; refine quiet_load_blk 216 _ rfl (w1.heap.size) rfl _ x1 _ Tryz.underlying216 rfl 8 sizeAdrs HA0.out.size ?_; go_big_quiet_on; simp only [Act.put, List.setIfInBounds_toArray, List.set_cons_zero, List.set_cons_succ]) | go_big_quiet_step (first | (go_at_call 209; exact Calls.ext (c1 _)) | (go_at_call 191; exact Calls.ext (c2 _))))
    exact wpQuiet_nil rfl
  refine AlChk.one rfl (fun b => .pointer (some ⟨b, 0, none⟩)) (.cells (byteCells 32 []) 25 (0, 0)) rfl (fun w3 hb3 hF3 => by go_simp; rfl) ?_
  refine AlChk.nil ?_
  refine Walk.blk rfl (fun b => .pointer (some ⟨b, 0, none⟩)) (.cells (byteCells 32 []) 25 (0, 0)) (by simp) ?_
  intro b5 w3 hb3 hF3 hge5 _
  apply Exists.intro
  refine ⟨fun w4 hb4 hF4 => wpQuiet_nil rfl, ?_⟩
  refine AlChk.nil ?_
  refine Walk.fin fun w5 h5 hF5 _ => ?_
  simp only [List.drop_succ_cons, List.drop_zero]
  have kb5 : Blk w5 b5 (byteCells 32 []) 25 := hF5.2
  have Hk5 := hid kb5
  have Hb5 := hid (Below.on Hb4.out h5)
  have Kk5 := hid (Kk4.out.below h5)
  have Kp5 := hid (Kp4.out.below h5)
  have Kx5 := hid (Kx4.out.below h5)
  have hge5w : w.heap.size ≤ b5 := Nat.le_trans Hb4.out.size hge5
  have hne5k : b3 ≠ b5 := by have := Kk4.out.lt; omega
  have hne5x : bx ≠ b5 := by have := Kx4.out.lt; omega
  have HDm := hid (Dg.at_ pub (setAd ad f j 1))
  clear kb5 h5 hF5 Kd4 Kp4 Kx4 Kk4
  go_wp2_with (
    refine wpList_store_blk rfl 25 _ _ rfl b5 _ rfl rfl _ 25 Hk5.out 32 size_digest HzA.out HDm.out.size (ints_one _ _) ?_
    intro w6 hb6 hk6
    have Hb6 := hid (hb6.below Hb5.out Hb5.out.size hge5w)
    have Km6 := hid hk6
    have Kk6 := hid (hb6.blk Kk5.out hne5k)
    have Kx6 := hid (hb6.blk Kx5.out hne5x)
    clear hb6 hk6)
  simp only [Act.put, List.setIfInBounds_toArray, List.set_cons_zero, List.set_cons_succ]
  refine wp_region_flow 5 [0, 1, 2, 3, 4] [] [] (by kernel_rfl) (by kernel_rfl) ?_
  apply Exists.intro
  refine ⟨fun w0 hb0 hF0 => ?_, ?_⟩
  · skip
    have x0 : ∀ w', (∃ x : Ext w0, w' = x.at_) → ∃ T, Blk w' (b3) ((atZ pub AD).map (Value.int .u8)).toArray T := fun w' ⟨x, hx⟩ => ⟨_, hx ▸ (Kk6.out.below hb0).below x.same⟩
    have x1 : ∀ w', (∃ x : Ext w0, w' = x.at_) → ∃ T, Blk w' (bx) (x.map (Value.int .u8)).toArray T := fun w' ⟨x, hx⟩ => ⟨_, hx ▸ (Kx6.out.below hb0).below x.same⟩
    have x2 : ∀ w', (∃ x : Ext w0, w' = x.at_) → ∃ T, Blk w' (b5) ((atZ pub (setAd ad f j 1)).map (Value.int .u8)).toArray T := fun w' ⟨x, hx⟩ => ⟨_, hx ▸ (Km6.out.below hb0).below x.same⟩
    have c1 := fun e : Ext w0 => Mask_any x (atZ pub (setAd ad f j 1)) e.at_ hx HDm.out
    have c2 := fun e : Ext w0 => F_any (atZ pub AD) (xorD x (atZ pub (setAd ad f j 1))) e.at_ HDk.out (hx.xor HDm.out) ((Htab.out.below (Below.on Hb6.out hb0)).below e.same)
    rw [← HS.out] at c2
    simp only [pick, List.getElem?_toArray, List.getElem?_cons_succ, List.getElem?_cons_zero, Option.toList_some, List.cons_append, List.nil_append]
    repeat (first | (go_big_quiet_want; refine quiet_load_blk 25 _ rfl (b3) rfl _ x0 _ Tryz.underlying25 rfl 32 size_digest HDk.out.size ?_; go_big_quiet_on; simp only [Act.put, List.setIfInBounds_toArray, List.set_cons_zero, List.set_cons_succ]) | (go_big_quiet_want; refine quiet_load_blk 25 _ rfl (bx) rfl _ x1 _ Tryz.underlying25 rfl 32 size_digest hx.size ?_; go_big_quiet_on; simp only [Act.put, List.setIfInBounds_toArray, List.set_cons_zero, List.set_cons_succ]) | (go_big_quiet_want; refine quiet_load_blk 25 _ rfl (b5) rfl _ x2 _ Tryz.underlying25 rfl 32 size_digest HDm.out.size ?_; go_big_quiet_on; simp only [Act.put, List.setIfInBounds_toArray, List.set_cons_zero, List.set_cons_succ]) | go_big_quiet_step (first | (go_at_call 211; exact Calls.ext (c1 _)) | (go_at_call 224; exact Calls.ext (c2 _))))
    exact wpQuiet_nil rfl
  refine AlChk.nil ?_
  refine Walk.fin fun w7 h7 _ _ => ?_
  simp only [List.drop_succ_cons, List.drop_zero]
  have Kx7 := hid (Kx6.out.below h7)
  have Hb7 := hid (Below.on Hb6.out h7)
  have HDs := hid (Dg.step pub ad x j)
  clear h7
  go_wp2_with (refine wpList_store_blk rfl 25 _ _ rfl bx _ rfl rfl _ 25 Kx7.out 32 size_digest hx.size HDs.out.size (ints_one _ _) ?_; intro w8 hb8 hk8)
  go_returns
  exact ⟨rfl, (But.of Hb7.out).trans hb8, hk8⟩
end Go.Proofs.YtpinamdgbijjlaaGreatDoor
namespace Go.Proofs.YtpinamdgbijjlaaGreatDoor
set_option maxRecDepth 100000
open Go.ChangeShapes Go.WideShapes Go.ChangeAt Go.RowKit
set_option maxHeartbeats 4000000 in
theorem run_good (x pub ad : List Int) (from_ steps : Nat) (w : World) (hx : Dg x) (hpub : Dg pub) (had : Aw ad) (hf : from_ + steps ≤ 15) (tab : ShaTab w) :
    Calls Tryz.prog 212 #[.agg (x.map (Value.int .u8)).toArray, .int .i64 from_, .int .i64 steps, .agg (pub.map (Value.int .u8)).toArray, .agg (ad.map (Value.int .u32)).toArray] w fun e w' => e = .returned (.tuple #[.agg ((runZ pub ad x from_ steps).map (Value.int .u8)).toArray, .int .i64 0]) ∧ Below w.heap.size w w' := by
  have b1 := (Below.refl w.heap.size w).alloc (Nat.le_refl _) (.cells (x.map (Value.int .u8)).toArray 25 (0, 0))
  have b2 := b1.alloc b1.size (.cells (pub.map (Value.int .u8)).toArray 25 (0, 0))
  have b3 := b2.alloc b2.size (.cells (ad.map (Value.int .u32)).toArray 216 (0, 0))
  have bz := b3.alloc b3.size (.cells (byteCells 32 []) 25 (0, 0))
  have K0 := hid ((((Blk.new (w := w) (n := w.heap.size) rfl (x.map (Value.int .u8)).toArray 25).old (.cells (pub.map (Value.int .u8)).toArray 25 (0, 0))).old (.cells (ad.map (Value.int .u32)).toArray 216 (0, 0))).old (.cells (byteCells 32 []) 25 (0, 0)))
  have K1 := hid (((Blk.new (w := (w.alloc (.cells (x.map (Value.int .u8)).toArray 25 (0, 0)))) (n := w.heap.size + 1) (by simp only [World.size_alloc]) (pub.map (Value.int .u8)).toArray 25).old (.cells (ad.map (Value.int .u32)).toArray 216 (0, 0))).old (.cells (byteCells 32 []) 25 (0, 0)))
  have K2 := hid ((Blk.new (w := ((w.alloc (.cells (x.map (Value.int .u8)).toArray 25 (0, 0))).alloc (.cells (pub.map (Value.int .u8)).toArray 25 (0, 0)))) (n := w.heap.size + 1 + 1) (by simp only [World.size_alloc]) (ad.map (Value.int .u32)).toArray 216).old (.cells (byteCells 32 []) 25 (0, 0)))
  have Kr := hid (Blk.new (w := (((w.alloc (.cells (x.map (Value.int .u8)).toArray 25 (0, 0))).alloc (.cells (pub.map (Value.int .u8)).toArray 25 (0, 0))).alloc (.cells (ad.map (Value.int .u32)).toArray 216 (0, 0)))) (n := w.heap.size + 1 + 1 + 1) (by simp only [World.size_alloc]) (byteCells 32 []) 25)
  have Hb := hid bz
  have HzA := hid zsize
  have hbz := bz.size
  have hbs : w.heap.size + 1 + 1 + 1 + 1 = ((((w.alloc (.cells (x.map (Value.int .u8)).toArray 25 (0, 0))).alloc (.cells (pub.map (Value.int .u8)).toArray 25 (0, 0))).alloc (.cells (ad.map (Value.int .u32)).toArray 216 (0, 0))).alloc (.cells (byteCells 32 []) 25 (0, 0))).heap.size := by simp only [World.size_alloc]
  have Hbs := hid hbs
  clear bz hbs b1 b2 b3
  have Htab := hid tab
  clear tab
  have hc2 : ¬ ((15 : Int) - from_ < steps) := by omega
  go_enter Tryz.func212, Tryz.ntmps212
  go_wp2_with fail
  go_loopw [33] (fun v wr => ∃ k : Nat, k ≤ steps ∧ v = .int .i64 k ∧ Blk wr (w.heap.size) ((runZ pub ad x from_ k).map (Value.int .u8)).toArray 25 ∧ Blk wr (w.heap.size + 1) (pub.map (Value.int .u8)).toArray 25 ∧ Blk wr (w.heap.size + 1 + 1) (ad.map (Value.int .u32)).toArray 216 ∧ Blk wr (w.heap.size + 1 + 1 + 1) (byteCells 32 []) 25 ∧ Below w.heap.size w wr) (fun v _ => steps - (intOf v).toNat)
  case atStart => exact ⟨0, Nat.zero_le _, rfl, K0.out, K1.out, K2.out, Kr.out, Hb.out⟩
  case round =>
    clear K0 K1 K2 Kr Hb
    obtain ⟨k, hk, rfl, kx, kp, ka, kr, bel⟩ := hrel
    have HDk := hid (Dg.run (pub := pub) (ad := ad) hx from_ k)
    by_cases hlt : k < steps
    · have hst := step_any pub ad (runZ pub ad x from_ k) (from_ + k) _ _ _ wr hpub had HDk.out (by omega) ka kp kx (Htab.out.below bel)
      rw [show ((from_ + k : Nat) : Int) = (from_ : Int) + k by omega] at hst
      have Hst := hid hst
      have Kp := hid kp
      have Ka := hid ka
      have Kr := hid kr
      have Hbel := hid bel
      clear kx kp ka kr bel hst
      go_wp2_with fail
      refine Hst.out.mono ?_
      rintro e w4 ⟨rfl, b4, k4⟩
      have H4 := hid (And.intro k4 (And.intro (b4.blk Kp.out (by omega)) (And.intro (b4.blk Ka.out (by omega)) (And.intro (b4.blk Kr.out (by omega)) (b4.below Hbel.out Hbel.out.size (Nat.le_refl _))))))
      clear b4 k4 Hst
      go_wp2_with fail
      exact ⟨⟨k + 1, by omega, by go_num, H4.out.1, H4.out.2.1, H4.out.2.2.1, H4.out.2.2.2.1, H4.out.2.2.2.2⟩, by simp [intOf]; omega⟩
    · have hks : k = steps := by omega
      subst hks
      have Kx := hid kx
      have Kr := hid kr
      have Hbel := hid bel
      clear kx kp ka kr bel
      generalize hR : runZ pub ad x from_ k = R at *
      go_wp2_with (first | (refine wpList_load_blk rfl 25 _ rfl (w.heap.size) rfl _ 25 Kx.out _ Tryz.underlying25 rfl 32 size_digest HDk.out.size ?_) | (refine wpList_store_blk rfl 25 _ _ rfl (w.heap.size + 1 + 1 + 1) _ rfl rfl _ 25 Kr.out 32 size_digest HzA.out HDk.out.size (ints_one _ _) ?_; intro w7 hbut7 hk7))
      exact bodyPost_ret (v := .tuple #[.agg (R.map (Value.int .u8)).toArray, .int .i64 0]) (results_blk_tmp Tryz.results212 _ (w.heap.size + 1 + 1 + 1) rfl _ rfl _ 25 hk7 _ Tryz.underlying25 rfl 32 size_digest HDk.out.size) rfl ⟨by rw [hR], hbut7.below Hbel.out Hbel.out.size (by omega)⟩
end Go.Proofs.YtpinamdgbijjlaaGreatDoor
namespace Go.Proofs.YtpinamdgbijjlaaGreatDoor
set_option maxRecDepth 100000
open Go.ChangeShapes Go.WideShapes Go.ChangeAt Go.RowKit
set_option maxHeartbeats 2000000 in
theorem refrun_zero (x pub ad : List Int) (from_ : Int) (w : World) (hx : Dg x) :
    Calls Tryz.prog 214 #[.agg (x.map (Value.int .u8)).toArray, .int .i64 from_, .int .i64 0, .agg (pub.map (Value.int .u8)).toArray, .agg (ad.map (Value.int .u32)).toArray] w fun e w' => e = .returned (.agg (x.map (Value.int .u8)).toArray) ∧ Below w.heap.size w w' := by
  have b1 := (Below.refl w.heap.size w).alloc (Nat.le_refl _) (.cells (x.map (Value.int .u8)).toArray 25 (0, 0))
  have b2 := b1.alloc b1.size (.cells (pub.map (Value.int .u8)).toArray 25 (0, 0))
  have b3 := b2.alloc b2.size (.cells (ad.map (Value.int .u32)).toArray 216 (0, 0))
  have bz := b3.alloc b3.size (.cells (byteCells 32 []) 25 (0, 0))
  have K0 := hid ((((Blk.new (w := w) (n := w.heap.size) rfl (x.map (Value.int .u8)).toArray 25).old (.cells (pub.map (Value.int .u8)).toArray 25 (0, 0))).old (.cells (ad.map (Value.int .u32)).toArray 216 (0, 0))).old (.cells (byteCells 32 []) 25 (0, 0)))
  have K1 := hid (((Blk.new (w := (w.alloc (.cells (x.map (Value.int .u8)).toArray 25 (0, 0)))) (n := w.heap.size + 1) (by simp only [World.size_alloc]) (pub.map (Value.int .u8)).toArray 25).old (.cells (ad.map (Value.int .u32)).toArray 216 (0, 0))).old (.cells (byteCells 32 []) 25 (0, 0)))
  have K2 := hid ((Blk.new (w := ((w.alloc (.cells (x.map (Value.int .u8)).toArray 25 (0, 0))).alloc (.cells (pub.map (Value.int .u8)).toArray 25 (0, 0)))) (n := w.heap.size + 1 + 1) (by simp only [World.size_alloc]) (ad.map (Value.int .u32)).toArray 216).old (.cells (byteCells 32 []) 25 (0, 0)))
  have Kr := hid (Blk.new (w := (((w.alloc (.cells (x.map (Value.int .u8)).toArray 25 (0, 0))).alloc (.cells (pub.map (Value.int .u8)).toArray 25 (0, 0))).alloc (.cells (ad.map (Value.int .u32)).toArray 216 (0, 0)))) (n := w.heap.size + 1 + 1 + 1) (by simp only [World.size_alloc]) (byteCells 32 []) 25)
  have Hb := hid bz
  have HzA := hid zsize
  have hbz := bz.size
  have hbs : w.heap.size + 1 + 1 + 1 + 1 = ((((w.alloc (.cells (x.map (Value.int .u8)).toArray 25 (0, 0))).alloc (.cells (pub.map (Value.int .u8)).toArray 25 (0, 0))).alloc (.cells (ad.map (Value.int .u32)).toArray 216 (0, 0))).alloc (.cells (byteCells 32 []) 25 (0, 0))).heap.size := by simp only [World.size_alloc]
  have Hbs := hid hbs
  clear bz hbs b1 b2 b3
  go_enter Tryz.func214, Tryz.ntmps214
  go_wp2_with (first | (refine wpList_load_blk rfl 25 _ rfl (w.heap.size) rfl _ 25 K0.out _ Tryz.underlying25 rfl 32 size_digest hx.size ?_) | (refine wpList_store_blk rfl 25 _ _ rfl (w.heap.size + 1 + 1 + 1) _ rfl rfl _ 25 Kr.out 32 size_digest HzA.out hx.size (ints_one _ _) ?_; intro w7 hbut7 hk7))
  exact bodyPost_ret (v := .agg (x.map (Value.int .u8)).toArray) (results_blk Tryz.results214 _ (w.heap.size + 1 + 1 + 1) rfl _ 25 hk7 _ Tryz.underlying25 rfl 32 size_digest hx.size) rfl ⟨rfl, hbut7.below Hb.out Hb.out.size (by omega)⟩
set_option maxHeartbeats 4000000 in
theorem refrun_any (pub ad : List Int) (from_ : Nat) (hpub : Dg pub) (had : Aw ad) : ∀ (n : Nat) (x : List Int) (w : World), Dg x → from_ + n ≤ 15 →
    Calls Tryz.prog 214 #[.agg (x.map (Value.int .u8)).toArray, .int .i64 from_, .int .i64 n, .agg (pub.map (Value.int .u8)).toArray, .agg (ad.map (Value.int .u32)).toArray] w fun e w' => e = .returned (.agg ((runZ pub ad x from_ n).map (Value.int .u8)).toArray) ∧ Below w.heap.size w w' := by
  intro n
  induction n with
  | zero => intro x w hx _; exact refrun_zero x pub ad from_ w hx
  | succ n ih =>
    intro x w hx hn
    have b1 := (Below.refl w.heap.size w).alloc (Nat.le_refl _) (.cells (x.map (Value.int .u8)).toArray 25 (0, 0))
    have b2 := b1.alloc b1.size (.cells (pub.map (Value.int .u8)).toArray 25 (0, 0))
    have b3 := b2.alloc b2.size (.cells (ad.map (Value.int .u32)).toArray 216 (0, 0))
    have bz := b3.alloc b3.size (.cells (byteCells 32 []) 25 (0, 0))
    have K0 := hid ((((Blk.new (w := w) (n := w.heap.size) rfl (x.map (Value.int .u8)).toArray 25).old (.cells (pub.map (Value.int .u8)).toArray 25 (0, 0))).old (.cells (ad.map (Value.int .u32)).toArray 216 (0, 0))).old (.cells (byteCells 32 []) 25 (0, 0)))
    have K1 := hid (((Blk.new (w := (w.alloc (.cells (x.map (Value.int .u8)).toArray 25 (0, 0)))) (n := w.heap.size + 1) (by simp only [World.size_alloc]) (pub.map (Value.int .u8)).toArray 25).old (.cells (ad.map (Value.int .u32)).toArray 216 (0, 0))).old (.cells (byteCells 32 []) 25 (0, 0)))
    have K2 := hid ((Blk.new (w := ((w.alloc (.cells (x.map (Value.int .u8)).toArray 25 (0, 0))).alloc (.cells (pub.map (Value.int .u8)).toArray 25 (0, 0)))) (n := w.heap.size + 1 + 1) (by simp only [World.size_alloc]) (ad.map (Value.int .u32)).toArray 216).old (.cells (byteCells 32 []) 25 (0, 0)))
    have Kr := hid (Blk.new (w := (((w.alloc (.cells (x.map (Value.int .u8)).toArray 25 (0, 0))).alloc (.cells (pub.map (Value.int .u8)).toArray 25 (0, 0))).alloc (.cells (ad.map (Value.int .u32)).toArray 216 (0, 0)))) (n := w.heap.size + 1 + 1 + 1) (by simp only [World.size_alloc]) (byteCells 32 []) 25)
    have Hb := hid bz
    have HzA := hid zsize
    have hbz := bz.size
    have hbs : w.heap.size + 1 + 1 + 1 + 1 = ((((w.alloc (.cells (x.map (Value.int .u8)).toArray 25 (0, 0))).alloc (.cells (pub.map (Value.int .u8)).toArray 25 (0, 0))).alloc (.cells (ad.map (Value.int .u32)).toArray 216 (0, 0))).alloc (.cells (byteCells 32 []) 25 (0, 0))).heap.size := by simp only [World.size_alloc]
    have Hbs := hid hbs
    clear bz hbs b1 b2 b3
    have HS : Hid (runZ pub ad x from_ (n + 1) = fZ (atZ pub (setAd ad (ad.getD 5 0) ((from_ + n : Nat) : Int) 0)) (xorD (runZ pub ad x from_ n) (atZ pub (setAd ad (ad.getD 5 0) ((from_ + n : Nat) : Int) 1)))) := hid (by rw [runZ]; unfold stepZ; rfl)
    have HDs := hid (Dg.run (pub := pub) (ad := ad) hx from_ (n + 1))
    have HDr := hid (Dg.run (pub := pub) (ad := ad) hx from_ n)
    have hf := had.get 5
    have hj : ((from_ + n : Nat) : Int) = (from_ : Int) + ((n : Int) + 1) - 1 := by omega
    rw [hj] at HS
    have HA0 := hid (had.set hf (show 0 ≤ (from_ : Int) + ((n : Int) + 1) - 1 ∧ (from_ : Int) + ((n : Int) + 1) - 1 < 4294967296 by omega) (show (0 : Int) ≤ 0 ∧ (0 : Int) < 4294967296 by omega))
    have HA1 := hid (had.set hf (show 0 ≤ (from_ : Int) + ((n : Int) + 1) - 1 ∧ (from_ : Int) + ((n : Int) + 1) - 1 < 4294967296 by omega) (show (0 : Int) ≤ 1 ∧ (1 : Int) < 4294967296 by omega))
    have Hat := hid (fun (q : Int) (W : World) => refat_list ad (ad.getD 5 0) ((from_ : Int) + ((n : Int) + 1) - 1) q W had)
    have hc5 : ∀ W : World, Blk W (w.heap.size + 1 + 1) (ad.map (Value.int .u32)).toArray 216 → W.cell? ⟨w.heap.size + 1 + 1, 5, none⟩ = some (.int .u32 (ad.getD 5 0)) := fun W k => by
      rw [k.cell]
      have := had.len
      simp [List.getD_eq_getElem?_getD, show 5 < ad.length by omega]
    have Hc5 := hid hc5
    have Hih := hid (fun W => ih x W hx (by omega))
    have hn0 : ¬ ((n : Int) + 1 = 0) := by omega
    clear hc5 hj ih
    generalize ad.getD 5 0 = f at *
    obtain ⟨hf0, hf1⟩ := hf
    have hnc : ((n + 1 : Nat) : Int) = (n : Int) + 1 := by omega
    rw [hnc]
    clear hnc
    go_enter Tryz.func214, Tryz.ntmps214
    go_wp2_with (first | (refine wpList_load_blk rfl 25 _ rfl (w.heap.size) rfl _ 25 K0.out _ Tryz.underlying25 rfl 32 size_digest hx.size ?_) | (refine wpList_load_blk rfl 25 _ rfl (w.heap.size + 1) rfl _ 25 K1.out _ Tryz.underlying25 rfl 32 size_digest hpub.size ?_) | (refine wpList_load_blk rfl 216 _ rfl (w.heap.size + 1 + 1) rfl _ 216 K2.out _ Tryz.underlying216 rfl 8 sizeAdrs had.size ?_))
    refine (Hih.out _).mono ?_
    rintro e w1 ⟨rfl, b1⟩
    have Hb1 := hid (Below.on Hb.out b1)
    have K11 := hid (K1.out.below b1)
    have K21 := hid (K2.out.below b1)
    have Kr1 := hid (Kr.out.below b1)
    have hz1 := Hb1.out.size
    have hlr := Kr1.out.lt
    clear b1 K0 K1 K2 Kr Hb
    generalize runZ pub ad x from_ n = R at *
    go_wp2_with (
      refine wpList_store_blk rfl 25 _ _ rfl w1.heap.size _ rfl rfl _ 25 (Blk.new rfl (byteCells 32 []) _) 32 size_digest HzA.out HDr.out.size (ints_one _ _) ?_
      intro w2 hb2 hk2
      have Hb2 := hid (hb2.below (Hb1.out.alloc hz1 _) (by rw [World.size_alloc]; omega) hz1)
      have KR2 := hid hk2
      have Kp2 := hid (hb2.blk (K11.out.old _) (by have := K11.out.lt; omega))
      have Ka2 := hid (hb2.blk (K21.out.old _) (by have := K21.out.lt; omega))
      have Kr2 := hid (hb2.blk (Kr1.out.old _) (by omega))
      clear hb2 hk2)
    refine wp_region_flow 8 [0, 1, 2, 3, 4, 5, 6] [7] [(.b 7, [], [])] (by kernel_rfl) (by kernel_rfl) ?_
    apply Exists.intro
    refine ⟨fun w0 hb0 hF0 => ?_, ?_⟩
    · skip
      have x0 : ∀ w', (∃ x : Ext w0, w' = x.at_) → ∃ T, Blk w' (w.heap.size + 1) (pub.map (Value.int .u8)).toArray T := fun w' ⟨x, hx⟩ => ⟨_, hx ▸ (Kp2.out.below hb0).below x.same⟩
      have x1 : ∀ w', (∃ x : Ext w0, w' = x.at_) → ∃ T, Blk w' (w.heap.size + 1 + 1) (ad.map (Value.int .u32)).toArray T := fun w' ⟨x, hx⟩ => ⟨_, hx ▸ (Ka2.out.below hb0).below x.same⟩
      have c5 : ∀ e : Ext w0, e.at_.cell? ⟨w.heap.size + 1 + 1, 5, none⟩ = some (.int .u32 f) := fun e => Hc5.out _ ((Ka2.out.below hb0).below e.same)
      have c1 := fun e : Ext w0 => Hat.out 0 e.at_
      have c2 := fun e : Ext w0 => refAt_any pub (setAd ad f ((from_ : Int) + ((n : Int) + 1) - 1) 0) e.at_ hpub HA0.out
      simp only [pick, List.getElem?_toArray, List.getElem?_cons_succ, List.getElem?_cons_zero, Option.toList_some, List.cons_append, List.nil_append]
      repeat (first | (go_big_quiet_want; refine quiet_load_blk 25 _ rfl (w.heap.size + 1) rfl _ x0 _ Tryz.underlying25 rfl 32 size_digest hpub.size ?_; go_big_quiet_on; simp only [Act.put, List.setIfInBounds_toArray, List.set_cons_zero, List.set_cons_succ]) | (go_big_quiet_want; refine quiet_load_blk 216 _ rfl (w.heap.size + 1 + 1) rfl _ x1 _ Tryz.underlying216 rfl 8 sizeAdrs had.size ?_; go_big_quiet_on; simp only [Act.put, List.setIfInBounds_toArray, List.set_cons_zero, List.set_cons_succ]) | go_big_quiet_step (first | (go_at_call 166; exact Calls.ext (c1 _)) | (go_at_call 197; exact Calls.ext (c2 _))))
      exact wpQuiet_nil rfl
    refine AlChk.one rfl (fun b => .pointer (some ⟨b, 0, none⟩)) (.cells (byteCells 32 []) 25 (0, 0)) rfl (fun w3 hb3 hF3 => by go_simp; rfl) ?_
    refine AlChk.nil ?_
    refine Walk.blk rfl (fun b => .pointer (some ⟨b, 0, none⟩)) (.cells (byteCells 32 []) 25 (0, 0)) (by simp) ?_
    intro b3 w3 hb3 hF3 hge3 _
    apply Exists.intro
    refine ⟨fun w4 hb4 hF4 => wpQuiet_nil rfl, ?_⟩
    refine AlChk.nil ?_
    refine Walk.fin fun w3 h3 hF3 _ => ?_
    simp only [List.drop_succ_cons, List.drop_zero]
    have kb3 : Blk w3 b3 (byteCells 32 []) 25 := hF3.2
    have Hk3 := hid kb3
    have Hb3 := hid (Below.on Hb2.out h3)
    have hge3w : w.heap.size ≤ b3 := Nat.le_trans Hb2.out.size hge3
    have HDq3 := hid (Dg.at_ pub (setAd ad f ((from_ : Int) + ((n : Int) + 1) - 1) 0))
    have Kp3 := hid (Kp2.out.below h3)
    have hneKp3 := Nat.ne_of_lt (Nat.lt_of_lt_of_le Kp2.out.lt hge3)
    have Ka3 := hid (Ka2.out.below h3)
    have hneKa3 := Nat.ne_of_lt (Nat.lt_of_lt_of_le Ka2.out.lt hge3)
    have Kr3 := hid (Kr2.out.below h3)
    have hneKr3 := Nat.ne_of_lt (Nat.lt_of_lt_of_le Kr2.out.lt hge3)
    have KR3 := hid (KR2.out.below h3)
    have hneKR3 := Nat.ne_of_lt (Nat.lt_of_lt_of_le KR2.out.lt hge3)
    clear kb3 h3 hF3 Kp2 Ka2 Kr2 KR2
    go_wp2_with (
      refine wpList_store_blk rfl 25 _ _ rfl b3 _ rfl rfl _ 25 Hk3.out 32 size_digest HzA.out HDq3.out.size (ints_one _ _) ?_
      intro w4 hb4 hk4
      have Hb4 := hid (hb4.below Hb3.out Hb3.out.size hge3w)
      have Kk4 := hid hk4
      have Kp4 := hid (hb4.blk Kp3.out hneKp3)
      have Ka4 := hid (hb4.blk Ka3.out hneKa3)
      have Kr4 := hid (hb4.blk Kr3.out hneKr3)
      have KR4 := hid (hb4.blk KR3.out hneKR3)
      clear hb4 hk4)
    simp only [Act.put, List.setIfInBounds_toArray, List.set_cons_zero, List.set_cons_succ]
    refine wp_region_flow 8 [0, 1, 2, 3, 4, 5, 6] [7] [(.b 7, [], [])] (by kernel_rfl) (by kernel_rfl) ?_
    apply Exists.intro
    refine ⟨fun w0 hb0 hF0 => ?_, ?_⟩
    · skip
      have x0 : ∀ w', (∃ x : Ext w0, w' = x.at_) → ∃ T, Blk w' (w.heap.size + 1) (pub.map (Value.int .u8)).toArray T := fun w' ⟨x, hx⟩ => ⟨_, hx ▸ (Kp4.out.below hb0).below x.same⟩
      have x1 : ∀ w', (∃ x : Ext w0, w' = x.at_) → ∃ T, Blk w' (w.heap.size + 1 + 1) (ad.map (Value.int .u32)).toArray T := fun w' ⟨x, hx⟩ => ⟨_, hx ▸ (Ka4.out.below hb0).below x.same⟩
      have c5 : ∀ e : Ext w0, e.at_.cell? ⟨w.heap.size + 1 + 1, 5, none⟩ = some (.int .u32 f) := fun e => Hc5.out _ ((Ka4.out.below hb0).below e.same)
      have c1 := fun e : Ext w0 => Hat.out 1 e.at_
      have c2 := fun e : Ext w0 => refAt_any pub (setAd ad f ((from_ : Int) + ((n : Int) + 1) - 1) 1) e.at_ hpub HA1.out
      simp only [pick, List.getElem?_toArray, List.getElem?_cons_succ, List.getElem?_cons_zero, Option.toList_some, List.cons_append, List.nil_append]
      repeat (first | (go_big_quiet_want; refine quiet_load_blk 25 _ rfl (w.heap.size + 1) rfl _ x0 _ Tryz.underlying25 rfl 32 size_digest hpub.size ?_; go_big_quiet_on; simp only [Act.put, List.setIfInBounds_toArray, List.set_cons_zero, List.set_cons_succ]) | (go_big_quiet_want; refine quiet_load_blk 216 _ rfl (w.heap.size + 1 + 1) rfl _ x1 _ Tryz.underlying216 rfl 8 sizeAdrs had.size ?_; go_big_quiet_on; simp only [Act.put, List.setIfInBounds_toArray, List.set_cons_zero, List.set_cons_succ]) | go_big_quiet_step (first | (go_at_call 166; exact Calls.ext (c1 _)) | (go_at_call 197; exact Calls.ext (c2 _))))
      exact wpQuiet_nil rfl
    refine AlChk.one rfl (fun b => .pointer (some ⟨b, 0, none⟩)) (.cells (byteCells 32 []) 25 (0, 0)) rfl (fun w3 hb3 hF3 => by go_simp; rfl) ?_
    refine AlChk.nil ?_
    refine Walk.blk rfl (fun b => .pointer (some ⟨b, 0, none⟩)) (.cells (byteCells 32 []) 25 (0, 0)) (by simp) ?_
    intro b5 w3 hb3 hF3 hge5 _
    apply Exists.intro
    refine ⟨fun w4 hb4 hF4 => wpQuiet_nil rfl, ?_⟩
    refine AlChk.nil ?_
    refine Walk.fin fun w5 h5 hF5 _ => ?_
    simp only [List.drop_succ_cons, List.drop_zero]
    have kb5 : Blk w5 b5 (byteCells 32 []) 25 := hF5.2
    have Hk5 := hid kb5
    have Hb5 := hid (Below.on Hb4.out h5)
    have hge5w : w.heap.size ≤ b5 := Nat.le_trans Hb4.out.size hge5
    have HDq5 := hid (Dg.at_ pub (setAd ad f ((from_ : Int) + ((n : Int) + 1) - 1) 1))
    have Kp5 := hid (Kp4.out.below h5)
    have hneKp5 := Nat.ne_of_lt (Nat.lt_of_lt_of_le Kp4.out.lt hge5)
    have Ka5 := hid (Ka4.out.below h5)
    have hneKa5 := Nat.ne_of_lt (Nat.lt_of_lt_of_le Ka4.out.lt hge5)
    have Kr5 := hid (Kr4.out.below h5)
    have hneKr5 := Nat.ne_of_lt (Nat.lt_of_lt_of_le Kr4.out.lt hge5)
    have KR5 := hid (KR4.out.below h5)
    have hneKR5 := Nat.ne_of_lt (Nat.lt_of_lt_of_le KR4.out.lt hge5)
    have Kk5 := hid (Kk4.out.below h5)
    have hneKk5 := Nat.ne_of_lt (Nat.lt_of_lt_of_le Kk4.out.lt hge5)
    clear kb5 h5 hF5 Kp4 Ka4 Kr4 KR4 Kk4
    go_wp2_with (
      refine wpList_store_blk rfl 25 _ _ rfl b5 _ rfl rfl _ 25 Hk5.out 32 size_digest HzA.out HDq5.out.size (ints_one _ _) ?_
      intro w6 hb6 hk6
      have Hb6 := hid (hb6.below Hb5.out Hb5.out.size hge5w)
      have Km6 := hid hk6
      have Kp6 := hid (hb6.blk Kp5.out hneKp5)
      have Ka6 := hid (hb6.blk Ka5.out hneKa5)
      have Kr6 := hid (hb6.blk Kr5.out hneKr5)
      have KR6 := hid (hb6.blk KR5.out hneKR5)
      have Kk6 := hid (hb6.blk Kk5.out hneKk5)
      clear hb6 hk6)
    simp only [Act.put, List.setIfInBounds_toArray, List.set_cons_zero, List.set_cons_succ]
    refine wp_region_flow 5 [0, 1, 2, 3, 4] [] [] (by kernel_rfl) (by kernel_rfl) ?_
    apply Exists.intro
    refine ⟨fun w0 hb0 hF0 => ?_, ?_⟩
    · skip
      have x0 : ∀ w', (∃ x : Ext w0, w' = x.at_) → ∃ T, Blk w' (b3) ((atZ pub (setAd ad f ((from_ : Int) + ((n : Int) + 1) - 1) 0)).map (Value.int .u8)).toArray T := fun w' ⟨x, hx⟩ => ⟨_, hx ▸ (Kk6.out.below hb0).below x.same⟩
      have x1 : ∀ w', (∃ x : Ext w0, w' = x.at_) → ∃ T, Blk w' (w1.heap.size) (R.map (Value.int .u8)).toArray T := fun w' ⟨x, hx⟩ => ⟨_, hx ▸ (KR6.out.below hb0).below x.same⟩
      have x2 : ∀ w', (∃ x : Ext w0, w' = x.at_) → ∃ T, Blk w' (b5) ((atZ pub (setAd ad f ((from_ : Int) + ((n : Int) + 1) - 1) 1)).map (Value.int .u8)).toArray T := fun w' ⟨x, hx⟩ => ⟨_, hx ▸ (Km6.out.below hb0).below x.same⟩
      have c1 := fun e : Ext w0 => refMask_any R (atZ pub (setAd ad f ((from_ : Int) + ((n : Int) + 1) - 1) 1)) e.at_ HDr.out HDq5.out
      have c2 := fun e : Ext w0 => refF_any (atZ pub (setAd ad f ((from_ : Int) + ((n : Int) + 1) - 1) 0)) (xorD R (atZ pub (setAd ad f ((from_ : Int) + ((n : Int) + 1) - 1) 1))) e.at_ HDq3.out (HDr.out.xor HDq5.out)
      rw [← HS.out] at c2
      simp only [pick, List.getElem?_toArray, List.getElem?_cons_succ, List.getElem?_cons_zero, Option.toList_some, List.cons_append, List.nil_append]
      repeat (first | (go_big_quiet_want; refine quiet_load_blk 25 _ rfl (b3) rfl _ x0 _ Tryz.underlying25 rfl 32 size_digest HDq3.out.size ?_; go_big_quiet_on; simp only [Act.put, List.setIfInBounds_toArray, List.set_cons_zero, List.set_cons_succ]) | (go_big_quiet_want; refine quiet_load_blk 25 _ rfl (w1.heap.size) rfl _ x1 _ Tryz.underlying25 rfl 32 size_digest HDr.out.size ?_; go_big_quiet_on; simp only [Act.put, List.setIfInBounds_toArray, List.set_cons_zero, List.set_cons_succ]) | (go_big_quiet_want; refine quiet_load_blk 25 _ rfl (b5) rfl _ x2 _ Tryz.underlying25 rfl 32 size_digest HDq5.out.size ?_; go_big_quiet_on; simp only [Act.put, List.setIfInBounds_toArray, List.set_cons_zero, List.set_cons_succ]) | go_big_quiet_step (first | (go_at_call 199; exact Calls.ext (c1 _)) | (go_at_call 225; exact Calls.ext (c2 _))))
      exact wpQuiet_nil rfl
    refine AlChk.nil ?_
    refine Walk.fin fun w9 h9 _ _ => ?_
    simp only [List.drop_succ_cons, List.drop_zero]
    have Kr9 := hid (Kr6.out.below h9)
    have Hb9 := hid (Below.on Hb6.out h9)
    clear h9
    go_wp2_with (refine wpList_store_blk rfl 25 _ _ rfl (w.heap.size + 1 + 1 + 1) _ rfl rfl _ 25 Kr9.out 32 size_digest HzA.out HDs.out.size (ints_one _ _) ?_; intro w7 hbut7 hk7)
    exact bodyPost_ret (v := .agg ((runZ pub ad x from_ (n + 1)).map (Value.int .u8)).toArray) (results_blk Tryz.results214 _ (w.heap.size + 1 + 1 + 1) rfl _ 25 hk7 _ Tryz.underlying25 rfl 32 size_digest HDs.out.size) rfl ⟨rfl, hbut7.below Hb9.out Hb9.out.size (by omega)⟩
end Go.Proofs.YtpinamdgbijjlaaGreatDoor
namespace Go.Proofs.YtpinamdgbijjlaaGreatDoor
set_option maxRecDepth 100000
open Go.ChangeShapes Go.WideShapes Go.ChangeAt Go.RowKit
section
variable {H : Type} {enc : TypeId × Value → H} {P : Program}
theorem trodAll_below (hl : laidOutB P = true) {W W' : World} (hb : Below W.heap.size W W') : ∀ (ts : List TypeId) (vs : List Value) (ds : List (DataW H)) (ps : List MemPlace),
    (ts.all fun t => P.readableRec t && decide (t < P.types.size)) = true → DataW.TrodAll enc P W 0 (fun _ => true) true ts vs ds ps →
    DataW.TrodAll enc P W' 0 (fun b => decide (b < W.heap.size)) true ts vs ds ps
  | [], _, _, _, _, h => by
    obtain ⟨rfl, rfl, rfl⟩ := trodAll_nil h
    exact trodAll_mk0
  | t :: ts, _, _, _, hall, h => by
    simp only [List.all_cons, Bool.and_eq_true, decide_eq_true_eq] at hall
    obtain ⟨⟨hr, ht⟩, hall⟩ := hall
    obtain ⟨v, vs, d, ds, p, q, rfl, rfl, rfl, h0, r0⟩ := trodAll_cons h
    have lt0 : ∀ x ∈ p, x.block < W.heap.size := by obtain ⟨m, hm⟩ := h0; exact DataW.trod_lt m _ _ _ hm
    exact trodAll_cons_mk (Below.trod hl hr ht h0 hb lt0) (trodAll_below hl hb ts vs ds q (by simpa using hall) r0)
theorem trodAll_length {W : World} {base : Nat} {sp : Nat → Bool} {hd : Bool} : ∀ (ts : List TypeId) (vs : List Value) (ds : List (DataW H)) (ps : List MemPlace), DataW.TrodAll enc P W base sp hd ts vs ds ps → ds.length = ts.length
  | [], _, _, _, h => by
    obtain ⟨rfl, rfl, rfl⟩ := trodAll_nil h
    rfl
  | t :: ts, _, _, _, h => by
    obtain ⟨v, vs, d, ds, p, q, rfl, rfl, rfl, _, r0⟩ := trodAll_cons h
    simp [trodAll_length ts vs ds q r0]
end
end Go.Proofs.YtpinamdgbijjlaaGreatDoor
namespace Go.Proofs.YtpinamdgbijjlaaGreatDoor
set_option maxRecDepth 100000
open Go.ChangeShapes Go.WideShapes Go.ChangeAt Go.RowKit
end Go.Proofs.YtpinamdgbijjlaaGreatDoor
namespace Go.Proofs.YtpinamdgbijjlaaGreatDoor
set_option maxRecDepth 100000
open Go.ChangeShapes Go.WideShapes Go.ChangeAt Go.RowKit
theorem ownNone : ownKnob Tryz.prog.godebug = none := by kernel_rfl
theorem laidAll : laidOutB Tryz.prog = true := by kernel_rfl
theorem gStart : Tryz.prog.globalNamed "planchet/sha.start" = some 0 := by kernel_rfl
theorem gKeys : Tryz.prog.globalNamed "planchet/sha.constants" = some 1 := by kernel_rfl
theorem gtStart : (Tryz.prog.globals[0]?).map (·.type) = some 208 := by kernel_rfl
theorem gtKeys : (Tryz.prog.globals[1]?).map (·.type) = some 291 := by kernel_rfl
/-- what the rows list -/
abbrev laid2 : List (String × DataW Unit) := [("planchet/sha.start", Rows.laid_planchet_sha_start), ("planchet/sha.constants", Rows.laid_planchet_sha_constants)]
def startZ : List Int := [Sha.start.a, Sha.start.b, Sha.start.c, Sha.start.d, Sha.start.e, Sha.start.f, Sha.start.g, Sha.start.h].map fun x : Nat => (x : Int)
def keysZ : List Int := Sha.keys.map fun x : Nat => (x : Int)
theorem start_tab : (Rows.laid_planchet_sha_start : DataW Unit) = Lib.tabData .u32 startZ := by kernel_rfl
theorem keys_tab : (Rows.laid_planchet_sha_constants : DataW Unit) = Lib.tabData .u32 keysZ := by kernel_rfl
theorem tab_of_laid {W : World} (h : laidMetH Tryz.prog laid2 W) : ShaTab W := by
  rw [MakeChecks.laidMetH_plain _ _ _ (by kernel_rfl)] at h
  have h' : laidMet Tryz.prog (("planchet/sha.start", Lib.tabData .u32 startZ) :: [("planchet/sha.constants", Lib.tabData .u32 keysZ)]) W := by
    rw [← start_tab, ← keys_tab]
    exact h
  have hS := Lib.tabIs_of_head gStart gtStart Tryz.underlying208 Tryz.underlying98 (by kernel_rfl) (by kernel_rfl) h'
  have hK := Lib.tabIs_of_head gKeys gtKeys Tryz.underlying291 Tryz.underlying98 (by kernel_rfl) (by kernel_rfl) h'.tail
  have cS := fun i hi => hS.cell gStart i hi
  have cK := fun i hi => hK.cell gKeys i hi
  have hlS : startZ.length = 8 := rfl
  have hlK : keysZ.length = 64 := by simp [keysZ, Sha.keys]
  refine ⟨World.block_lt_of_cell? W _ (cK 0 (by omega)), World.block_lt_of_cell? W _ (cS 0 (by omega)), fun j hj => ?_, ?_⟩
  · rw [cK j (by omega)]
    have hj' : j < Sha.keys.length := by simpa [keysZ] using (show j < keysZ.length by omega)
    simp [keysZ, hj']
  · exact ⟨cS 0 (by omega), cS 1 (by omega), cS 2 (by omega), cS 3 (by omega), cS 4 (by omega), cS 5 (by omega), cS 6 (by omega), cS 7 (by omega)⟩
/-- the door's own heap meets the condition -/
theorem door_met (os : Os) (args : Array Value) : laidMetH Tryz.prog laid2 ((World.doorLaid Tryz.prog 19 os).forCall (fun _ _ => 0) ⟨#[], args, []⟩).memory :=
  laidMetH_of_parts3 (fuel := 8) (laidMet_of_run' 8 (by kernel_rfl) (by kernel_rfl)) (by kernel_rfl) (by kernel_rfl)
/-- From the walk to what the row's builder asks, with the form's reach and the tables. -/
theorem lift_tied {H : Type} {enc : TypeId × Value → H} {os : Os} {f : FuncId} {fn : Func} {s : ChangeSpec} {conds : List PathCond} {tb : TypeId}
    (started : os.Started) (noInit : Tryz.prog.inits.idxOf? f = none) (hfn : Tryz.prog.funcs[f]? = some fn)
    (hvars : s.vars = []) (hts : (fn.params.toList.all fun t => Tryz.prog.readableRec t && decide (t < Tryz.prog.types.size)) = true)
    (hrt : fn.resultTypes = #[tb]) (htb : Tryz.prog.underlying tb = some .bool)
    (hs : ∀ ds : List (DataW H), ds.length = fn.params.toList.length → (s.fn H (ds ++ [])).results = [.lit (.bool true)] ∧ (s.fn H (ds ++ [])).args = ds ∧ (s.fn H (ds ++ [])).vars = [])
    (witness : ∃ (w : World) (tape : Tape) (i : Input), w.os = os ∧ (w.forCall tape i).Shaped Tryz.checked.prog ∧ i.vars = [] ∧ Input.okWide Tryz.checked.prog (w.forCall tape i) .any w.heap.size f i ∧
      ((s.pre enc Tryz.checked.prog fn conds false (w.forCall tape i).memory i.args ∧ laidMetH Tryz.prog laid2 (w.forCall tape i).memory) ∧ sizedMet enc Tryz.checked.prog fn (OpenSpec.ofChange s) false (w.forCall tape i).memory i.args) ∧ Assume.holds {} Tryz.checked.prog (lone (Frame.enter Tryz.checked.prog f i.args .normal) [] (w.forCall tape i)))
    (walk : ∀ (W : World) (base : Nat) (args : Array Value) (ds : List (DataW H)) (p : List MemPlace),
      (∀ (j : Nat) t v, fn.params[j]? = some t → args[j]? = some v → Value.okWide Tryz.prog W .any base t v) →
      DataW.TrodAll enc Tryz.prog W 0 (fun _ => true) true fn.params.toList args.toList ds p →
      (DataW.weightsEach Tryz.prog fn.params.toList ds).all (· ≤ reachBytes) = true → ShaTab W →
      Calls Tryz.prog f args W fun e W' => e = .returned (.bool true) ∧ Below W.heap.size W W') :
    ReturnsInHanded {} Tryz.checked os f .any (fun w args => (s.pre enc Tryz.prog fn conds false w args ∧ laidMetH Tryz.prog laid2 w) ∧ sizedMet enc Tryz.prog fn (OpenSpec.ofChange s) false w args) (s.post enc Tryz.prog fn false true false false) := by
  refine returnsInHanded_of_change_and (C := Tryz.checked) (X := fun w _ => laidMetH Tryz.prog laid2 w) (fun _ _ _ hh h => h.of_heap hh) ownNone started noInit hfn witness ?_
  intro W base args ds gs before hval hW _ hsz hL _
  have hW' := hW
  obtain ⟨p, q, hA, hV, rfl, hfz, hnd⟩ := hW
  rw [hvars] at hV
  obtain ⟨rfl, rfl⟩ := trodVars_none hV
  have hsz : (DataW.weightsEach Tryz.prog fn.params.toList ds).all (· ≤ reachBytes) = true := by
    have e1 : s.plain.varTypes Tryz.checked.prog = [] := by
      simp [DataSpec.varTypes, ChangeSpec.plain, hvars]
    rw [e1, List.append_nil, List.append_nil] at hsz
    exact hsz
  refine (walk W base args ds p hval hA hsz (tab_of_laid hL)).mono fun e W' ⟨he, bel⟩ => ?_
  subst he
  obtain ⟨h1, h2, h3⟩ := hs ds (trodAll_length _ _ _ _ hA)
  refine ⟨_, rfl, ds, [], p ++ [], [], p, [], hW', ?_, ?_, ?_, bel.frame _, fun h => by cases h⟩
  · rw [h1, hrt]
    exact trodAll_mk1 (shut_bool htb _)
  · rw [h2]
    exact trodAll_below laidAll bel _ _ _ _ hts hA
  · rw [h3, hvars]
    exact rfl
end Go.Proofs.YtpinamdgbijjlaaGreatDoor
namespace Go.Proofs.YtpinamdgbijjlaaGreatDoor
set_option maxRecDepth 100000
open Go.ChangeShapes Go.WideShapes Go.ChangeAt Go.RowKit
/-- the digits of the bytes -/
def dig (ds : List Int) : List Int := ds.flatMap fun x => [x / 16, x % 16]
def rowOf (ds : List Int) (k : Nat) : List Int := dig (ds.take k) ++ List.replicate (67 - 2 * k) 0
def lacks (zs : List Int) : Int := zs.foldl (fun s x => wrap64 (s + wrap64 (15 - x))) 0
/-- what numbers from 0 to 15 lack, without a wrap -/
def short (zs : List Int) : Int := (zs.map (15 - ·)).sum
/-- the digits of a digest -/
def digits (ds : List Int) : List Int := dig ds ++ [short (dig ds) / 16 / 16 % 16, short (dig ds) / 16 % 16, short (dig ds) % 16]
end Go.Proofs.YtpinamdgbijjlaaGreatDoor
namespace Go.Proofs.YtpinamdgbijjlaaGreatDoor
set_option maxRecDepth 100000
open Go.ChangeShapes Go.WideShapes Go.ChangeAt Go.RowKit
theorem infoInt : (Tryz.prog.info? 3).map (fun i => (i.zero, i.size, i.bytes)) = some (some (.int .i64 0), 1, 8) := by kernel_rfl
end Go.Proofs.YtpinamdgbijjlaaGreatDoor
namespace Go.Proofs.YtpinamdgbijjlaaGreatDoor
set_option maxRecDepth 100000
open Go.ChangeShapes Go.WideShapes Go.ChangeAt Go.RowKit
/-- a row of 32 numbers each, laid flat -/
theorem flat_length {ds : List (List Int)} (h : ∀ d ∈ ds, d.length = 32) : ds.flatten.length = ds.length * 32 := by
  induction ds with
  | nil => rfl
  | cons d ds ih =>
    rw [List.flatten_cons, List.length_append, ih fun x hx => h x (List.mem_cons_of_mem _ hx), h d (List.mem_cons_self ..), List.length_cons]
    omega
theorem flat_at {ds : List (List Int)} (h : ∀ d ∈ ds, d.length = 32) : ∀ (j k : Nat), j < ds.length → k < 32 → ds.flatten[j * 32 + k]? = (ds.getD j [])[k]? := by
  induction ds with
  | nil => intro j k hj; simp at hj
  | cons d ds ih =>
    intro j k hj hk
    have hd := h d (List.mem_cons_self ..)
    rw [List.flatten_cons]
    cases j with
    | zero =>
      rw [List.getElem?_append_left (by omega)]
      simp
    | succ j =>
      rw [List.getElem?_append_right (by omega), hd, show (j + 1) * 32 + k - 32 = j * 32 + k by omega, ih (fun x hx => h x (List.mem_cons_of_mem _ hx)) j k (by simpa using hj) hk]
      simp
theorem flat_set {ds : List (List Int)} (h : ∀ d ∈ ds, d.length = 32) (x : List Int) (hx : x.length = 32) : ∀ (j : Nat), j < ds.length → splice ds.flatten (j * 32) x = (ds.set j x).flatten := by
  induction ds with
  | nil => intro j hj; simp at hj
  | cons d ds ih =>
    intro j hj
    have hd := h d (List.mem_cons_self ..)
    cases j with
    | zero =>
      unfold splice
      simp [hx, hd]
    | succ j =>
      have := ih (fun x hx => h x (List.mem_cons_of_mem _ hx)) j (by simpa using hj)
      unfold splice at this ⊢
      rw [List.set_cons_succ, List.flatten_cons, List.flatten_cons, ← this]
      rw [List.take_append, List.drop_append, hd, List.take_of_length_le (by omega), show (j + 1) * 32 - 32 = j * 32 by omega, List.drop_eq_nil_of_le (by omega), List.nil_append, show (j + 1) * 32 + x.length - 32 = j * 32 + x.length by omega, List.append_assoc]
/-- the cells of a row of digests -/
def dcs (ds : List (List Int)) : Array Value := (ds.flatten.map (Value.int .u8)).toArray
theorem dcs_size {ds : List (List Int)} (h : ∀ d ∈ ds, d.length = 32) : (dcs ds).size = ds.length * 32 := by
  unfold dcs
  rw [List.size_toArray, List.length_map, flat_length h]
theorem dcs_get (ds : List (List Int)) (j : Nat) : (dcs ds)[j]? = (ds.flatten[j]?).map (Value.int .u8) := by
  unfold dcs
  rw [List.getElem?_toArray, List.getElem?_map]
theorem Dg.lens {ds : List (List Int)} (h : ∀ d ∈ ds, Dg d) : ∀ d ∈ ds, d.length = 32 := fun d hd => (h d hd).len
theorem Dg.getD {ds : List (List Int)} (h : ∀ d ∈ ds, Dg d) {j : Nat} (hj : j < ds.length) : Dg (ds.getD j []) := by
  rw [List.getD_eq_getElem?_getD, List.getElem?_eq_getElem hj]
  exact h _ (List.getElem_mem hj)
/-- Digests, in memory that was there. -/
structure DigsAt (w : World) (a : Option Addr) (len cap : Nat) (ds : List (List Int)) : Prop where
  length : ds.length = len
  le : len ≤ cap
  max : cap ≤ 9223372036854775807
  each : ∀ d ∈ ds, Dg d
  mem : (a = none ∧ len = 0 ∧ cap = 0) ∨ ∃ x o s, a = some ⟨x, o, s⟩ ∧ ∀ j, j < len → s = none ∧ x < w.heap.size ∧ w.rangeAt x (o + j * 32) ((ds.getD j []).map (Value.int .u8))
theorem rangeAt_below {w w' : World} {x o : Nat} {cs : List Value} (h : w.rangeAt x o cs) (hx : x < w.heap.size) (hb : Below w.heap.size w w') : w'.rangeAt x o cs := fun j v hv => by
  rw [hb.cell (p := ⟨x, o + j, none⟩) hx]; exact h j v hv
theorem DigsAt.below {w w' : World} {a : Option Addr} {len cap : Nat} {ds : List (List Int)} (h : DigsAt w a len cap ds) (hb : Below w.heap.size w w') : DigsAt w' a len cap ds := by
  obtain ⟨h1, h2, h3, h4, h | ⟨x, o, s, rfl, hc⟩⟩ := h
  · exact ⟨h1, h2, h3, h4, .inl h⟩
  · refine ⟨h1, h2, h3, h4, .inr ⟨x, o, s, rfl, fun j hj => ?_⟩⟩
    obtain ⟨q0, q1, q2⟩ := hc j hj
    exact ⟨q0, Nat.lt_of_lt_of_le q1 hb.size, rangeAt_below q2 q1 hb⟩
theorem DigsAt.nil (w : World) : DigsAt w none 0 0 [] := ⟨rfl, Nat.le_refl _, by omega, by simp, .inl ⟨rfl, rfl, rfl⟩⟩
theorem DigsAt.at_ {w : World} {a : Option Addr} {len cap : Nat} {ds : List (List Int)} (h : DigsAt w a len cap ds) (h0 : 0 < len) : ∃ x o, a = some ⟨x, o, none⟩ ∧ x < w.heap.size ∧ ∀ j, j < len → w.rangeAt x (o + j * 32) ((ds.getD j []).map (Value.int .u8)) := by
  obtain ⟨h1, h2, h3, h4, ⟨_, h, _⟩ | ⟨x, o, s, rfl, hc⟩⟩ := h
  · omega
  · obtain ⟨rfl, hx, _⟩ := hc 0 h0
    exact ⟨x, o, rfl, hx, fun j hj => (hc j hj).2.2⟩
theorem DigsAt.get {w : World} {a : Option Addr} {len cap : Nat} {ds : List (List Int)} (h : DigsAt w a len cap ds) {j : Nat} (hj : j < len) : Dg (ds.getD j []) := Dg.getD h.each (by rw [h.length]; exact hj)
/-- A block of digests, laid flat. -/
theorem Blk.digs {w : World} {g : Nat} {ds : List (List Int)} {T : TypeId} (h : Blk w g (dcs ds) T) (hd : ∀ d ∈ ds, Dg d) : ∀ j, j < ds.length → w.rangeAt g (j * 32) ((ds.getD j []).map (Value.int .u8)) := fun j hj k v hv => by
  have hk : k < 32 := by
    have := (List.getElem?_eq_some_iff.1 hv).1
    simp only [List.length_map, (Dg.getD hd hj).len] at this
    exact this
  rw [h.cell, dcs_get, flat_at (Dg.lens hd) j k hj hk]
  rw [List.getElem?_map] at hv
  exact hv
theorem DigsAt.of_blk {w : World} {g n cap : Nat} {ds : List (List Int)} {T : TypeId} (h : Blk w g (dcs ds) T) (hd : ∀ d ∈ ds, Dg d) (hn : ds.length = n) (hc : n ≤ cap) (hm : cap ≤ 9223372036854775807) : DigsAt w (some ⟨g, 0, none⟩) n cap ds :=
  ⟨hn, hc, hm, hd, .inr ⟨g, 0, none, rfl, fun j hj => ⟨rfl, h.lt, by rw [Nat.zero_add]; exact h.digs hd j (by omega)⟩⟩⟩
/-- A digest is stored to a row. -/
theorem Blk.set_dig {w : World} {g : Nat} {ds : List (List Int)} {T : TypeId} (h : Blk w g (dcs ds) T) (hd : ∀ d ∈ ds, Dg d) {x : List Int} (hx : Dg x) {j : Nat} (hj : j < ds.length) :
    Blk (w.setCells g (j * 32) (x.map (Value.int .u8))) g (dcs (ds.set j x)) T := by
  have hl := flat_length (Dg.lens hd)
  unfold dcs at h ⊢
  have h0 : Blk w g (([] : List Value) ++ (ds.flatten.map (Value.int .u8) ++ [])).toArray T := by simpa using h
  have h1 := Blk.setCells [] (ds.flatten.map (Value.int .u8)) [] (j * 32) (x.map (Value.int .u8)) h0 (by simp only [List.length_map, hl, hx.len]; omega)
  have e : (([] : List Value) ++ (splice (ds.flatten.map (Value.int .u8)) (j * 32) (x.map (Value.int .u8)) ++ [])) = (ds.set j x).flatten.map (Value.int .u8) := by
    rw [← flat_set (Dg.lens hd) x hx.len j hj]
    simp [splice]
  rw [e] at h1
  simpa using h1
theorem digest_cells {H : Type} {enc : TypeId × Value → H} {P : Program} {W : World} {base : Nat} {spare : Nat → Bool} {held : Bool} {n : Nat} {e q : TypeId} {cs : List Value} {x : DataW H × List MemPlace} (he : P.underlying e = some (.array 32 q)) (hq : P.underlying q = some (.int .u8))
    (ce : P.cellsOf e = 32) (cq : P.cellsOf q = 1) (h : DataW.trod enc P W base spare held n e cs = some x) : ∃ d : List Int, Dg d ∧ cs = d.map (Value.int .u8) := by
  obtain ⟨ys, m, _, _, hl, hyl, hel⟩ := DataW.trod_array he h
  rw [ce] at hl
  have key : ∀ (j : Nat), j < 32 → ∃ x : Int, cs[j]? = some (.int .u8 x) ∧ (Lit.int .u8 x).wf = true := by
    intro j hj
    have h1 := hel j hj
    have hjl : j < cs.length := by omega
    rw [cq, Nat.mul_one] at h1
    obtain ⟨y, hy⟩ : ∃ y, ys[j]? = some y := ⟨_, List.getElem?_eq_getElem (by omega)⟩
    rw [hy] at h1
    have e1 : (cs.drop j).take 1 = [cs[j]] := by
      rw [List.drop_eq_getElem_cons hjl, List.take_succ_cons, List.take_zero]
    rw [e1] at h1
    obtain ⟨a, e0, _, wa⟩ := DataW.trod_int hq h1
    simp only [List.cons.injEq, and_true] at e0
    exact ⟨a, by rw [List.getElem?_eq_getElem hjl, e0], wa⟩
  refine ⟨cs.map fun v => match v with | .int _ x => x | _ => 0, ⟨by simp; omega, ?_⟩, ?_⟩
  · intro x hx
    simp only [List.mem_map] at hx
    obtain ⟨v, hv, rfl⟩ := hx
    obtain ⟨j, hj, rfl⟩ := List.getElem_of_mem hv
    obtain ⟨x, hx, hw⟩ := key j (by omega)
    rw [List.getElem?_eq_getElem hj] at hx
    rw [Option.some.inj hx]
    exact wf_u8 hw
  · apply List.ext_getElem?
    intro j
    rcases Nat.lt_or_ge j 32 with hj | hj
    · obtain ⟨x, hx, _⟩ := key j hj
      simp [hx]
    · rw [List.getElem?_eq_none (by omega), List.getElem?_eq_none (by simp; omega)]
/-- A row of digests of the call's own. -/
structure OwnD (w : World) (base : Nat) (e : TypeId) (v : Value) (ds : List (List Int)) : Prop where
  row : w.ownsRow base e 32 v ds.length (ds.flatten.map (Value.int .u8))
  each : ∀ d ∈ ds, Dg d
theorem OwnD.nil (w : World) (base : Nat) (e : TypeId) : OwnD w base e (.slice none 0 0) [] := ⟨World.ownsRow_nil w base e 32, by simp⟩
theorem OwnD.below {w w' : World} {base : Nat} {e : TypeId} {v : Value} {ds : List (List Int)} (h : OwnD w base e v ds) (hb : Below w.heap.size w w') : OwnD w' base e v ds := ⟨owns_below h.row hb, h.each⟩
theorem OwnD.lt {w : World} {base : Nat} {e : TypeId} {v : Value} {ds : List (List Int)} (h : OwnD w base e v ds) : ∀ k, v.ownBlock = some k → base ≤ k ∧ k < w.heap.size := h.row.lt
theorem OwnD.re {w : World} {base base' : Nat} {e : TypeId} {v : Value} {ds : List (List Int)} (h : OwnD w base e v ds) (hb : base' ≤ base) : OwnD w base' e v ds := by
  obtain ⟨⟨h1, h2⟩, h3⟩ := h
  refine ⟨⟨h1, h2.imp id ?_⟩, h3⟩
  rintro ⟨g, cap, cur, rfl, hg, hh⟩
  exact ⟨g, cap, cur, rfl, Nat.le_trans hb hg, hh⟩
theorem OwnD.of_blk {w : World} {base g n : Nat} {e : TypeId} {ds : List (List Int)} (h : Blk w g (dcs ds) e) (hg : base ≤ g) (hn : ds.length = n) (hm : n ≤ 9223372036854775807) (hs : ∀ d ∈ ds, Dg d) : OwnD w base e (.slice (some ⟨g, 0, none⟩) n n) ds := by
  subst hn
  unfold dcs at h
  have hl := flat_length (Dg.lens hs)
  exact ⟨⟨by rw [List.length_map, hl], .inr ⟨g, _, _, rfl, hg, h, Nat.le_refl _, by unfold maxLen; omega, by rw [List.size_toArray, List.length_map, hl], List.take_of_length_le (by rw [List.length_map, hl]; exact Nat.le_refl _)⟩⟩, hs⟩
theorem OwnD.digs {w : World} {base : Nat} {e : TypeId} {v : Value} {ds : List (List Int)} (h : OwnD w base e v ds) : ∃ a cap, v = .slice a ds.length cap ∧ DigsAt w a ds.length cap ds ∧ (a = none ∨ ∃ g, a = some ⟨g, 0, none⟩ ∧ base ≤ g) := by
  obtain ⟨⟨h1, ⟨rfl, h2⟩ | ⟨g, cap, cur, rfl, hg, hh, hle, hmx, hsz, htk⟩⟩, h3⟩ := h
  · obtain rfl := List.eq_nil_of_length_eq_zero h2
    exact ⟨none, 0, rfl, DigsAt.nil w, .inl rfl⟩
  · refine ⟨_, cap, rfl, ⟨rfl, hle, by unfold maxLen at hmx; omega, h3, .inr ⟨g, 0, none, rfl, fun j hj => ⟨rfl, (Array.getElem?_eq_some_iff.1 hh).1, fun k v hv => ?_⟩⟩⟩, .inr ⟨g, rfl, hg⟩⟩
    have hk : k < 32 := by
      have := (List.getElem?_eq_some_iff.1 hv).1
      simp only [List.length_map, (Dg.getD h3 hj).len] at this
      exact this
    have hb : Blk w g cur e := hh
    rw [Nat.zero_add, hb.cell]
    have : (cur.toList.take (ds.length * 32))[j * 32 + k]? = some v := by
      rw [htk, List.getElem?_map, flat_at (Dg.lens h3) j k hj hk, ← List.getElem?_map]
      exact hv
    rw [List.getElem?_take_of_lt (by omega)] at this
    simpa using this
section
variable {P : Program} {w : World} {base : Nat} {t e : TypeId} {i : TypeInfo} {v z : Value} {ds : List (List Int)}
/-- One digest more. -/
theorem run_append_dig (ty : TypeId) (ht : P.underlying t = some (.slice e)) (hi : P.info? e = some i) (hz : i.zero = some z) (hzs : z.cells.size = 32) (hsize : i.size = 32) (hby : i.bytes = 32) (hown : OwnD w base e v ds)
    {b : Nat} {x : List Int} {T : TypeId} (hk : Blk w b (x.map (Value.int .u8)).toArray T) (hx : Dg x) (hb : ds.length ≤ 4000000000000) (hbase : base ≤ w.heap.size) :
    ∃ v' w', (Builtin.append_ #[t, t] ty #[v, .slice (some ⟨b, 0, none⟩) 1 1]).run P w = .ok v' w' ∧ OwnD w' base e v' (ds ++ [x]) ∧ w.grownBy w' v.ownBlock ∧ Below base w w' := by
  have hbel : ∀ {w' : World}, w.grownBy w' v.ownBlock → Below base w w' := fun hg => ⟨hg.os, hg.tape, hg.output, hg.size, fun k hk => hg.block k (by omega) (fun e => by have := (hown.lt k e.symm).1; omega)⟩
  obtain ⟨v', w', h1, h2, h3, _⟩ := run_append_own (P := P) w base t ty e i z 32 32 ht hi hz hsize hby hzs (by omega) v ds.length _ hown.row ⟨b, 0, none⟩ 1 1 (x.map (Value.int .u8)) (by simp [hx.len]) (news_blk hk) (fun u hu => by
    simp only [List.mem_map] at hu
    obtain ⟨_, _, rfl⟩ := hu
    rfl) (by unfold maxLen; omega) (by omega) hbase
  refine ⟨v', w', h1, ⟨?_, ?_⟩, h3, ?_⟩
  · have : (ds ++ [x]).flatten.map (Value.int .u8) = ds.flatten.map (Value.int .u8) ++ x.map (Value.int .u8) := by simp
    rw [this, List.length_append]
    exact h2
  · intro d hd
    rcases List.mem_append.1 hd with h | h
    · exact hown.each d h
    · simp only [List.mem_singleton] at h
      rw [h]; exact hx
  · exact hbel h3
theorem wpList_append_dig {ops : Array Oper} {rest : List Oper} {o : Oper} {A : Act} {Q : Exit → Act → World → Prop} (hgd : o.guard = none) (s x : Operand) (ho : o.op = .call { callee := .builtin .append, args := #[s, x], argTypes := #[t, t] })
    (ht : P.underlying t = some (.slice e)) (hi : P.info? e = some i) (hz : i.zero = some z) (hzs : z.cells.size = 32) (hsize : i.size = 32) (hby : i.bytes = 32) (hs : A.eval s = v) (hown : OwnD w base e v ds)
    {b : Nat} {y : List Int} {T : TypeId} (hx : A.eval x = .slice (some ⟨b, 0, none⟩) 1 1) (hk : Blk w b (y.map (Value.int .u8)).toArray T) (hy : Dg y) (hb : ds.length ≤ 4000000000000) (hbase : base ≤ w.heap.size)
    (h : ∀ v' w', OwnD w' base e v' (ds ++ [y]) → w.grownBy w' v.ownBlock → Below base w w' → wpList P ops Q rest (A.put o.dst v') w') : wpList P ops Q (o :: rest) A w :=
  wpList_plain hgd fun K hK => by
    obtain ⟨v', w', hr, h2, h3, h4⟩ := run_append_dig o.type ht hi hz hzs hsize hby hown hk hy hb hbase
    unfold Oper.wp execOp
    simp only [ho, resolve, invoke, builtin, Sem.run_bind, Sem.run_pure, Result.andThen_ok, List.map_toArray, List.map_cons, List.map_nil, hs, hx, hr, Oper.upon_value]
    exact hK _ _ (h v' w' h2 h3 h4)
end
section
variable {P : Program} {ops : Array Oper} {rest : List Oper} {op : Oper} {a : Act} {w : World} {Q : Exit → Act → World → Prop} {t e : TypeId}
/-- An element's address. -/
theorem run_indexAt_digs (ht : P.underlying t = some (.slice e)) (hs : (P.info? e).map (·.size) = some 32) (b o len cap : Nat) (k : IntKind) (i : Int) (j : Nat) (hi : i = j) (hj : j < len) (w : World) :
    (Instr.indexAt t (.slice (some ⟨b, o, none⟩) len cap) (.int k i)).run P w = .ok (.pointer (some ⟨b, o + j * 32, none⟩)) w := by
  subst hi
  obtain ⟨i0, hi0, h32⟩ := Option.map_eq_some_iff.1 hs
  have hlt : (0 : Int) ≤ j ∧ (j : Int) < len := by omega
  unfold Instr.indexAt
  simp [asIntOf, Sem.run_bind, run_underlying ht, hlt, sizeOf, typeInfo, hi0, h32, hj, Addr.add_mid]
theorem wpList_index_digs (hgd : op.guard = none) (ty : TypeId) (x ix : Operand) (ho : op.op = .indexAddr ty x ix) (ht : P.underlying ty = some (.slice e)) (hs : (P.info? e).map (·.size) = some 32) (b o len cap : Nat) (hx : a.eval x = .slice (some ⟨b, o, none⟩) len cap)
    (k : IntKind) (i : Int) (hix : a.eval ix = .int k i) (j : Nat) (hi : i = j) (hj : j < len) (h : wpList P ops Q rest (a.put op.dst (.pointer (some ⟨b, o + j * 32, none⟩))) w) : wpList P ops Q (op :: rest) a w :=
  wpList_plain hgd fun K hK => by
    unfold Oper.wp execOp
    simp only [ho, hx, hix, Sem.run_bind, Sem.run_pure, Result.andThen_ok, run_indexAt_digs ht hs b o len cap k i j hi hj, Oper.upon_value]
    exact hK _ _ h
theorem quiet_index_digs {C : World → Prop} {K : Act → Prop} (ty : TypeId) (x ix : Operand) (ho : op.op = .indexAddr ty x ix) (ht : P.underlying ty = some (.slice e)) (hs : (P.info? e).map (·.size) = some 32) (b o len cap : Nat) (hx : a.eval x = .slice (some ⟨b, o, none⟩) len cap)
    (k : IntKind) (i : Int) (hix : a.eval ix = .int k i) (j : Nat) (hi : i = j) (hj : j < len) (h : K (a.put op.dst (.pointer (some ⟨b, o + j * 32, none⟩)))) : op.quiet P a C K :=
  ⟨.pointer (some ⟨b, o + j * 32, none⟩), fun w' hw' => by
    unfold Oper.quietAt execOp
    simp only [ho, hx, hix, Sem.run_bind, Sem.run_pure, Result.andThen_ok, run_indexAt_digs ht hs b o len cap k i j hi hj]
    simp [Oper.quietUpon], h⟩
theorem quiet_load_mid {C : World → Prop} {K : Act → Prop} (ty : TypeId) (x : Operand) (ho : op.op = .load ty x) (b o : Nat) (hx : a.eval x = .pointer (some ⟨b, o, none⟩)) (cs : List Value)
    (hk : ∀ w', C w' → w'.rangeAt b o cs) (d : TypeDesc) (hu : P.underlying ty = some d) (hd : d.isRow = true) (hi : (P.info? ty).map (·.size) = some cs.length)
    (h : K (a.put op.dst (.agg cs.toArray))) : op.quiet P a C K :=
  ⟨.agg cs.toArray, fun w' hw' => by
    unfold Oper.quietAt execOp
    simp only [ho, hx, Instr.loadAt, Instr.sureAddr, Sem.run_bind, Sem.run_pure, Result.andThen_ok, run_loadVar_mid w' b o ty cs d (hk w' hw') hu hd hi]
    simp [Oper.quietUpon], h⟩
end
end Go.Proofs.YtpinamdgbijjlaaGreatDoor
