/-
  Digests and texts, for a program without sums.
-/
import Derived.Test.YtkakoiaahgchmaaGWNum
import Derived.Test.YtkakoiaahgchmaaGNFlow
import Derived.Lib.Bytes
import Derived.Lib.SlBytesConst
namespace Go.Proofs.Ytkakoiaahgchmaa
open Go.ChangeShapes Go.WideShapes Go.ChangeAt Go.RowKit

/-- bytes, then 0 -/
def byteCells (n : Nat) (bs : List Int) : Array Value := (bs.map (Value.int .u8) ++ List.replicate (n - bs.length) (Value.int .u8 0)).toArray
set_option maxRecDepth 100000 in
theorem byteCells_size (n : Nat) (bs : List Int) (h : bs.length ≤ n) : (byteCells n bs).size = n := by simp [byteCells]; omega
theorem size_digest : (Try.prog.info? 25).map (·.size) = some 32 := by kernel_rfl
set_option maxRecDepth 100000 in
theorem eqD (xs ys : List Int) (hx : xs.length = 32) (hy : ys.length = 32) (w : World) : (binOp .eql 25 (.agg (xs.map (Value.int .u8)).toArray) (.agg (ys.map (Value.int .u8)).toArray)).run Try.prog w = .ok (.bool (decide (xs = ys))) w :=
  run_eql_ints (P := Try.prog) (t := 25) (e := 5) Try.underlying25 Try.underlying5 rfl (by kernel_rfl) xs ys hx hy w
set_option maxRecDepth 100000 in
theorem neD (xs ys : List Int) (hx : xs.length = 32) (hy : ys.length = 32) (w : World) : (binOp .neq 25 (.agg (xs.map (Value.int .u8)).toArray) (.agg (ys.map (Value.int .u8)).toArray)).run Try.prog w = .ok (.bool (!decide (xs = ys))) w :=
  run_neq_ints (P := Try.prog) (t := 25) (e := 5) Try.underlying25 Try.underlying5 rfl (by kernel_rfl) xs ys hx hy w
set_option maxRecDepth 100000 in
theorem eqD_self (xs : List Int) (hx : xs.length = 32) (w : World) : (binOp .eql 25 (.agg (xs.map (Value.int .u8)).toArray) (.agg (xs.map (Value.int .u8)).toArray)).run Try.prog w = .ok (.bool true) w := by
  rw [eqD xs xs hx hx w, decide_eq_true rfl]
set_option maxRecDepth 100000 in
theorem neD_self (xs : List Int) (hx : xs.length = 32) (w : World) : (binOp .neq 25 (.agg (xs.map (Value.int .u8)).toArray) (.agg (xs.map (Value.int .u8)).toArray)).run Try.prog w = .ok (.bool false) w := by
  rw [neD xs xs hx hx w, decide_eq_true rfl]; rfl
set_option maxRecDepth 100000 in
/-- the size of a digest's cells -/
theorem dsize {xs : List Int} (hx : xs.length = 32) : ((xs.map (Value.int .u8)).toArray).size = 32 := by simp [hx]
set_option maxRecDepth 100000 in
theorem zsize : (byteCells 32 []).size = 32 := byteCells_size 32 [] (by simp)
set_option maxRecDepth 100000 in
/-- a text that was made just now, whatever its block's mark -/
theorem TextAt.made {w : World} {bs : List Int} {n : Nat} {T : TypeId} (mark : Nat × Nat) (hn : bs.length = n) (hm : n ≤ 9223372036854775807) (hs : ∀ x ∈ bs, 0 ≤ x ∧ x < 256) : TextAt (w.alloc (.cells (bs.map (Value.int .u8)).toArray T mark)) (some ⟨w.heap.size, 0, none⟩) n n bs :=
  ⟨hn, Nat.le_refl _, hm, hs, .inr ⟨_, 0, none, rfl, fun j hj => ⟨rfl, by rw [World.size_alloc]; omega, by rw [Nat.zero_add, World.cell?_alloc_mark]; simp [show j < bs.length by omega]⟩⟩⟩
set_option maxRecDepth 100000 in
/-- texts, whose values lie in a block -/
theorem TextsAt.of_blk {w : World} {g n cap : Nat} {T : TypeId} {vs : Array Value} {ts : List (List Int)} (h : Blk w g vs T) (hl : ts.length = n) (hc : n ≤ cap) (hm : cap ≤ 9223372036854775807) (hv : ∀ j, j < n → ∃ a l c, vs[j]? = some (.slice a l c) ∧ TextAt w a l c (ts.getD j [])) : TextsAt w (some ⟨g, 0, none⟩) n cap ts :=
  ⟨hl, hc, hm, .inr ⟨g, 0, rfl, h.lt, fun j hj => by
    obtain ⟨a, l, c, h1, h2⟩ := hv j hj
    exact ⟨a, l, c, by rw [Nat.zero_add, h.cell]; exact h1, h2⟩⟩⟩
set_option maxRecDepth 100000 in
theorem TextsAt.none_ {w : World} : TextsAt w none 0 0 [] := ⟨rfl, Nat.le_refl _, by omega, .inl rfl⟩
set_option maxRecDepth 100000 in
theorem strOfNums_inj {xs ys : List Int} (hx : ∀ x ∈ xs, 0 ≤ x ∧ x < 256) (hy : ∀ x ∈ ys, 0 ≤ x ∧ x < 256) : strOfNums xs = strOfNums ys ↔ xs = ys := by
  constructor
  · intro h
    have key : ∀ zs : List Int, (∀ x ∈ zs, 0 ≤ x ∧ x < 256) → ((strOfNums zs).data.toList.map fun u : UInt8 => (u.toNat : Int)) = zs := fun zs hz => by
      rw [strOfNums_data, List.map_map]
      conv => rhs; rw [← List.map_id zs]
      apply List.map_congr_left
      intro z hzm
      have := hz z hzm
      simp
      omega
    rw [← key xs hx, ← key ys hy, h]
  · rintro rfl; rfl
set_option maxRecDepth 100000 in
theorem eqStr {xs ys : List Int} (hx : ∀ x ∈ xs, 0 ≤ x ∧ x < 256) (hy : ∀ x ∈ ys, 0 ≤ x ∧ x < 256) (w : World) : (binOp .eql 9 (.string (strOfNums xs)) (.string (strOfNums ys))).run Try.prog w = .ok (.bool (decide (xs = ys))) w := by
  have h := strOfNums_inj hx hy
  by_cases e : xs = ys
  · subst e; simp [go_sem]
  · have : ¬ strOfNums xs = strOfNums ys := fun q => e (h.1 q)
    have : ¬ (strOfNums xs).toList = (strOfNums ys).toList := fun q => this (by
      rw [Lib.strOfNums_toList, Lib.strOfNums_toList] at q
      exact congrArg (fun l : List UInt8 => (⟨l.toArray⟩ : ByteArray)) q)
    simp [go_sem, e, this]
set_option maxRecDepth 100000 in
theorem conv_str {w : World} {a : Option Addr} {len cap : Nat} {bs : List Int} (h : TextAt w a len cap bs) : ∀ x : Ext w, (convert 31 9 (.slice a len cap)).run Try.prog x.at_ = .ok (.string (strOfNums bs)) x.at_ :=
  fun x => (h.below x.same).string Try.underlying31 Try.underlying5 Try.underlying9
set_option maxRecDepth 100000 in
theorem eqStrB {xs ys : List Int} (hx : ∀ x ∈ xs, 0 ≤ x ∧ x < 256) (hy : ∀ x ∈ ys, 0 ≤ x ∧ x < 256) : ((strOfNums xs).toList == (strOfNums ys).toList) = decide (xs = ys) := by
  by_cases e : xs = ys
  · subst e; simp
  · have h : ¬ (strOfNums xs).toList = (strOfNums ys).toList := fun q => e ((strOfNums_inj hx hy).1 (by
      rw [Lib.strOfNums_toList, Lib.strOfNums_toList] at q
      exact congrArg (fun l : List UInt8 => (⟨l.toArray⟩ : ByteArray)) q))
    simp [e, h]
/-- a digest's bytes -/
structure Dg (xs : List Int) : Prop where
  len : xs.length = 32
  small : ∀ x ∈ xs, 0 ≤ x ∧ x < 256
set_option maxRecDepth 100000 in
theorem Dg.text {xs : List Int} (h : Dg xs) {w : World} {g : Nat} {T : TypeId} (k : Blk w g (xs.map (Value.int .u8)).toArray T) : TextAt w (some ⟨g, 0, none⟩) 32 32 xs := TextAt.of_ints k h.len (by omega) h.small
set_option maxRecDepth 100000 in
theorem Dg.size {xs : List Int} (h : Dg xs) : ((xs.map (Value.int .u8)).toArray).size = 32 := dsize h.len
/-- a text that a function hands back -/
def TextV (t : List Int) (v : Value) (w : World) : Prop := ∃ a n c, v = .slice a n c ∧ TextAt w a n c t
theorem TextV.below {t : List Int} {v : Value} {w w' : World} (h : TextV t v w) (hb : Below w.heap.size w w') : TextV t v w' := by
  obtain ⟨a, n, c, h1, h2⟩ := h
  exact ⟨a, n, c, h1, h2.below hb⟩
theorem TextV.text {t : List Int} {a : Option Addr} {n c : Nat} {w : World} (h : TextV t (.slice a n c) w) : TextAt w a n c t := by
  obtain ⟨a', n', c', h1, h2⟩ := h
  injection h1 with e1 e2 e3
  subst e1 e2 e3
  exact h2
theorem TextV.of_own {w : World} {base : Nat} {e : TypeId} {v : Value} {bs : List Int} (h : OwnB w base e v bs) : TextV bs v w := by
  obtain ⟨a, c, h1, h2, _⟩ := h.text
  exact ⟨a, _, c, h1, h2⟩
/-- what 'bytesOf' hands back -/
def NumAt (n : Int) (v : Value) (w : World) : Prop := ∃ g, v = .slice (some ⟨g, 0, none⟩) 8 8 ∧ Blk w g ((be 8 n).map (Value.int .u8)).toArray 5
theorem NumAt.below {n : Int} {v : Value} {w w' : World} (h : NumAt n v w) (hb : Below w.heap.size w w') : NumAt n v w' := by
  obtain ⟨g, h1, h2⟩ := h
  exact ⟨g, h1, h2.below hb⟩
theorem NumAt.text {n : Int} {g : Nat} {w : World} (h : NumAt n (.slice (some ⟨g, 0, none⟩) 8 8) w) : TextAt w (some ⟨g, 0, none⟩) 8 8 (be 8 n) := by
  obtain ⟨g', h1, h2⟩ := h
  injection h1 with h1
  injection h1 with h1
  injection h1 with h1
  subst h1
  exact TextAt.of_ints h2 (be_length 8 n) (by omega) (be_small 8 n)
def zD : List Int := List.replicate 32 0
set_option maxRecDepth 100000 in
theorem Dg.zero : Dg zD := ⟨by simp [zD], fun x hx => by have := List.eq_of_mem_replicate hx; omega⟩
set_option maxRecDepth 100000 in
theorem zD_cells : byteCells 32 [] = (zD.map (Value.int .u8)).toArray := by kernel_rfl
section
variable {P : Program} {ops : Array Oper} {rest : List Oper} {op : Oper} {a : Act} {w : World} {Q : Exit → Act → World → Prop}
theorem run_load_one {ty : TypeId} {ad : Addr} {v : Value} (w' : World) (hk : w'.cell? ad = some v) (d : TypeDesc) (hu : P.underlying ty = some d) (hd : d.isRow = false) : (loadVar ty ad).run P w' = .ok v w' := by
  have hagg : (isAgg ty).run P w' = .ok false w' := by
    unfold isAgg
    rw [Sem.run_bind, run_underlying hu w']
    cases d <;> simp_all
  simp [loadVar, Sem.run_bind, hagg, hk]
theorem quiet_load_one {C : World → Prop} {K : Act → Prop} (ty : TypeId) (x : Operand) (ho : op.op = .load ty x) (ad : Addr) (hx : a.eval x = .pointer (some ad)) (v : Value)
    (hk : ∀ w', C w' → w'.cell? ad = some v) (d : TypeDesc) (hu : P.underlying ty = some d) (hd : d.isRow = false)
    (h : K (a.put op.dst v)) : op.quiet P a C K :=
  ⟨v, fun w' hw' => by
    unfold Oper.quietAt execOp
    simp only [ho, hx, Instr.loadAt, Instr.sureAddr, Sem.run_bind, Sem.run_pure, Result.andThen_ok, run_load_one w' (hk w' hw') d hu hd]
    simp [Oper.quietUpon], h⟩
set_option maxRecDepth 100000 in
theorem quiet_load_mid {C : World → Prop} {K : Act → Prop} (ty : TypeId) (x : Operand) (ho : op.op = .load ty x) (b o : Nat) (hx : a.eval x = .pointer (some ⟨b, o, none⟩)) (cs : List Value)
    (hk : ∀ w', C w' → w'.rangeAt b o cs) (d : TypeDesc) (hu : P.underlying ty = some d) (hd : d.isRow = true) (hi : (P.info? ty).map (·.size) = some cs.length)
    (h : K (a.put op.dst (.agg cs.toArray))) : op.quiet P a C K :=
  ⟨.agg cs.toArray, fun w' hw' => by
    unfold Oper.quietAt execOp
    simp only [ho, hx, Instr.loadAt, Instr.sureAddr, Sem.run_bind, Sem.run_pure, Result.andThen_ok, run_loadVar_mid w' b o ty cs d (hk w' hw') hu hd hi]
    simp [Oper.quietUpon], h⟩
end
end Go.Proofs.Ytkakoiaahgchmaa
