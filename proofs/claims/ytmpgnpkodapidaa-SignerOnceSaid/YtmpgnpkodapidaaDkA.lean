/-
  Layer 12: a disk, and what waits to be on it.
-/
import Derived.Test.YtmpgnpkodapidaaDMNum
import Derived.Test.YtmpgnpkodapidaaDNFlow
import Derived.Test.YtmpgnpkodapidaaDNFlowB
import Derived.Laws.CopyOwn
import Derived.Lib.SliceRun
import Derived.Lib.Bytes
import Derived.Lib.SlBytesConst
namespace Go.Proofs.Ytmpgnpkodapidaa
open Go.ChangeShapes Go.WideShapes Go.ChangeAt Go.RowKit

section
variable {P : Program} {ops : Array Oper} {rest : List Oper} {op : Oper} {a : Act} {w : World} {Q : Exit → Act → World → Prop}
theorem run_load_one {ty : TypeId} {ad : Addr} {v : Value} (w' : World) (hk : w'.cell? ad = some v) (d : TypeDesc) (hu : P.underlying ty = some d) (hd : d.isRow = false) : (loadVar ty ad).run P w' = .ok v w' := by
  have hagg : (isAgg ty).run P w' = .ok false w' := by
    unfold isAgg
    rw [Sem.run_bind, run_underlying hu w']
    cases d <;> simp_all
  simp [loadVar, Sem.run_bind, hagg, hk]
theorem quiet_load_one {C : World → Prop} {K : Act → Prop} (ty : TypeId) (x : Operand) (ho : op.op = .load ty x) (ad : Addr) (hx : a.eval x = .pointer (some ad)) (v : Value)
    (hk : ∀ w', C w' → w'.cell? ad = some v) (d : TypeDesc) (hu : P.underlying ty = some d) (hd : d.isRow = false)
    (h : K (a.put op.dst v)) : op.quiet P a C K :=
  ⟨v, fun w' hw' => by
    unfold Oper.quietAt execOp
    simp only [ho, hx, Instr.loadAt, Instr.sureAddr, Sem.run_bind, Sem.run_pure, Result.andThen_ok, run_load_one w' (hk w' hw') d hu hd]
    simp [Oper.quietUpon], h⟩
/-- One cell is stored. -/
theorem run_store_one {ty : TypeId} {b o : Nat} {v : Value} {cs : Array Value} {T : TypeId} (w : World) (hk : Blk w b cs T) (ho : o < cs.size) (hi : (P.info? ty).map (·.size) = some 1) (h1 : v.oneCell' = true) (hc : v.cells = #[v]) :
    (storeVar ty ⟨b, o, none⟩ v).run P w = .ok () (w.setCells b o [v]) := by
  have h := run_storeVar_mid (P := P) w b o ty #[v] (fun j hj => ⟨by
    simp only [List.size_toArray, List.length_cons, List.length_nil] at hj
    rw [hk.cell, Array.getElem?_eq_getElem (by omega)]; rfl, hk.free _⟩) (by rw [hi]; rfl) (by simp [h1])
  unfold storeVar at *
  rw [hc]
  exact h
theorem wpList_store_cell (hgd : op.guard = none) (ty : TypeId) (x y : Operand) (ho : op.op = .store ty x y) (b o : Nat) (v : Value) (hx : a.eval x = .pointer (some ⟨b, o, none⟩)) (hy : a.eval y = v) (h1 : v.oneCell' = true) (hc : v.cells = #[v])
    (cs : Array Value) (T : TypeId) (hk : Blk w b cs T) (hlt : o < cs.size) (hi : (P.info? ty).map (·.size) = some 1)
    (h : ∀ w', But b w w' → Blk w' b (cs.setIfInBounds o v) T → wpList P ops Q rest (a.put op.dst undef) w') : wpList P ops Q (op :: rest) a w :=
  wpList_plain hgd fun K hK => by
    unfold Oper.wp execOp
    simp only [ho, hx, hy, Instr.storeAt, Instr.sureAddr, Sem.run_bind, Sem.run_pure, Result.andThen_ok, run_store_one w hk hlt hi h1 hc, Oper.upon_skip]
    exact hK _ _ (h _ (But.setCells [v] o w (But.of (Below.refl _ _))) (hk.set o v))
end
section
variable {P : Program}
set_option maxRecDepth 100000 in
/-- Cells that are written into the middle of a block. -/
theorem Blk.setCells {w : World} {b : Nat} {T : TypeId} (A L B : List Value) (o : Nat) (cs : List Value) (h : Blk w b (A ++ (L ++ B)).toArray T) (hl : o + cs.length ≤ L.length) :
    Blk (w.setCells b (A.length + o) cs) b (A ++ (splice L o cs ++ B)).toArray T := by
  rw [setCells_is]
  obtain ⟨cs', h1, h2, h3, h4, h5⟩ := Blk.setAll_at cs (A.length + o) w _ h (by simp; omega)
  have : cs' = (A ++ (splice L o cs ++ B)).toArray := by
    apply Array.ext_getElem?
    intro j
    rcases Nat.lt_or_ge j (A.length + o) with hj | hj
    · rw [h3 j hj]
      simp only [List.getElem?_toArray]
      rcases Nat.lt_or_ge j A.length with hja | hja
      · rw [List.getElem?_append_left hja, List.getElem?_append_left hja]
      · rw [List.getElem?_append_right hja, List.getElem?_append_right hja, List.getElem?_append_left (by omega), List.getElem?_append_left (by rw [length_splice _ _ _ hl]; omega)]
        unfold splice
        rw [List.getElem?_append_left (by simp; omega), List.getElem?_take_of_lt (by omega)]
    · rcases Nat.lt_or_ge j (A.length + o + cs.length) with hj2 | hj2
      · have := h5 (j - (A.length + o)) (by omega)
        rw [show A.length + o + (j - (A.length + o)) = j by omega] at this
        rw [this, List.getElem?_toArray, List.getElem?_append_right (by omega), List.getElem?_append_left (by rw [length_splice _ _ _ hl]; omega)]
        unfold splice
        rw [List.getElem?_append_right (by simp; omega), List.getElem?_append_left (by simp; omega)]
        congr 1
        simp; omega
      · rw [h4 j hj2, List.getElem?_toArray, List.getElem?_toArray, List.getElem?_append_right (show A.length ≤ j by omega), List.getElem?_append_right (show A.length ≤ j by omega)]
        rcases Nat.lt_or_ge (j - A.length) L.length with hj3 | hj3
        · rw [List.getElem?_append_left hj3, List.getElem?_append_left (by rw [length_splice _ _ _ hl]; omega)]
          unfold splice
          rw [List.getElem?_append_right (by simp; omega), List.getElem?_append_right (by simp; omega), List.getElem?_drop]
          congr 1
          simp; omega
        · rw [List.getElem?_append_right hj3, List.getElem?_append_right (by rw [length_splice _ _ _ hl]; omega), length_splice _ _ _ hl]
  rw [← this]; exact h1
set_option maxRecDepth 100000 in
/-- copy, a text into a part of a block -/
theorem run_copy_text (w : World) (dT sT ty elem : TypeId) (hu : P.underlying dT = some (.slice elem)) (hs : (P.info? elem).map (·.size) = some 1) {b : Nat} {cs : Array Value} {T : TypeId} (hk : Blk w b cs T) (off dLen dCap : Nat) {a : Option Addr} {len cap : Nat} {t : List Int} (hT : TextAt w a len cap t)
    (hfit : off + dLen ≤ cs.size) : (Builtin.copy_ #[dT, sT] ty #[.slice (some ⟨b, off, none⟩) dLen dCap, .slice a len cap]).run P w = .ok (.int .i64 (Nat.min len dLen : Nat)) (w.setCells b off ((t.take (Nat.min len dLen)).map (Value.int .u8))) := by
  rcases Nat.eq_zero_or_pos (Nat.min len dLen) with h0 | h0
  · rw [run_copy_none w dT sT ty elem _ a dLen dCap len cap hu hs h0, h0]
    simp [World.setCells, goInt]
  · have hle : Nat.min len dLen ≤ len := Nat.min_le_left _ _
    have hle2 : Nat.min len dLen ≤ dLen := Nat.min_le_right _ _
    obtain ⟨x, o, rfl, hx, hc⟩ := hT.at_ (by omega)
    have hl : ((t.take (Nat.min len dLen)).map (Value.int .u8)).length = Nat.min len dLen := by rw [List.length_map, List.length_take, hT.length]; omega
    have := run_copy_cells (P := P) w dT sT ty elem b off dLen dCap ⟨x, o, none⟩ len cap ((t.take (Nat.min len dLen)).map (Value.int .u8)) hu hs hl (fun j v hv => by
      have hj : j < Nat.min len dLen := by
        have := (List.getElem?_eq_some_iff.1 hv).1
        omega
      rw [Addr.add_mid, hc j (by omega)]
      rw [List.getElem?_map, List.getElem?_take_of_lt hj, List.getElem?_eq_getElem (by rw [hT.length]; omega)] at hv
      rw [List.getD_eq_getElem?_getD, List.getElem?_eq_getElem (by rw [hT.length]; omega)]
      exact hv) (fun j hj => by rw [hk.cell, Array.getElem?_eq_getElem (by omega)]; rfl) (fun j _ => hk.free _) (fun v hv => by
      obtain ⟨y, _, rfl⟩ := List.mem_map.1 hv
      rfl)
    rw [this, hl]
    rfl
end
set_option maxRecDepth 100000 in
/-- .. as operations of a walk -/
theorem wpList_copy_text {P : Program} {ops : Array Oper} {rest : List Oper} {op : Oper} {act : Act} {w : World} {Q : Exit → Act → World → Prop} (hgd : op.guard = none) (d s : Operand) (dT sT : TypeId)
    (ho : op.op = .call { callee := .builtin .copy, args := #[d, s], argTypes := #[dT, sT] }) (elem : TypeId) (hu : P.underlying dT = some (.slice elem)) (hs : (P.info? elem).map (·.size) = some 1)
    (b off dLen dCap : Nat) (hd : act.eval d = .slice (some ⟨b, off, none⟩) dLen dCap) (a : Option Addr) (len cap : Nat) (hse : act.eval s = .slice a len cap) (cs : Array Value) (T : TypeId) (hk : Blk w b cs T) (t : List Int) (hT : TextAt w a len cap t) (hfit : off + dLen ≤ cs.size) (n : Nat) (hn : n = Nat.min len dLen)
    (h : wpList P ops Q rest (act.put op.dst (.int .i64 (n : Nat))) (w.setCells b off ((t.take n).map (Value.int .u8)))) : wpList P ops Q (op :: rest) act w := by
  subst hn
  refine wpList_plain hgd fun K hK => ?_
  have hrun := run_copy_text (P := P) w dT sT op.type elem hu hs hk off dLen dCap hT hfit
  unfold Oper.wp execOp
  simp only [ho, resolve, invoke, builtin, Sem.run_bind, Sem.run_pure, Result.andThen_ok, List.map_toArray, List.map_cons, List.map_nil, hd, hse, hrun]
  exact hK _ _ h
/-- bytes, then 0 -/
def byteCells (n : Nat) (bs : List Int) : Array Value := (bs.map (Value.int .u8) ++ List.replicate (n - bs.length) (Value.int .u8 0)).toArray
set_option maxRecDepth 100000 in
theorem byteCells_size (n : Nat) (bs : List Int) (h : bs.length ≤ n) : (byteCells n bs).size = n := by simp [byteCells]; omega
set_option maxRecDepth 100000 in
/-- a text that was made just now, whatever its block's mark -/
theorem TextAt.made {w : World} {bs : List Int} {n : Nat} {T : TypeId} (mark : Nat × Nat) (hn : bs.length = n) (hm : n ≤ 9223372036854775807) (hs : ∀ x ∈ bs, 0 ≤ x ∧ x < 256) : TextAt (w.alloc (.cells (bs.map (Value.int .u8)).toArray T mark)) (some ⟨w.heap.size, 0, none⟩) n n bs :=
  ⟨hn, Nat.le_refl _, hm, hs, .inr ⟨_, 0, none, rfl, fun j hj => ⟨rfl, by rw [World.size_alloc]; omega, by rw [Nat.zero_add, World.cell?_alloc_mark]; simp [show j < bs.length by omega]⟩⟩⟩
set_option maxRecDepth 100000 in
theorem strOfNums_inj {xs ys : List Int} (hx : ∀ x ∈ xs, 0 ≤ x ∧ x < 256) (hy : ∀ x ∈ ys, 0 ≤ x ∧ x < 256) : strOfNums xs = strOfNums ys ↔ xs = ys := by
  constructor
  · intro h
    have key : ∀ zs : List Int, (∀ x ∈ zs, 0 ≤ x ∧ x < 256) → ((strOfNums zs).data.toList.map fun u : UInt8 => (u.toNat : Int)) = zs := fun zs hz => by
      rw [strOfNums_data, List.map_map]
      conv => rhs; rw [← List.map_id zs]
      apply List.map_congr_left
      intro z hzm
      have := hz z hzm
      simp
      omega
    rw [← key xs hx, ← key ys hy, h]
  · rintro rfl; rfl
set_option maxRecDepth 100000 in
theorem eqStr {xs ys : List Int} (hx : ∀ x ∈ xs, 0 ≤ x ∧ x < 256) (hy : ∀ x ∈ ys, 0 ≤ x ∧ x < 256) (w : World) : (binOp .eql 9 (.string (strOfNums xs)) (.string (strOfNums ys))).run Try.prog w = .ok (.bool (decide (xs = ys))) w := by
  have h := strOfNums_inj hx hy
  by_cases e : xs = ys
  · subst e; simp [go_sem]
  · have : ¬ strOfNums xs = strOfNums ys := fun q => e (h.1 q)
    have : ¬ (strOfNums xs).toList = (strOfNums ys).toList := fun q => this (by
      rw [Lib.strOfNums_toList, Lib.strOfNums_toList] at q
      exact congrArg (fun l : List UInt8 => (⟨l.toArray⟩ : ByteArray)) q)
    simp [go_sem, e, this]
set_option maxRecDepth 100000 in
theorem conv_str {w : World} {a : Option Addr} {len cap : Nat} {bs : List Int} (h : TextAt w a len cap bs) : ∀ x : Ext w, (convert 31 9 (.slice a len cap)).run Try.prog x.at_ = .ok (.string (strOfNums bs)) x.at_ :=
  fun x => (h.below x.same).string Try.underlying31 Try.underlying5 Try.underlying9
set_option maxRecDepth 100000 in
theorem eqStrB {xs ys : List Int} (hx : ∀ x ∈ xs, 0 ≤ x ∧ x < 256) (hy : ∀ x ∈ ys, 0 ≤ x ∧ x < 256) : ((strOfNums xs).toList == (strOfNums ys).toList) = decide (xs = ys) := by
  by_cases e : xs = ys
  · subst e; simp
  · have h : ¬ (strOfNums xs).toList = (strOfNums ys).toList := fun q => e ((strOfNums_inj hx hy).1 (by
      rw [Lib.strOfNums_toList, Lib.strOfNums_toList] at q
      exact congrArg (fun l : List UInt8 => (⟨l.toArray⟩ : ByteArray)) q))
    simp [e, h]
set_option maxRecDepth 100000 in
theorem exec_make {P : Program} {o : Oper} {A : Act} {w w' : World} {l c : Operand} {t : TypeId} {vl vc v' : Value} (ho : o.op = .makeSlice t l c) (hl : A.eval l = vl) (hc : A.eval c = vc)
    (hr : (Instr.makeSlice t vl vc).run P w = .ok v' w') : (execOp A.eval o).run P w = .ok (.value v') w' := by
  unfold execOp
  simp [ho, hl, hc, hr]
set_option maxRecDepth 100000 in
theorem make_cells (n : Nat) : madeCells #[Value.int IntKind.u8 0] n = byteCells n [] := by
  have := made_zeros n 0
  simp only [be, List.append_nil] at this
  apply Array.ext'
  rw [this]
  simp [byteCells]
/-- What is handed back is nil just where what came in is. -/
theorem clone_any {w : World} {a : Option Addr} {len cap : Nat} {bs : List Int} (hT : TextAt w a len cap bs) (hl : len ≤ 140737488355328) :
    Calls Try.prog 42 #[.slice a len cap] w fun e w' => ∃ a' c', e = .returned (.slice a' len c') ∧ Below w.heap.size w w' ∧ TextAt w' a' len c' bs ∧ ∀ p : Addr, a' = some p → w.heap.size ≤ p.block ∧ ∃ cs, w'.heap[p.block]? = some (.cells cs 5 (0, 0)) := by
  obtain ⟨i0, hi, hz0, hz1, hz2⟩ := info_parts info_byte
  have hlen := hT.length
  have kE : OwnB (w.alloc (Obj.cells #[] 5)) w.heap.size 5 (.slice (some ⟨w.heap.size, 0, none⟩) 0 0) [] := OwnB.of_blk (Blk.new rfl _ _) (Nat.le_refl _) rfl (by omega) (by simp)
  have belE : Below w.heap.size w (w.alloc (Obj.cells #[] 5)) := (Below.refl _ _).alloc (Nat.le_refl _) _
  have hq := fun (w : World) (a : Option Addr) (n c : Nat) => Lib.run_eql_slice_nil (P := Try.prog) w 31 5 a n c 0 0 Try.underlying31
  cases a with
  | none =>
    rcases hT.mem with ⟨_, rfl, rfl⟩ | ⟨x, o, s, h, _⟩
    · go_enter Try.func42, Try.ntmps42
      go_wp2
      go_ret
      exact ⟨none, 0, rfl, Below.refl _ _, hT, fun p hp => by cases hp⟩
    · cases h
  | some p =>
    have hT' := hT.below belE
    clear hT
    go_enter Try.func42, Try.ntmps42
    go_wp2_with (at_builtin; refine wpList_append_text rfl _ _ rfl Try.underlying31 hi hz0 hz1 hz2 rfl kE rfl hT' ?c1 ?c2 ?_)
    case c1 => simp; omega
    case c2 => exact belE.size
    intro v' w3 hown _ hb
    have bel := belE.trans hb
    clear hb belE kE hT'
    obtain ⟨a', c', rfl, q1, q2⟩ := hown.text2
    rw [hlen] at q1
    rw [hlen]
    clear hown
    go_wp2_with fail
    go_ret
    exact ⟨a', c', rfl, bel, q1, q2⟩

theorem size_u8 : (Try.prog.info? 5).map (·.size) = some 1 := by kernel_rfl
theorem size_bool : (Try.prog.info? 4).map (·.size) = some 1 := by kernel_rfl
theorem size_dint : (Try.prog.info? 3).map (·.size) = some 1 := by kernel_rfl
theorem size_waits : (Try.prog.info? 73).map (·.size) = some 1 := by kernel_rfl
theorem size_ints : (Try.prog.info? 32).map (·.size) = some 1 := by kernel_rfl
theorem size_dtext : (Try.prog.info? 31).map (·.size) = some 1 := by kernel_rfl
theorem size_write : (Try.prog.info? 85).map (·.size) = some 2 := by kernel_rfl
/-- The cells of a disk. -/
def dkC (z L bb : Nat) (wv : Value) (on set : Bool) (af : Int) (kv : Value) : Array Value := #[.int .i64 z, .slice (some ⟨bb, 0, none⟩) L L, wv, .bool on, .bool set, .int .i64 af, kv]
/-- A disk: its cells, and the bytes of its sectors. -/
structure DkAt (w : World) (p bb z n : Nat) (B : List Int) (wv : Value) (on set : Bool) (af : Int) (kv : Value) : Prop where
  kp : Blk w p (dkC z B.length bb wv on set af kv) 75
  kb : Blk w bb (B.map (Value.int .u8)).toArray 5
  ne : p ≠ bb
  len : B.length = n * z
  z1 : 1 ≤ z
  z2 : z ≤ 512
  n1 : 1 ≤ n
  n2 : n ≤ 64
  small : ∀ x ∈ B, 0 ≤ x ∧ x < 256
theorem DkAt.below {w w' : World} {p bb z n : Nat} {B : List Int} {wv : Value} {on set : Bool} {af : Int} {kv : Value} (h : DkAt w p bb z n B wv on set af kv) (hb : Below w.heap.size w w') : DkAt w' p bb z n B wv on set af kv :=
  ⟨h.kp.below hb, h.kb.below hb, h.ne, h.len, h.z1, h.z2, h.n1, h.n2, h.small⟩
/-- The bytes of a sector, once the first ones of a text are there. -/
def putS (z i : Nat) (t : List Int) (m : Nat) (B : List Int) : List Int := B.take (i * z) ++ (t.take m ++ B.drop (i * z + m))
theorem putS_length {z i : Nat} {t : List Int} {m : Nat} {B : List Int} (hm : m ≤ t.length) (h : i * z + m ≤ B.length) : (putS z i t m B).length = B.length := by
  unfold putS
  simp only [List.length_append, List.length_take, List.length_drop]
  omega
theorem putS_small {z i : Nat} {t : List Int} {m : Nat} {B : List Int} (ht : ∀ x ∈ t, 0 ≤ x ∧ x < 256) (hB : ∀ x ∈ B, 0 ≤ x ∧ x < 256) : ∀ x ∈ putS z i t m B, 0 ≤ x ∧ x < 256 := fun x hx => by
  unfold putS at hx
  simp only [List.mem_append] at hx
  rcases hx with h | h | h
  · exact hB x (List.mem_of_mem_take h)
  · exact ht x (List.mem_of_mem_take h)
  · exact hB x (List.mem_of_mem_drop h)
theorem putS_blk {w : World} {b z i : Nat} {t : List Int} {m : Nat} {B : List Int} {T : TypeId} (h : Blk w b (B.map (Value.int .u8)).toArray T) (hm : m ≤ t.length) (hf : i * z + m ≤ B.length) :
    Blk (w.setCells b (i * z) ((t.take m).map (Value.int .u8))) b ((putS z i t m B).map (Value.int .u8)).toArray T := by
  have hl : ((B.take (i * z)).map (Value.int .u8)).length = i * z := by rw [List.length_map, List.length_take]; omega
  have h2 := Blk.setCells ((B.take (i * z)).map (Value.int .u8)) ((B.drop (i * z)).map (Value.int .u8)) [] 0 ((t.take m).map (Value.int .u8)) (by
    rw [List.append_nil, ← List.map_append, List.take_append_drop]; exact h) (by simp only [List.length_map, List.length_take, List.length_drop]; omega)
  rw [hl, Nat.add_zero, List.append_nil] at h2
  unfold putS
  have he : splice ((B.drop (i * z)).map (Value.int .u8)) 0 ((t.take m).map (Value.int .u8)) = (t.take m ++ B.drop (i * z + m)).map (Value.int .u8) := by
    unfold splice
    simp only [List.take_zero, List.nil_append, List.length_map, List.length_take, List.map_append, Nat.zero_add, ← List.map_drop, List.drop_drop]
    rw [show min m t.length = m by omega]
  rw [he] at h2
  rw [List.map_append]
  exact h2
/-- A text outside some blocks. -/
structure TextO (w : World) (S : List Nat) (a : Option Addr) (len cap : Nat) (t : List Int) : Prop where
  text : TextAt w a len cap t
  out : ∀ p : Addr, a = some p → p.block ∉ S
theorem TextAt.butIn {w w' : World} {S : List Nat} {a : Option Addr} {len cap : Nat} {t : List Int} (h : TextAt w a len cap t) (ho : ∀ p : Addr, a = some p → p.block ∉ S) (hb : FlowB.ButIn S w w') : TextAt w' a len cap t := by
  obtain ⟨h1, h2, h3, h4, h5 | ⟨x, o, s, rfl, hc⟩⟩ := h
  · exact ⟨h1, h2, h3, h4, .inl h5⟩
  · refine ⟨h1, h2, h3, h4, .inr ⟨x, o, s, rfl, fun j hj => ?_⟩⟩
    obtain ⟨q1, q2, q3⟩ := hc j hj
    refine ⟨q1, Nat.lt_of_lt_of_le q2 hb.size, ?_⟩
    rw [← q3]
    unfold World.cell?
    rw [hb.block x q2 (ho _ rfl)]
theorem TextO.butIn {w w' : World} {S : List Nat} {a : Option Addr} {len cap : Nat} {t : List Int} (h : TextO w S a len cap t) (hb : FlowB.ButIn S w w') : TextO w' S a len cap t := ⟨h.text.butIn h.out hb, h.out⟩
theorem ButIn.of_below {S : List Nat} {w w' : World} (h : Below w.heap.size w w') : FlowB.ButIn S w w' := ⟨h.os, h.tape, h.output, h.size, fun k hk _ => h.block k hk⟩
theorem ButIn.on {S : List Nat} {w w' w'' : World} (h : FlowB.ButIn S w w') (h2 : FlowB.ButIn S w' w'') : FlowB.ButIn S w w'' :=
  ⟨h2.os.trans h.os, h2.tape.trans h.tape, h2.output.trans h.output, Nat.le_trans h.size h2.size, fun k hk hn => (h2.block k (Nat.lt_of_lt_of_le hk h.size) hn).trans (h.block k hk hn)⟩
theorem ButIn.of_but {S : List Nat} {b : Nat} {w w' : World} (h : But b w w') (hb : b ∈ S) : FlowB.ButIn S w w' := ⟨h.os, h.tape, h.output, h.size, fun k hk hn => h.block k hk (fun e => hn (e ▸ hb))⟩
/-- A store to a block that was made since. -/
theorem ButIn.fresh {S : List Nat} {b : Nat} {w w' w'' : World} (h : FlowB.ButIn S w w') (h2 : But b w' w'') (hb : w.heap.size ≤ b) : FlowB.ButIn S w w'' :=
  ⟨h2.os.trans h.os, h2.tape.trans h.tape, h2.output.trans h.output, Nat.le_trans h.size h2.size, fun k hk hn => (h2.block k (Nat.lt_of_lt_of_le hk h.size) (by omega)).trans (h.block k hk hn)⟩
/-- The writes that wait. -/
structure WaitAt (w : World) (S : List Nat) (z : Nat) (wa : Option Addr) (wc : Nat) (ws : List (Nat × List Int)) : Prop where
  le : ws.length ≤ wc
  mem : ws.length = 0 ∨ ∃ x o, wa = some ⟨x, o, none⟩ ∧ x ∉ S ∧ x < w.heap.size ∧ ∀ j, j < ws.length → w.cell? ⟨x, o + j * 2, none⟩ = some (.int .i64 ((ws.getD j (0, [])).1 : Int)) ∧ ∃ a c, w.cell? ⟨x, o + j * 2 + 1, none⟩ = some (.slice a z c) ∧ TextO w S a z c (ws.getD j (0, [])).2
theorem WaitAt.butIn {w w' : World} {S : List Nat} {z : Nat} {wa : Option Addr} {wc : Nat} {ws : List (Nat × List Int)} (h : WaitAt w S z wa wc ws) (hb : FlowB.ButIn S w w') : WaitAt w' S z wa wc ws := by
  obtain ⟨h1, h2 | ⟨x, o, rfl, hx, hlt, hc⟩⟩ := h
  · exact ⟨h1, .inl h2⟩
  · have cell : ∀ k, w'.cell? ⟨x, k, none⟩ = w.cell? ⟨x, k, none⟩ := fun k => by
      unfold World.cell?
      rw [hb.block x hlt hx]
    refine ⟨h1, .inr ⟨x, o, rfl, hx, Nat.lt_of_lt_of_le hlt hb.size, fun j hj => ?_⟩⟩
    obtain ⟨q1, a, c, q2, q3⟩ := hc j hj
    exact ⟨by rw [cell]; exact q1, a, c, by rw [cell]; exact q2, q3.butIn hb⟩
theorem WaitAt.nil (w : World) (S : List Nat) (z : Nat) : WaitAt w S z none 0 [] := ⟨Nat.le_refl _, .inl rfl⟩

set_option maxHeartbeats 4000000 in
set_option maxRecDepth 100000 in
theorem sectors_any (w : World) (p bb z n : Nat) (B : List Int) (wv : Value) (on set : Bool) (af : Int) (kv : Value) (hd : DkAt w p bb z n B wv on set af kv) :
    Calls Try.prog 10 #[.pointer (some ⟨p, 0, none⟩)] w fun e w' => e = .returned (.int .i64 n) ∧ Below w.heap.size w w' := by
  have hz := hd.z1
  have hz0 : ¬ ((z : Int) = 0) := by omega
  have hz1 : ((z : Int) == 0) = false := by simp; omega
  have hdv : Int.tdiv (B.length : Int) (z : Int) = (n : Int) := by rw [hd.len, Int.natCast_mul]; exact Int.mul_tdiv_cancel _ (by omega)
  have hq : wrap64 (n : Int) = (n : Int) := by have := hd.n2; unfold wrap64; omega
  have Kd := hid hd.kp
  have Hb := hid (Below.refl w.heap.size w)
  have cd0 : w.cell? ⟨p, 0, none⟩ = some (.int .i64 z) := by rw [Kd.out.cell]; rfl
  go_enter Try.func10, Try.ntmps10
  go_wp2_with fail
  refine wp_region_flow 10 (List.range 10) [] [] (by kernel_rfl) (by kernel_rfl) ?_
  apply Exists.intro
  refine ⟨fun w0 hb0 hF0 => ?_, ?_⟩
  · skip
    have y0 : ∀ w', (∃ x : Ext w0, w' = x.at_) → w'.cell? ⟨p, 0, none⟩ = some (.int .i64 z) := fun w' ⟨x, hx⟩ => by rw [hx, ((Kd.out.below hb0).below x.same).cell]; rfl
    have y1 : ∀ w', (∃ x : Ext w0, w' = x.at_) → w'.cell? ⟨p, 1, none⟩ = some (.slice (some ⟨bb, 0, none⟩) B.length B.length) := fun w' ⟨x, hx⟩ => by rw [hx, ((Kd.out.below hb0).below x.same).cell]; rfl
    simp only [pick, List.range, List.range.loop, List.getElem?_toArray, List.getElem?_cons_succ, List.getElem?_cons_zero, Option.toList_some, List.cons_append, List.nil_append]
    repeat (first | (go_big_quiet_want; refine quiet_load_one 3 _ rfl ⟨p, 0, none⟩ rfl _ y0 _ Try.underlying3 rfl ?_; go_big_quiet_on; simp only [Act.put, List.setIfInBounds_toArray, List.set_cons_zero, List.set_cons_succ]) | (go_big_quiet_want; refine quiet_load_one 31 _ rfl ⟨p, 1, none⟩ rfl _ y1 _ Try.underlying31 rfl ?_; go_big_quiet_on; simp only [Act.put, List.setIfInBounds_toArray, List.set_cons_zero, List.set_cons_succ]) | go_big_quiet_step (fail))
    exact wpQuiet_nil rfl
  refine AlChk.nil ?_
  refine Walk.fin fun w1 hw1 _ _ => ?_
  simp only [List.drop_succ_cons, List.drop_zero]
  have HBw1 := hid (Below.on Hb.out hw1)
  have hsw1 := HBw1.out.size
  have Kdw1 := hid (Kd.out.below hw1)
  clear hw1
  go_wp2_with fail
  go_returns
  refine ⟨?_, HBw1.out⟩
  show Ending.returned (.int .i64 (wrap64 (n : Int))) = _
  rw [hq]

set_option maxHeartbeats 4000000 in
set_option maxRecDepth 100000 in
theorem has_in (w : World) (p bb z n : Nat) (B : List Int) (wv : Value) (on set : Bool) (af : Int) (kv : Value) (hd : DkAt w p bb z n B wv on set af kv) (i : Int) (h0 : 0 ≤ i) (h1 : i < n) :
    Calls Try.prog 43 #[.pointer (some ⟨p, 0, none⟩), .int .i64 i] w fun e w' => e = .returned (.bool true) ∧ Below w.heap.size w w' := by
  have hI0 : ¬ i < 0 := by omega
  have Hb := hid (Below.refl w.heap.size w)
  go_enter Try.func43, Try.ntmps43
  go_wp2_with fail
  refine (sectors_any w p bb z n B wv on set af kv hd).mono ?_
  rintro e w1 ⟨rfl, bw1⟩
  have HBw1 := hid (Below.on Hb.out bw1)
  have hsw1 := HBw1.out.size
  clear bw1
  go_wp2_with fail
  go_returns
  exact ⟨rfl, HBw1.out⟩

set_option maxHeartbeats 4000000 in
set_option maxRecDepth 100000 in
theorem has_low (w : World) (p : Nat) (i : Int) (h0 : i < 0) :
    Calls Try.prog 43 #[.pointer (some ⟨p, 0, none⟩), .int .i64 i] w fun e w' => e = .returned (.bool false) ∧ Below w.heap.size w w' := by
  have Hb := hid (Below.refl w.heap.size w)
  go_enter Try.func43, Try.ntmps43
  go_wp2_with fail
  go_returns
  exact ⟨rfl, Hb.out⟩

set_option maxHeartbeats 4000000 in
set_option maxRecDepth 100000 in
theorem has_high (w : World) (p bb z n : Nat) (B : List Int) (wv : Value) (on set : Bool) (af : Int) (kv : Value) (hd : DkAt w p bb z n B wv on set af kv) (i : Int) (h0 : 0 ≤ i) (h1 : (n : Int) ≤ i) :
    Calls Try.prog 43 #[.pointer (some ⟨p, 0, none⟩), .int .i64 i] w fun e w' => e = .returned (.bool false) ∧ Below w.heap.size w w' := by
  have hI0 : ¬ i < 0 := by omega
  have hI1 : ¬ i < (n : Int) := by omega
  have hdec : decide (i < (n : Int)) = false := decide_eq_false hI1
  have Hb := hid (Below.refl w.heap.size w)
  go_enter Try.func43, Try.ntmps43
  go_wp2_with fail
  refine (sectors_any w p bb z n B wv on set af kv hd).mono ?_
  rintro e w1 ⟨rfl, bw1⟩
  have HBw1 := hid (Below.on Hb.out bw1)
  have hsw1 := HBw1.out.size
  clear bw1
  go_wp2_with fail
  go_returns
  exact ⟨rfl, HBw1.out⟩

set_option maxHeartbeats 4000000 in
set_option maxRecDepth 100000 in
theorem fails_unset (w : World) (p bb z n : Nat) (B : List Int) (wv : Value) (on : Bool) (af : Int) (kv : Value) (hd : DkAt w p bb z n B wv on false af kv) :
    Calls Try.prog 44 #[.pointer (some ⟨p, 0, none⟩)] w fun e w' => e = .returned (.bool false) ∧ Below w.heap.size w w' := by
  have Kd := hid hd.kp
  have Hb := hid (Below.refl w.heap.size w)
  have cd4 : w.cell? ⟨p, 4, none⟩ = some (.bool false) := by rw [Kd.out.cell]; rfl
  go_enter Try.func44, Try.ntmps44
  go_wp2_with fail
  go_returns
  exact ⟨rfl, Hb.out⟩

set_option maxHeartbeats 4000000 in
set_option maxRecDepth 100000 in
theorem quiet_cut_lhn {op : Oper} {a : Act} {C : World → Prop} {K : Act → Prop} (x l y : Operand) (ho : op.op = .slice 31 x (some l) (some y) none) (a0 : Option Addr) (len cap i j : Nat) (vx : Value) (hx : a.eval x = vx) (vl : Int) (hl : a.eval l = .int .i64 vl) (v : Int) (hy : a.eval y = .int .i64 v) (hvx : vx = .slice a0 len cap) (hv : vl = i ∧ v = j) (hij : i ≤ j) (hn : j ≤ cap)
    (h : K (a.put op.dst (.slice (cutA a0 i cap) (j - i) (cap - i)))) : op.quiet Try.prog a C K :=
  ⟨.slice (cutA a0 i cap) (j - i) (cap - i), fun w' _ => by
    obtain ⟨rfl, rfl⟩ := hv
    subst hvx
    have he : Try.prog.elem 31 = 5 := by simp [Program.elem, Try.underlying31]
    have hr := run_cut_lh (P := Try.prog) Try.underlying31 size_u8 a0 len cap (i : Int) (j : Int) w' (by omega) (by omega) (by omega)
    have hs := run_sliceAt_slice (P := Try.prog) (w := w') 31 (.slice a0 len cap) (some (.int .i64 i)) (some (.int .i64 j)) none (by rw [he]; exact Try.underlying31)
    rw [hr] at hs
    unfold Oper.quietAt execOp
    simp only [ho, hx, hl, hy, Option.map_none, Option.map_some, Sem.run_bind, Sem.run_pure, Result.andThen_ok, hs]
    simp [Oper.quietUpon], h⟩
set_option maxHeartbeats 4000000 in
set_option maxRecDepth 100000 in
theorem sector_any (w : World) (p bb z n : Nat) (B : List Int) (wv : Value) (on set : Bool) (af : Int) (kv : Value) (hd : DkAt w p bb z n B wv on set af kv) (i : Nat) (hi : i < n) :
    Calls Try.prog 45 #[.pointer (some ⟨p, 0, none⟩), .int .i64 i] w fun e w' => e = .returned (.slice (some ⟨bb, i * z, none⟩) z (B.length - i * z)) ∧ Below w.heap.size w w' := by
  have hz2 := hd.z2
  have hn2 := hd.n2
  have hz1 := hd.z1
  have hm1 : i * z + z ≤ B.length := by
    rw [hd.len, ← Nat.succ_mul]
    exact Nat.mul_le_mul_right z hi
  have hm2 : B.length ≤ 32768 := by
    rw [hd.len]
    exact Nat.le_trans (Nat.mul_le_mul hn2 hz2) (by omega)
  have hw1 : wrap64 ((i : Int) + 1) = (i : Int) + 1 := by unfold wrap64; omega
  have hw2 : wrap64 ((i : Int) * (z : Int)) = ((i * z : Nat) : Int) := by rw [← Int.natCast_mul]; unfold wrap64; omega
  have hw3 : wrap64 (((i : Int) + 1) * (z : Int)) = ((i * z + z : Nat) : Int) := by rw [Int.add_mul, Int.one_mul, ← Int.natCast_mul, ← Int.natCast_add]; unfold wrap64; omega
  have hc : (Value.slice (cutA (some ⟨bb, 0, none⟩) (i * z) B.length) (i * z + z - i * z) (B.length - i * z)) = .slice (some ⟨bb, i * z, none⟩) z (B.length - i * z) := by
    rw [show i * z + z - i * z = z by omega]
    unfold cutA
    rw [if_neg (by omega)]
    simp [Addr.add]
    intro h
    exact h.symm
  have Kd := hid hd.kp
  have Hb := hid (Below.refl w.heap.size w)
  go_enter Try.func45, Try.ntmps45
  go_wp2_with fail
  refine wp_region_flow 18 (List.range 18) [] [] (by kernel_rfl) (by kernel_rfl) ?_
  apply Exists.intro
  refine ⟨fun w0 hb0 hF0 => ?_, ?_⟩
  · skip
    have y0 : ∀ w', (∃ x : Ext w0, w' = x.at_) → w'.cell? ⟨p, 0, none⟩ = some (.int .i64 z) := fun w' ⟨x, hx⟩ => by rw [hx, ((Kd.out.below hb0).below x.same).cell]; rfl
    have y1 : ∀ w', (∃ x : Ext w0, w' = x.at_) → w'.cell? ⟨p, 1, none⟩ = some (.slice (some ⟨bb, 0, none⟩) B.length B.length) := fun w' ⟨x, hx⟩ => by rw [hx, ((Kd.out.below hb0).below x.same).cell]; rfl
    simp only [pick, List.range, List.range.loop, List.getElem?_toArray, List.getElem?_cons_succ, List.getElem?_cons_zero, Option.toList_some, List.cons_append, List.nil_append]
    repeat (first | (go_big_quiet_want; refine quiet_load_one 3 _ rfl ⟨p, 0, none⟩ rfl _ y0 _ Try.underlying3 rfl ?_; go_big_quiet_on; simp only [Act.put, List.setIfInBounds_toArray, List.set_cons_zero, List.set_cons_succ]) | (go_big_quiet_want; refine quiet_load_one 31 _ rfl ⟨p, 1, none⟩ rfl _ y1 _ Try.underlying31 rfl ?_; go_big_quiet_on; simp only [Act.put, List.setIfInBounds_toArray, List.set_cons_zero, List.set_cons_succ]) | (go_big_quiet_want; refine quiet_cut_lhn _ _ _ rfl (some ⟨bb, 0, none⟩) B.length B.length (i * z) (i * z + z) _ rfl _ rfl _ rfl hs1 hs2 (by omega) (by omega) ?_; go_big_quiet_on; simp only [Act.put, List.setIfInBounds_toArray, List.set_cons_zero, List.set_cons_succ]) | go_big_quiet_step (fail))
    exact wpQuiet_nil rfl
  refine AlChk.nil ?_
  refine Walk.fin fun w1 hw1 _ _ => ?_
  simp only [List.drop_succ_cons, List.drop_zero]
  have HBw1 := hid (Below.on Hb.out hw1)
  have hsw1 := HBw1.out.size
  have Kdw1 := hid (Kd.out.below hw1)
  clear hw1
  go_wp2_with fail
  go_returns
  refine ⟨?_, HBw1.out⟩
  show Ending.returned (.slice (some ⟨bb, i * z, none⟩) (i * z + z - i * z) (B.length - i * z)) = _
  rw [show i * z + z - i * z = z by omega]
end Go.Proofs.Ytmpgnpkodapidaa
