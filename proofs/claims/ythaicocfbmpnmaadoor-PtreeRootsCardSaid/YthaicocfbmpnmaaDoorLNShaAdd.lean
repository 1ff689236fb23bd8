/-
  Contract of (*sha.Hash).add: what is written is taken in.
-/
import Derived.Test.YthaicocfbmpnmaaDoorLNShaProc
import Derived.Laws.CopyOwn
import Derived.Lib.SliceRun
import Derived.Test.YthaicocfbmpnmaaDoorLMBase
namespace Go.Proofs.YthaicocfbmpnmaaDoor
open Go.ChangeShapes Go.WideShapes Go.ChangeAt Go.RowKit

set_option maxRecDepth 100000 in
/-- Cells that are written into the middle of a block. -/
theorem Blk.setCells {w : World} {b : Nat} {T : TypeId} (A L B : List Value) (o : Nat) (cs : List Value) (h : Blk w b (A ++ (L ++ B)).toArray T) (hl : o + cs.length ≤ L.length) :
    Blk (w.setCells b (A.length + o) cs) b (A ++ (splice L o cs ++ B)).toArray T := by
  rw [setCells_is]
  obtain ⟨cs', h1, h2, h3, h4, h5⟩ := Blk.setAll_at cs (A.length + o) w _ h (by simp; omega)
  have : cs' = (A ++ (splice L o cs ++ B)).toArray := by
    apply Array.ext_getElem?
    intro j
    rcases Nat.lt_or_ge j (A.length + o) with hj | hj
    · rw [h3 j hj]
      simp only [List.getElem?_toArray]
      rcases Nat.lt_or_ge j A.length with hja | hja
      · rw [List.getElem?_append_left hja, List.getElem?_append_left hja]
      · rw [List.getElem?_append_right hja, List.getElem?_append_right hja, List.getElem?_append_left (by omega), List.getElem?_append_left (by rw [length_splice _ _ _ hl]; omega)]
        unfold splice
        rw [List.getElem?_append_left (by simp; omega), List.getElem?_take_of_lt (by omega)]
    · rcases Nat.lt_or_ge j (A.length + o + cs.length) with hj2 | hj2
      · have := h5 (j - (A.length + o)) (by omega)
        rw [show A.length + o + (j - (A.length + o)) = j by omega] at this
        rw [this, List.getElem?_toArray, List.getElem?_append_right (by omega), List.getElem?_append_left (by rw [length_splice _ _ _ hl]; omega)]
        unfold splice
        rw [List.getElem?_append_right (by simp; omega), List.getElem?_append_left (by simp; omega)]
        congr 1
        simp; omega
      · rw [h4 j hj2, List.getElem?_toArray, List.getElem?_toArray, List.getElem?_append_right (show A.length ≤ j by omega), List.getElem?_append_right (show A.length ≤ j by omega)]
        rcases Nat.lt_or_ge (j - A.length) L.length with hj3 | hj3
        · rw [List.getElem?_append_left hj3, List.getElem?_append_left (by rw [length_splice _ _ _ hl]; omega)]
          unfold splice
          rw [List.getElem?_append_right (by simp; omega), List.getElem?_append_right (by simp; omega), List.getElem?_drop]
          congr 1
          simp; omega
        · rw [List.getElem?_append_right hj3, List.getElem?_append_right (by rw [length_splice _ _ _ hl]; omega), length_splice _ _ _ hl]
  rw [← this]; exact h1

section
variable {P : Program}
set_option maxRecDepth 100000 in
/-- copy, a text into a part of a block -/
theorem run_copy_text (w : World) (dT sT ty elem : TypeId) (hu : P.underlying dT = some (.slice elem)) (hs : (P.info? elem).map (·.size) = some 1) {b : Nat} {cs : Array Value} {T : TypeId} (hk : Blk w b cs T) (off dLen dCap : Nat) {a : Option Addr} {len cap : Nat} {t : List Int} (hT : TextAt w a len cap t)
    (hfit : off + dLen ≤ cs.size) : (Builtin.copy_ #[dT, sT] ty #[.slice (some ⟨b, off, none⟩) dLen dCap, .slice a len cap]).run P w = .ok (.int .i64 (Nat.min len dLen : Nat)) (w.setCells b off ((t.take (Nat.min len dLen)).map (Value.int .u8))) := by
  rcases Nat.eq_zero_or_pos (Nat.min len dLen) with h0 | h0
  · rw [run_copy_none w dT sT ty elem _ a dLen dCap len cap hu hs h0, h0]
    simp [World.setCells, goInt]
  · have hle : Nat.min len dLen ≤ len := Nat.min_le_left _ _
    have hle2 : Nat.min len dLen ≤ dLen := Nat.min_le_right _ _
    obtain ⟨x, o, rfl, hx, hc⟩ := hT.at_ (by omega)
    have hl : ((t.take (Nat.min len dLen)).map (Value.int .u8)).length = Nat.min len dLen := by rw [List.length_map, List.length_take, hT.length]; omega
    have := run_copy_cells (P := P) w dT sT ty elem b off dLen dCap ⟨x, o, none⟩ len cap ((t.take (Nat.min len dLen)).map (Value.int .u8)) hu hs hl (fun j v hv => by
      have hj : j < Nat.min len dLen := by
        have := (List.getElem?_eq_some_iff.1 hv).1
        omega
      rw [Addr.add_mid, hc j (by omega)]
      rw [List.getElem?_map, List.getElem?_take_of_lt hj, List.getElem?_eq_getElem (by rw [hT.length]; omega)] at hv
      rw [List.getD_eq_getElem?_getD, List.getElem?_eq_getElem (by rw [hT.length]; omega)]
      exact hv) (fun j hj => by rw [hk.cell, Array.getElem?_eq_getElem (by omega)]; rfl) (fun j _ => hk.free _) (fun v hv => by
      obtain ⟨y, _, rfl⟩ := List.mem_map.1 hv
      rfl)
    rw [this, hl]
    rfl

set_option maxRecDepth 100000 in
/-- clear, of a part of a block of bytes -/
theorem run_clear_blk (w : World) (t e ty : TypeId) (ht : P.underlying t = some (.slice e)) (hv : ∀ w, (zeroValue e).run P w = .ok (.int .u8 0) w) {b : Nat} {cs : Array Value} {T : TypeId} (hk : Blk w b cs T) (off n c : Nat) (d : Option Addr) (hd : 0 < n → d = some ⟨b, off, none⟩) (hfit : off + n ≤ cs.size) :
    (Builtin.clear_ #[t] ty #[.slice d n c]).run P w = .ok (.tuple #[]) (w.setCells b off (List.replicate n (.int .u8 0))) := by
  rcases Nat.eq_zero_or_pos n with rfl | h0
  · cases d <;> simp [Builtin.clear_, run_underlying ht, World.setCells]
  · obtain rfl := hd h0
    exact Lib.run_clear_slice w t e ty (.int .u8 0) ht hv rfl rfl b off n c h0 (fun j hj => by rw [hk.cell, Array.getElem?_eq_getElem (by omega)]; rfl) (fun j _ => hk.free _)
end

set_option maxRecDepth 100000 in
/-- .. as operations of a walk -/
theorem wpList_copy_text {P : Program} {ops : Array Oper} {rest : List Oper} {op : Oper} {act : Act} {w : World} {Q : Exit → Act → World → Prop} (hgd : op.guard = none) (d s : Operand) (dT sT : TypeId)
    (ho : op.op = .call { callee := .builtin .copy, args := #[d, s], argTypes := #[dT, sT] }) (elem : TypeId) (hu : P.underlying dT = some (.slice elem)) (hs : (P.info? elem).map (·.size) = some 1)
    (b off dLen dCap : Nat) (hd : act.eval d = .slice (some ⟨b, off, none⟩) dLen dCap) (a : Option Addr) (len cap : Nat) (hse : act.eval s = .slice a len cap) (cs : Array Value) (T : TypeId) (hk : Blk w b cs T) (t : List Int) (hT : TextAt w a len cap t) (hfit : off + dLen ≤ cs.size) (n : Nat) (hn : n = Nat.min len dLen)
    (h : wpList P ops Q rest (act.put op.dst (.int .i64 (n : Nat))) (w.setCells b off ((t.take n).map (Value.int .u8)))) : wpList P ops Q (op :: rest) act w := by
  subst hn
  refine wpList_plain hgd fun K hK => ?_
  have hrun := run_copy_text (P := P) w dT sT op.type elem hu hs hk off dLen dCap hT hfit
  unfold Oper.wp execOp
  simp only [ho, resolve, invoke, builtin, Sem.run_bind, Sem.run_pure, Result.andThen_ok, List.map_toArray, List.map_cons, List.map_nil, hd, hse, hrun]
  exact hK _ _ h
set_option maxRecDepth 100000 in
theorem wpList_clear_blk {P : Program} {ops : Array Oper} {rest : List Oper} {op : Oper} {act : Act} {w : World} {Q : Exit → Act → World → Prop} (hgd : op.guard = none) (s : Operand) (t : TypeId)
    (ho : op.op = .call { callee := .builtin .clear, args := #[s], argTypes := #[t] }) (e : TypeId) (ht : P.underlying t = some (.slice e)) (hv : ∀ w, (zeroValue e).run P w = .ok (.int .u8 0) w)
    (b off n c : Nat) (d : Option Addr) (hse : act.eval s = .slice d n c) (hd : 0 < n → d = some ⟨b, off, none⟩) (cs : Array Value) (T : TypeId) (hk : Blk w b cs T) (hfit : off + n ≤ cs.size)
    (h : wpList P ops Q rest (act.put op.dst (.tuple #[])) (w.setCells b off (List.replicate n (.int .u8 0)))) : wpList P ops Q (op :: rest) act w := by
  refine wpList_plain hgd fun K hK => ?_
  have hrun := run_clear_blk (P := P) w t e op.type ht hv hk off n c d hd hfit
  unfold Oper.wp execOp
  simp only [ho, resolve, invoke, builtin, Sem.run_bind, Sem.run_pure, Result.andThen_ok, List.map_toArray, List.map_cons, List.map_nil, hse, hrun]
  exact hK _ _ h

/-- the cells of a hash -/
def hashCells (st : Sha.St) (R : List Int) (n : Nat) : List Value := stCells st ++ (R.map (Value.int .u8) ++ [.int .u64 n])
set_option maxRecDepth 100000 in
theorem hashCells_size (st : Sha.St) (R : List Int) (n : Nat) (hR : R.length = 64) : (hashCells st R n).toArray.size = 73 := by simp [hashCells, stCells, hR]
set_option maxRecDepth 100000 in
theorem hashCells_len (st : Sha.St) (R : List Int) (n : Nat) (hR : R.length = 64) : (hashCells st R n).toArray[72]? = some (.int .u64 n) := by
  simp [hashCells, stCells, hR]
set_option maxRecDepth 100000 in
theorem hashCells_set (st : Sha.St) (R : List Int) (n m : Nat) (hR : R.length = 64) : (hashCells st R n).toArray.setIfInBounds 72 (.int .u64 m) = (hashCells st R m).toArray := by
  simp [hashCells, stCells, hR]
set_option maxRecDepth 100000 in
theorem hashCells_rest (st : Sha.St) (R : List Int) (n j : Nat) (hR : R.length = 64) (hj : j < 64) : (hashCells st R n).toArray[8 + j]? = some (.int .u8 (R.getD j 0)) := by
  simp only [hashCells, stCells, List.getElem?_toArray]
  rw [List.getElem?_append_right (by simp)]
  simp only [List.length_cons, List.length_nil, show 8 + j - (0 + 1 + 1 + 1 + 1 + 1 + 1 + 1 + 1) = j by omega]
  rw [List.getElem?_append_left (by simp; omega), List.getElem?_map, List.getElem?_eq_getElem (by omega), List.getD_eq_getElem?_getD, List.getElem?_eq_getElem (by omega)]
  rfl
set_option maxRecDepth 100000 in
theorem Blk.hash_put {w : World} {ph : Nat} {T : TypeId} {st : Sha.St} {R : List Int} {n : Nat} (h : Blk w ph (hashCells st R n).toArray T) (hR : R.length = 64) (o : Nat) (cs : List Int) (ho : o + cs.length ≤ 64) :
    Blk (w.setCells ph (8 + o) (cs.map (Value.int .u8))) ph (hashCells st (splice R o cs) n).toArray T := by
  have := Blk.setCells (stCells st) (R.map (Value.int .u8)) [.int .u64 n] o (cs.map (Value.int .u8)) h (by simp; omega)
  have e : splice (R.map (Value.int .u8)) o (cs.map (Value.int .u8)) = (splice R o cs).map (Value.int .u8) := by simp [splice]
  rw [e] at this
  exact this
set_option maxRecDepth 100000 in
theorem Blk.hash_rest {w : World} {ph : Nat} {T : TypeId} {st : Sha.St} {R : List Int} {n : Nat} (h : Blk w ph (hashCells st R n).toArray T) (hR : R.length = 64) (hs : ∀ x ∈ R, 0 ≤ x ∧ x < 256) : TextAt w (some ⟨ph, 8, none⟩) 64 64 R :=
  TextAt.of_blk h hR (Nat.le_refl _) (by omega) hs fun j hj => hashCells_rest st R n j hR hj

set_option maxRecDepth 100000 in
theorem splice_small {R cs : List Int} {o : Nat} (h : ∀ x ∈ R, 0 ≤ x ∧ x < 256) (hc : ∀ x ∈ cs, 0 ≤ x ∧ x < 256) : ∀ x ∈ splice R o cs, 0 ≤ x ∧ x < 256 := by
  intro x hx
  unfold splice at hx
  rcases List.mem_append.1 hx with hx | hx
  · exact h x (List.mem_of_mem_take hx)
  · rcases List.mem_append.1 hx with hx | hx
    · exact hc x hx
    · exact h x (List.mem_of_mem_drop hx)

set_option maxRecDepth 100000 in
theorem run_append (s : Sha.St) (bs t : List Nat) : ∀ n, 64 * n ≤ bs.length → Sha.run s (bs ++ t) n = Sha.run s bs n
  | 0, _ => rfl
  | n + 1, h => by
    rw [Sha.run, Sha.run, run_append s bs t n (by omega)]
    congr 1
    rw [List.drop_append_of_le_length (by omega), List.take_append_of_le_length (by simp; omega)]

/-- A hash that was written these bytes. -/
def HashAt (w : World) (ph : Nat) (T : TypeId) (bs : List Int) : Prop :=
  (∀ x ∈ bs, 0 ≤ x ∧ x < 256) ∧ ∃ R : List Int, R.length = 64 ∧ (∀ x ∈ R, 0 ≤ x ∧ x < 256) ∧ R.take (bs.length % 64) = bs.drop (64 * (bs.length / 64)) ∧ Blk w ph (hashCells (Sha.run Sha.start (natB bs) (bs.length / 64)) R bs.length).toArray T

set_option maxRecDepth 100000 in
theorem size_byte8 : (Tryd.prog.info? 5).map (·.size) = some 1 := by kernel_rfl
set_option maxRecDepth 100000 in
theorem TextAt.but {w w' : World} {b : Nat} {a : Option Addr} {len cap : Nat} {t : List Int} (h : TextAt w a len cap t) (hb : But b w w') (hne : 0 < len → ∀ p : Addr, a = some p → p.block ≠ b) : TextAt w' a len cap t := by
  obtain ⟨h1, h2, h3, h4, h | ⟨x, o, s, rfl, hc⟩⟩ := h
  · exact ⟨h1, h2, h3, h4, .inl h⟩
  · refine ⟨h1, h2, h3, h4, .inr ⟨x, o, s, rfl, fun j hj => ?_⟩⟩
    obtain ⟨e1, e2, e3⟩ := hc j hj
    exact ⟨e1, Nat.lt_of_lt_of_le e2 hb.size, (hb.cell e2 (hne (by omega) _ rfl)).trans e3⟩
set_option maxRecDepth 100000 in
theorem TextAt.ne {w : World} {b : Nat} {a : Option Addr} {len cap : Nat} {t : List Int} (h : TextAt w a len cap t) (hb : w.heap.size ≤ b) : 0 < len → ∀ p : Addr, a = some p → p.block ≠ b := fun h0 p hp => by
  obtain ⟨x, o, rfl, hx, _⟩ := h.at_ h0
  cases hp
  exact fun e => by simp only at e; omega
set_option maxRecDepth 100000 in
theorem cutA_ne {a : Option Addr} {l cap b : Nat} (h : ∀ p : Addr, a = some p → p.block ≠ b) : ∀ p : Addr, cutA a l cap = some p → p.block ≠ b := by
  intro p hp
  unfold cutA at hp
  split at hp
  · exact h p hp
  · cases a with
    | none => simp at hp
    | some q =>
      cases hp
      have := h _ rfl
      unfold Addr.add
      split <;> exact this
set_option maxRecDepth 100000 in
theorem TextAt.from {w : World} {a : Option Addr} {len cap : Nat} {t : List Int} (h : TextAt w a len cap t) (l : Nat) (hl : l ≤ len) : TextAt w (cutA a l cap) (len - l) (cap - l) (t.drop l) := by
  have := h.cut l len hl (Nat.le_refl _)
  rwa [List.take_of_length_le (by simp [h.length])] at this
set_option maxRecDepth 100000 in
theorem TextAt.to {w : World} {a : Option Addr} {len cap : Nat} {t : List Int} (h : TextAt w a len cap t) (l : Nat) (hl : l ≤ len) : TextAt w a l cap (t.take l) := by
  have := h.cut 0 l (Nat.zero_le _) hl
  rwa [cutA_zero, Nat.sub_zero, Nat.sub_zero, List.drop_zero] at this
set_option maxRecDepth 100000 in
theorem natB_drop_take (bs t : List Int) (k j : Nat) (h : 64 * k = bs.length + j) : ((natB (bs ++ t)).drop (64 * k)).take 64 = natB ((t.drop j).take 64) := by
  unfold natB
  rw [h, List.map_append, ← List.drop_drop, List.drop_append_of_le_length (by simp), show (bs.map Int.toNat).drop bs.length = [] from by simp, List.nil_append, List.map_take, List.map_drop]
def sliceLen : Value → Nat
  | .slice _ n _ => n
  | _ => 0

/-- The loop's state: k blocks are taken in, j bytes of the text too. -/
def AddInv (ph : Nat) (T : TypeId) (bs t : List Int) (len : Nat) (w : World) (v : Value) (wr : World) : Prop :=
  ∃ k j a cap, 64 * k = bs.length + j ∧ j ≤ len ∧ v = .slice a (len - j) cap ∧ TextAt wr a (len - j) cap (t.drop j) ∧ (0 < len - j → ∀ p : Addr, a = some p → p.block ≠ ph) ∧
    (∃ R : List Int, R.length = 64 ∧ (∀ x ∈ R, 0 ≤ x ∧ x < 256) ∧ Blk wr ph (hashCells (Sha.run Sha.start (natB (bs ++ t)) k) R (bs.length + len)).toArray T) ∧ ShaTab wr ∧ But ph w wr

set_option maxHeartbeats 8000000 in
set_option maxRecDepth 100000 in
theorem add_any (ph : Nat) (T : TypeId) (bs : List Int) (a : Option Addr) (len cap : Nat) (t : List Int) (w : World) (hH : HashAt w ph T bs) (hT : TextAt w a len cap t) (hbnd : bs.length + len < 1152921504606846976) (hne : 0 < len → ∀ p : Addr, a = some p → p.block ≠ ph) (tab : ShaTab w) (hp1 : ph ≠ 1) (hp0 : ph ≠ 0) :
    Calls Tryd.prog 74 #[.pointer (some ⟨ph, 0, none⟩), .slice a len cap] w fun e w' => e = .returned (.tuple #[]) ∧ But ph w w' ∧ HashAt w' ph T (bs ++ t) := by
  obtain ⟨hbs, R, hR, hRs, hRt, hk⟩ := hH
  have qS : w.cell? ⟨ph, 72, none⟩ = some (.int .u64 (bs.length : Nat)) := (hk.cell 72).trans (hashCells_len _ _ _ hR)
  have f1 := hk.free
  have hlt := hk.lt
  have hmx := hT.max
  have hle := hT.le
  have Hk := hid hk
  have HT := hid hT
  have Htab := hid tab
  have Hne := hid hne
  have HRt := hid hRt
  obtain ⟨m, hm⟩ : ∃ m : Nat, (bs.length : Int) % 64 = m := ⟨bs.length % 64, by omega⟩
  have hm64 : m < 64 := by omega
  have HM := hid hm
  clear hk hT tab hne hRt
  by_cases h0 : m = 0
  · subst h0
    have hk2 := (Hk.out.set 72 (.int .u64 ((bs.length + len : Nat) : Int)))
    rw [hashCells_set _ _ _ _ hR] at hk2
    have but2 := (But.of (b := ph) (Below.refl w.heap.size w)).set (p := ⟨ph, 72, none⟩) (.inl rfl) (.int .u64 ((bs.length + len : Nat) : Int))
    have hc2 : (((bs.length + len : Nat) : Int)) = (bs.length : Int) + len := by omega
    rw [hc2] at hk2 but2
    have Hk2 := hid hk2
    have Hbut2 := hid but2
    clear hk2 but2 hc2
    have hm0 : (bs.length : Int) % 64 = 0 := hm
    clear hm
    have Hinv : Hid (AddInv ph T bs t len w (.slice a len cap) (w.setCell ⟨ph, 72, none⟩ (.int .u64 ((bs.length : Int) + len)))) := hid (by
      have tabb := Htab.out.but Hbut2.out hp1 hp0
      have h64 : 64 * (bs.length / 64) = bs.length := by omega
      refine ⟨bs.length / 64, 0, a, cap, h64, Nat.zero_le _, rfl, HT.out.but Hbut2.out Hne.out, Hne.out, ⟨R, hR, hRs, ?_⟩, tabb, Hbut2.out⟩
      have e : natB (bs ++ t) = natB bs ++ natB t := by simp [natB]
      rw [e, run_append _ _ _ _ (by simp [natB]; omega)]
      exact Hk2.out)
    clear Hk2 Hbut2
    go_enter Tryd.func74, Tryd.ntmps74
    go_wp2_with fail
    try simp only [hm0]
    go_loopw [1] (AddInv ph T bs t len w) (fun v _ => sliceLen v)
    case atStart => exact Hinv.out
    case round =>
      obtain ⟨k, j, a1, cap1, hkj, hj, rfl, hT1, hne1, ⟨R1, hR1, hRs1, hk1⟩, tab1, but1⟩ := hrel
      have hle1 := hT1.le
      have hmx1 := hT1.max
      have HT1 := hid hT1
      have Htab1 := hid tab1
      have Hne1 := hid hne1
      have Hk1 := hid hk1
      have Hbut1 := hid but1
      clear hT1 tab1 hne1 hk1 but1
      by_cases hge : 64 ≤ len - j
      · have hs1 : ∀ W : World, (Instr.slice 67 (.slice a1 (len - j) cap1) none (some (.int .i64 64)) none).run Tryd.prog W = .ok (.slice a1 64 cap1) W := fun W => run_cut_h Tryd.underlying67 size_byte8 a1 (len - j) cap1 64 W (by omega) (by omega)
        have hs2 : ∀ W : World, (Instr.slice 67 (.slice a1 (len - j) cap1) (some (.int .i64 64)) none none).run Tryd.prog W = .ok (.slice (cutA a1 64 cap1) (len - j - 64) (cap1 - 64)) W := fun W => run_cut_l Tryd.underlying67 size_byte8 a1 (len - j) cap1 64 W (by omega) (by omega)
        go_wp2_with fail
        refine wp_region_flow 5 [0, 1, 2, 3, 4] [] [] (by kernel_rfl) (by kernel_rfl) ?_
        apply Exists.intro
        refine ⟨fun w0 hb0 hF0 => ?_, ?_⟩
        · simp only [pick, List.getElem?_toArray, List.getElem?_cons_succ, List.getElem?_cons_zero, Option.toList_some, List.cons_append, List.nil_append]
          repeat (go_big_quiet_step (fail))
          exact wpQuiet_nil rfl
        refine AlChk.nil ?_
        refine Walk.fin fun w3 h3 _ _ => ?_
        simp only [List.drop_succ_cons, List.drop_zero]
        go_wp2_with fail
        refine (process_any ph T _ (R1.map (Value.int .u8) ++ [.int .u64 ((bs.length + len : Nat) : Int)]) a1 cap1 ((t.drop j).take 64) w3 (Ok.run Ok.start _ _) (Hk1.out.below h3) ((HT1.out.to 64 hge).below h3) (Htab1.out.below h3) hp1).mono ?_
        rintro e w4 ⟨rfl, b4, k4⟩
        rw [← natB_drop_take bs t k j hkj] at k4
        have k4' : Blk w4 ph (hashCells (Sha.run Sha.start (natB (bs ++ t)) (k + 1)) R1 (bs.length + len)).toArray T := k4
        have Hinv2 : Hid (AddInv ph T bs t len w (.slice (cutA a1 64 cap1) (len - j - 64) (cap1 - 64)) w4) := hid (by
          refine ⟨k + 1, j + 64, cutA a1 64 cap1, cap1 - 64, by omega, by omega, ?_, ?_, fun _ => cutA_ne (Hne1.out (by omega)), ⟨R1, hR1, hRs1, k4'⟩, (Htab1.out.below h3).but b4 hp1 hp0, (Hbut1.out.ext h3).trans b4⟩
          · rw [Nat.sub_sub]
          · have := ((HT1.out.below h3).but b4 Hne1.out).from 64 hge
            rwa [Nat.sub_sub, List.drop_drop] at this)
        clear k4 k4' b4 h3
        go_wp2_with fail
        exact ⟨Hinv2.out, by simp only [sliceLen]; omega⟩
      · have Hdone : Hid (HashAt (wr.setCells ph 8 (((t.drop j).take (len - j)).map (Value.int .u8))) ph T (bs ++ t) ∧ But ph w (wr.setCells ph 8 (((t.drop j).take (len - j)).map (Value.int .u8)))) := hid (by
          have hl : (t.drop j).length = len - j := HT1.out.length
          have htl : t.length = len := HT.out.length
          have et : (t.drop j).take (len - j) = t.drop j := List.take_of_length_le (by omega)
          rw [et]
          refine ⟨⟨?_, splice R1 0 (t.drop j), ?_, splice_small hRs1 HT1.out.small, ?_, ?_⟩, But.setCells _ _ _ Hbut1.out⟩
          · intro x hx
            rcases List.mem_append.1 hx with h | h
            · exact hbs x h
            · exact HT.out.small x h
          · rw [length_splice _ _ _ (by omega)]; exact hR1
          · rw [List.length_append, show (bs.length + t.length) % 64 = len - j by omega, show 64 * ((bs.length + t.length) / 64) = bs.length + j by omega, ← List.drop_drop, List.drop_left]
            unfold splice
            rw [List.take_zero, List.nil_append, ← hl, List.take_left]
          · rw [List.length_append, show (bs.length + t.length) / 64 = k by omega, htl]
            exact Hk1.out.hash_put hR1 0 (t.drop j) (by omega))
        have hsz := hashCells_size (Sha.run Sha.start (natB (bs ++ t)) k) R1 (bs.length + len) hR1
        have Hn0 : Hid (len - j = Nat.min (len - j) 64) := hid (show len - j = min (len - j) 64 by omega)
        go_wp2_with (with_reducible refine wpList_copy_text rfl _ _ _ _ rfl 5 Tryd.underlying67 size_byte8 ph 8 64 64 rfl a1 (len - j) cap1 rfl _ T Hk1.out _ HT1.out (by omega) (len - j) Hn0.out ?_)
        go_returns
        have hd := Hdone.out
        simp only [List.map_take, List.map_drop] at hd
        exact ⟨rfl, hd.2, hd.1⟩
  · have hk2 := (Hk.out.set 72 (.int .u64 ((bs.length + len : Nat) : Int)))
    rw [hashCells_set _ _ _ _ hR] at hk2
    have but2 := (But.of (b := ph) (Below.refl w.heap.size w)).set (p := ⟨ph, 72, none⟩) (.inl rfl) (.int .u64 ((bs.length + len : Nat) : Int))
    have hc2 : (((bs.length + len : Nat) : Int)) = (bs.length : Int) + len := by omega
    rw [hc2] at hk2 but2
    have Hk2 := hid hk2
    have Hbut2 := hid but2
    have HT2 := hid (HT.out.but Hbut2.out Hne.out)
    have hsz := hashCells_size (Sha.run Sha.start (natB bs) (bs.length / 64)) R (bs.length + len) hR
    have hbl : Hid (bs.length = 64 * (bs.length / 64) + m) := hid (by omega)
    have htl : t.length = len := HT.out.length
    have hsl : ∀ W : World, (Instr.sliceAt 107 (.pointer (some ⟨ph, 8, none⟩)) (some (.int .i64 (m : Int))) none none).run Tryd.prog W = .ok (.slice (some ⟨ph, 8 + m, none⟩) (64 - m) (64 - m)) W := fun W => by
      have hal : Tryd.prog.arrayLen 107 = 64 := by kernel_rfl
      rw [run_sliceAt_array_l W 107 ⟨ph, 8, none⟩ (by kernel_rfl) .i64 (m : Int) (by omega) (by rw [hal]; omega), hal]
      have hsi : (sizeOf (Tryd.prog.elem 107)).run Tryd.prog W = .ok 1 W := by kernel_rfl
      rw [hsi, Result.andThen_ok]
      unfold slicedAt
      rw [if_neg (by omega), Int.toNat_natCast, Nat.mul_one, Addr.add_mid]
    have hsa : ∀ W : World, (Instr.sliceAt 107 (.pointer (some ⟨ph, 8, none⟩)) none none none).run Tryd.prog W = .ok (.slice (some ⟨ph, 8, none⟩) 64 64) W := fun W => by
      have hal : Tryd.prog.arrayLen 107 = 64 := by kernel_rfl
      rw [run_sliceAt_array_all W 107 ⟨ph, 8, none⟩ (by kernel_rfl), hal]
      have hsi : (sizeOf (Tryd.prog.elem 107)).run Tryd.prog W = .ok 1 W := by kernel_rfl
      rw [hsi, Result.andThen_ok]
      rfl
    have hmpos : 0 < m := by omega
    clear hk2 but2 hc2
    by_cases hfull : len < 64 - m
    · have Hn0 : Hid (len = Nat.min len (64 - m)) := hid (show len = min len (64 - m) by omega)
      have hs3 : ∀ W : World, (Instr.slice 67 (.slice a len cap) (some (.int .i64 (len : Int))) none none).run Tryd.prog W = .ok (.slice (cutA a len cap) (len - len) (cap - len)) W := fun W => run_cut_l Tryd.underlying67 size_byte8 a len cap (len : Int) W (by omega) (by omega)
      have Hdone : Hid (HashAt ((w.setCell ⟨ph, 72, none⟩ (.int .u64 ((bs.length : Int) + len))).setCells ph (8 + m) ((t.take len).map (Value.int .u8))) ph T (bs ++ t) ∧ But ph w ((w.setCell ⟨ph, 72, none⟩ (.int .u64 ((bs.length : Int) + len))).setCells ph (8 + m) ((t.take len).map (Value.int .u8)))) := hid (by
        rw [List.take_of_length_le (show t.length ≤ len by omega)]
        refine ⟨⟨?_, splice R m t, ?_, splice_small hRs HT.out.small, ?_, ?_⟩, But.setCells _ _ _ Hbut2.out⟩
        · intro x hx
          rcases List.mem_append.1 hx with h | h
          · exact hbs x h
          · exact HT.out.small x h
        · rw [length_splice _ _ _ (by omega)]; exact hR
        · have hb := hbl.out
          rw [List.length_append, show (bs.length + t.length) % 64 = m + len by omega, show (bs.length + t.length) / 64 = bs.length / 64 by omega, List.drop_append_of_le_length (by omega), ← HRt.out, show bs.length % 64 = m by omega]
          unfold splice
          rw [List.take_append, List.take_of_length_le (show (R.take m).length ≤ m + len by rw [List.length_take]; omega), List.length_take, Nat.min_eq_left (show m ≤ R.length by omega), show m + len - m = t.length by omega, List.take_left]
        · have hb := hbl.out
          rw [List.length_append, show (bs.length + t.length) / 64 = bs.length / 64 by omega, htl]
          have e : natB (bs ++ t) = natB bs ++ natB t := by simp [natB]
          rw [e, run_append _ _ _ _ (by simp [natB]; omega)]
          exact Hk2.out.hash_put hR m t (by omega))
      go_enter Tryd.func74, Tryd.ntmps74
      go_wp2_with (with_reducible refine wpList_copy_text rfl _ _ _ _ rfl 5 Tryd.underlying67 size_byte8 ph (8 + m) (64 - m) (64 - m) rfl a len cap rfl _ T Hk2.out _ HT2.out (by omega) len Hn0.out ?_)
      go_returns
      have hd := Hdone.out
      simp only [List.map_take] at hd
      exact ⟨rfl, hd.2, hd.1⟩
    · have Hn0 : Hid (64 - m = Nat.min len (64 - m)) := hid (show 64 - m = min len (64 - m) by omega)
      have hsub : ((64 - m : Nat) : Int) = 64 - (m : Int) := by omega
      have hsum : (m : Int) + (64 - (m : Int)) = 64 := by omega
      have hs3 : ∀ W : World, (Instr.slice 67 (.slice a len cap) (some (.int .i64 (64 - (m : Int)))) none none).run Tryd.prog W = .ok (.slice (cutA a (64 - m) cap) (len - (64 - m)) (cap - (64 - m))) W := fun W => by
        have := run_cut_l Tryd.underlying67 size_byte8 a len cap (64 - (m : Int)) W (by omega) (by omega)
        rwa [show ((64 : Int) - (m : Int)).toNat = 64 - m by omega] at this
      obtain ⟨R2, hR2d⟩ : ∃ R2, R2 = splice R m (t.take (64 - m)) := ⟨_, rfl⟩
      have hR2 : R2.length = 64 := by rw [hR2d, length_splice _ _ _ (by rw [List.length_take]; omega)]; exact hR
      have hR2s : ∀ x ∈ R2, 0 ≤ x ∧ x < 256 := by rw [hR2d]; exact splice_small hRs fun x hx => HT.out.small x (List.mem_of_mem_take hx)
      have Hk3 := hid (Hk2.out.hash_put hR m (t.take (64 - m)) (by rw [List.length_take]; omega))
      rw [← hR2d] at Hk3
      have Hbut3 := hid (But.setCells ((t.take (64 - m)).map (Value.int .u8)) (8 + m) _ Hbut2.out)
      simp only [List.map_take] at Hk3 Hbut3
      have HR2 : Hid (((natB (bs ++ t)).drop (64 * (bs.length / 64))).take 64 = natB R2) := hid (by
        have hb := hbl.out
        unfold natB
        rw [← List.map_drop, ← List.map_take, hR2d, List.drop_append_of_le_length (by omega), ← HRt.out, show bs.length % 64 = m by omega]
        congr 1
        unfold splice
        rw [List.take_append, List.take_of_length_le (show (R.take m).length ≤ 64 by rw [List.length_take]; omega), List.length_take, Nat.min_eq_left (show m ≤ R.length by omega), List.length_take, Nat.min_eq_left (show 64 - m ≤ t.length by omega), show m + (64 - m) = R.length by omega, List.drop_length, List.append_nil])
      clear hR2d
      go_enter Tryd.func74, Tryd.ntmps74
      go_wp2_with (with_reducible refine wpList_copy_text rfl _ _ _ _ rfl 5 Tryd.underlying67 size_byte8 ph (8 + m) (64 - m) (64 - m) rfl a len cap rfl _ T Hk2.out _ HT2.out (by omega) (64 - m) Hn0.out ?_)
      have Hbut2' := Hbut2
      clear Hk2 Hbut2
      refine wp_region_flow 7 [0, 1, 2, 3, 4, 5, 6] [] [] (by kernel_rfl) (by kernel_rfl) ?_
      apply Exists.intro
      refine ⟨fun w0 hb0 hF0 => ?_, ?_⟩
      · simp only [pick, List.getElem?_toArray, List.getElem?_cons_succ, List.getElem?_cons_zero, Option.toList_some, List.cons_append, List.nil_append]
        repeat (go_big_quiet_step (fail))
        exact wpQuiet_nil rfl
      refine AlChk.nil ?_
      refine Walk.fin fun w3 h3 _ _ => ?_
      simp only [List.drop_succ_cons, List.drop_zero]
      go_wp2_with fail
      have hk4 := Hk3.out.below h3
      refine (process_any ph T _ (R2.map (Value.int .u8) ++ [.int .u64 ((bs.length + len : Nat) : Int)]) (some ⟨ph, 8, none⟩) 64 R2 w3 (Ok.run Ok.start _ _) hk4 (hk4.hash_rest hR2 hR2s) ((Htab.out.but Hbut3.out hp1 hp0).below h3) hp1).mono ?_
      rintro e w4 ⟨rfl, b4, k4⟩
      have Hinv : Hid (AddInv ph T bs t len w (.slice (cutA a (64 - m) cap) (len - (64 - m)) (cap - (64 - m))) w4) := hid (by
        have hb := hbl.out
        refine ⟨bs.length / 64 + 1, 64 - m, _, _, by omega, by omega, rfl, ?_, fun _ => cutA_ne (Hne.out (by omega)), ⟨R2, hR2, hR2s, ?_⟩, ((Htab.out.but Hbut3.out hp1 hp0).below h3).but b4 hp1 hp0, (Hbut3.out.ext h3).trans b4⟩
        · exact (((HT.out.but Hbut3.out Hne.out).below h3).but b4 Hne.out).from (64 - m) (by omega)
        · rw [Sha.run, HR2.out, show natB (bs ++ t) = natB bs ++ natB t by simp [natB], run_append _ _ _ _ (by simp [natB]; omega)]
          exact k4)
      clear k4 hk4 b4 h3 Hk3 Hbut3 hs3
      go_wp2_with fail
      try simp only [HM.out]
      go_loopw [1] (AddInv ph T bs t len w) (fun v _ => sliceLen v)
      case atStart => exact Hinv.out
      case round =>
        obtain ⟨k, j, a1, cap1, hkj, hj, rfl, hT1, hne1, ⟨R1, hR1, hRs1, hk1⟩, tab1, but1⟩ := hrel
        have hle1 := hT1.le
        have hmx1 := hT1.max
        have HT1 := hid hT1
        have Htab1 := hid tab1
        have Hne1 := hid hne1
        have Hk1 := hid hk1
        have Hbut1 := hid but1
        clear hT1 tab1 hne1 hk1 but1
        by_cases hge : 64 ≤ len - j
        · have hs1 : ∀ W : World, (Instr.slice 67 (.slice a1 (len - j) cap1) none (some (.int .i64 64)) none).run Tryd.prog W = .ok (.slice a1 64 cap1) W := fun W => run_cut_h Tryd.underlying67 size_byte8 a1 (len - j) cap1 64 W (by omega) (by omega)
          have hs2 : ∀ W : World, (Instr.slice 67 (.slice a1 (len - j) cap1) (some (.int .i64 64)) none none).run Tryd.prog W = .ok (.slice (cutA a1 64 cap1) (len - j - 64) (cap1 - 64)) W := fun W => run_cut_l Tryd.underlying67 size_byte8 a1 (len - j) cap1 64 W (by omega) (by omega)
          go_wp2_with fail
          refine wp_region_flow 5 [0, 1, 2, 3, 4] [] [] (by kernel_rfl) (by kernel_rfl) ?_
          apply Exists.intro
          refine ⟨fun w0 hb0 hF0 => ?_, ?_⟩
          · simp only [pick, List.getElem?_toArray, List.getElem?_cons_succ, List.getElem?_cons_zero, Option.toList_some, List.cons_append, List.nil_append]
            repeat (go_big_quiet_step (fail))
            exact wpQuiet_nil rfl
          refine AlChk.nil ?_
          refine Walk.fin fun w3 h3 _ _ => ?_
          simp only [List.drop_succ_cons, List.drop_zero]
          go_wp2_with fail
          refine (process_any ph T _ (R1.map (Value.int .u8) ++ [.int .u64 ((bs.length + len : Nat) : Int)]) a1 cap1 ((t.drop j).take 64) w3 (Ok.run Ok.start _ _) (Hk1.out.below h3) ((HT1.out.to 64 hge).below h3) (Htab1.out.below h3) hp1).mono ?_
          rintro e w4 ⟨rfl, b4, k4⟩
          rw [← natB_drop_take bs t k j hkj] at k4
          have k4' : Blk w4 ph (hashCells (Sha.run Sha.start (natB (bs ++ t)) (k + 1)) R1 (bs.length + len)).toArray T := k4
          have Hinv2 : Hid (AddInv ph T bs t len w (.slice (cutA a1 64 cap1) (len - j - 64) (cap1 - 64)) w4) := hid (by
            refine ⟨k + 1, j + 64, cutA a1 64 cap1, cap1 - 64, by omega, by omega, ?_, ?_, fun _ => cutA_ne (Hne1.out (by omega)), ⟨R1, hR1, hRs1, k4'⟩, (Htab1.out.below h3).but b4 hp1 hp0, (Hbut1.out.ext h3).trans b4⟩
            · rw [Nat.sub_sub]
            · have := ((HT1.out.below h3).but b4 Hne1.out).from 64 hge
              rwa [Nat.sub_sub, List.drop_drop] at this)
          clear k4 k4' b4 h3
          go_wp2_with fail
          exact ⟨Hinv2.out, by simp only [sliceLen]; omega⟩
        · have Hdone : Hid (HashAt (wr.setCells ph 8 (((t.drop j).take (len - j)).map (Value.int .u8))) ph T (bs ++ t) ∧ But ph w (wr.setCells ph 8 (((t.drop j).take (len - j)).map (Value.int .u8)))) := hid (by
            have hl : (t.drop j).length = len - j := HT1.out.length
            have htl : t.length = len := HT.out.length
            have et : (t.drop j).take (len - j) = t.drop j := List.take_of_length_le (by omega)
            rw [et]
            refine ⟨⟨?_, splice R1 0 (t.drop j), ?_, splice_small hRs1 HT1.out.small, ?_, ?_⟩, But.setCells _ _ _ Hbut1.out⟩
            · intro x hx
              rcases List.mem_append.1 hx with h | h
              · exact hbs x h
              · exact HT.out.small x h
            · rw [length_splice _ _ _ (by omega)]; exact hR1
            · rw [List.length_append, show (bs.length + t.length) % 64 = len - j by omega, show 64 * ((bs.length + t.length) / 64) = bs.length + j by omega, ← List.drop_drop, List.drop_left]
              unfold splice
              rw [List.take_zero, List.nil_append, ← hl, List.take_left]
            · rw [List.length_append, show (bs.length + t.length) / 64 = k by omega, htl]
              exact Hk1.out.hash_put hR1 0 (t.drop j) (by omega))
          have hsz := hashCells_size (Sha.run Sha.start (natB (bs ++ t)) k) R1 (bs.length + len) hR1
          have Hn0 : Hid (len - j = Nat.min (len - j) 64) := hid (show len - j = min (len - j) 64 by omega)
          go_wp2_with (with_reducible refine wpList_copy_text rfl _ _ _ _ rfl 5 Tryd.underlying67 size_byte8 ph 8 64 64 rfl a1 (len - j) cap1 rfl _ T Hk1.out _ HT1.out (by omega) (len - j) Hn0.out ?_)
          go_returns
          have hd := Hdone.out
          simp only [List.map_take, List.map_drop] at hd
          exact ⟨rfl, hd.2, hd.1⟩
end Go.Proofs.YthaicocfbmpnmaaDoor
