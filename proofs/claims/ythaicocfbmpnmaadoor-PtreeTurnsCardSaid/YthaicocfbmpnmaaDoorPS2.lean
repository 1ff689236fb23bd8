/-
  Put together, as far as wanted: LNShaAdd LMShaP LNShaFin LMShaB LMShaC LMDig LMMac LMAdrs LMKeyed LMKeyedRef LMChain LMFrame LMDigits LNDigs LPLt LPWots LLogA LLogB LLogH PtA PtB PtC PtD PtE PtF.
-/
import Derived.Test.YthaicocfbmpnmaaDoorPS1
namespace Go.Proofs.YthaicocfbmpnmaaDoor
set_option maxRecDepth 100000
open Go.ChangeShapes Go.WideShapes Go.ChangeAt Go.RowKit
/-- Cells that are written into the middle of a block. -/
theorem Blk.setCells {w : World} {b : Nat} {T : TypeId} (A L B : List Value) (o : Nat) (cs : List Value) (h : Blk w b (A ++ (L ++ B)).toArray T) (hl : o + cs.length ≤ L.length) :
    Blk (w.setCells b (A.length + o) cs) b (A ++ (splice L o cs ++ B)).toArray T := by
  rw [setCells_is]
  obtain ⟨cs', h1, h2, h3, h4, h5⟩ := Blk.setAll_at cs (A.length + o) w _ h (by simp; omega)
  have : cs' = (A ++ (splice L o cs ++ B)).toArray := by
    apply Array.ext_getElem?
    intro j
    rcases Nat.lt_or_ge j (A.length + o) with hj | hj
    · rw [h3 j hj]
      simp only [List.getElem?_toArray]
      rcases Nat.lt_or_ge j A.length with hja | hja
      · rw [List.getElem?_append_left hja, List.getElem?_append_left hja]
      · rw [List.getElem?_append_right hja, List.getElem?_append_right hja, List.getElem?_append_left (by omega), List.getElem?_append_left (by rw [length_splice _ _ _ hl]; omega)]
        unfold splice
        rw [List.getElem?_append_left (by simp; omega), List.getElem?_take_of_lt (by omega)]
    · rcases Nat.lt_or_ge j (A.length + o + cs.length) with hj2 | hj2
      · have := h5 (j - (A.length + o)) (by omega)
        rw [show A.length + o + (j - (A.length + o)) = j by omega] at this
        rw [this, List.getElem?_toArray, List.getElem?_append_right (by omega), List.getElem?_append_left (by rw [length_splice _ _ _ hl]; omega)]
        unfold splice
        rw [List.getElem?_append_right (by simp; omega), List.getElem?_append_left (by simp; omega)]
        congr 1
        simp; omega
      · rw [h4 j hj2, List.getElem?_toArray, List.getElem?_toArray, List.getElem?_append_right (show A.length ≤ j by omega), List.getElem?_append_right (show A.length ≤ j by omega)]
        rcases Nat.lt_or_ge (j - A.length) L.length with hj3 | hj3
        · rw [List.getElem?_append_left hj3, List.getElem?_append_left (by rw [length_splice _ _ _ hl]; omega)]
          unfold splice
          rw [List.getElem?_append_right (by simp; omega), List.getElem?_append_right (by simp; omega), List.getElem?_drop]
          congr 1
          simp; omega
        · rw [List.getElem?_append_right hj3, List.getElem?_append_right (by rw [length_splice _ _ _ hl]; omega), length_splice _ _ _ hl]
  rw [← this]; exact h1
section
variable {P : Program}
/-- copy, a text into a part of a block -/
theorem run_copy_text (w : World) (dT sT ty elem : TypeId) (hu : P.underlying dT = some (.slice elem)) (hs : (P.info? elem).map (·.size) = some 1) {b : Nat} {cs : Array Value} {T : TypeId} (hk : Blk w b cs T) (off dLen dCap : Nat) {a : Option Addr} {len cap : Nat} {t : List Int} (hT : TextAt w a len cap t)
    (hfit : off + dLen ≤ cs.size) : (Builtin.copy_ #[dT, sT] ty #[.slice (some ⟨b, off, none⟩) dLen dCap, .slice a len cap]).run P w = .ok (.int .i64 (Nat.min len dLen : Nat)) (w.setCells b off ((t.take (Nat.min len dLen)).map (Value.int .u8))) := by
  rcases Nat.eq_zero_or_pos (Nat.min len dLen) with h0 | h0
  · rw [run_copy_none w dT sT ty elem _ a dLen dCap len cap hu hs h0, h0]
    simp [World.setCells, goInt]
  · have hle : Nat.min len dLen ≤ len := Nat.min_le_left _ _
    have hle2 : Nat.min len dLen ≤ dLen := Nat.min_le_right _ _
    obtain ⟨x, o, rfl, hx, hc⟩ := hT.at_ (by omega)
    have hl : ((t.take (Nat.min len dLen)).map (Value.int .u8)).length = Nat.min len dLen := by rw [List.length_map, List.length_take, hT.length]; omega
    have := run_copy_cells (P := P) w dT sT ty elem b off dLen dCap ⟨x, o, none⟩ len cap ((t.take (Nat.min len dLen)).map (Value.int .u8)) hu hs hl (fun j v hv => by
      have hj : j < Nat.min len dLen := by
        have := (List.getElem?_eq_some_iff.1 hv).1
        omega
      rw [Addr.add_mid, hc j (by omega)]
      rw [List.getElem?_map, List.getElem?_take_of_lt hj, List.getElem?_eq_getElem (by rw [hT.length]; omega)] at hv
      rw [List.getD_eq_getElem?_getD, List.getElem?_eq_getElem (by rw [hT.length]; omega)]
      exact hv) (fun j hj => by rw [hk.cell, Array.getElem?_eq_getElem (by omega)]; rfl) (fun j _ => hk.free _) (fun v hv => by
      obtain ⟨y, _, rfl⟩ := List.mem_map.1 hv
      rfl)
    rw [this, hl]
    rfl
/-- clear, of a part of a block of bytes -/
theorem run_clear_blk (w : World) (t e ty : TypeId) (ht : P.underlying t = some (.slice e)) (hv : ∀ w, (zeroValue e).run P w = .ok (.int .u8 0) w) {b : Nat} {cs : Array Value} {T : TypeId} (hk : Blk w b cs T) (off n c : Nat) (d : Option Addr) (hd : 0 < n → d = some ⟨b, off, none⟩) (hfit : off + n ≤ cs.size) :
    (Builtin.clear_ #[t] ty #[.slice d n c]).run P w = .ok (.tuple #[]) (w.setCells b off (List.replicate n (.int .u8 0))) := by
  rcases Nat.eq_zero_or_pos n with rfl | h0
  · cases d <;> simp [Builtin.clear_, run_underlying ht, World.setCells]
  · obtain rfl := hd h0
    exact Lib.run_clear_slice w t e ty (.int .u8 0) ht hv rfl rfl b off n c h0 (fun j hj => by rw [hk.cell, Array.getElem?_eq_getElem (by omega)]; rfl) (fun j _ => hk.free _)
end
/-- .. as operations of a walk -/
theorem wpList_copy_text {P : Program} {ops : Array Oper} {rest : List Oper} {op : Oper} {act : Act} {w : World} {Q : Exit → Act → World → Prop} (hgd : op.guard = none) (d s : Operand) (dT sT : TypeId)
    (ho : op.op = .call { callee := .builtin .copy, args := #[d, s], argTypes := #[dT, sT] }) (elem : TypeId) (hu : P.underlying dT = some (.slice elem)) (hs : (P.info? elem).map (·.size) = some 1)
    (b off dLen dCap : Nat) (hd : act.eval d = .slice (some ⟨b, off, none⟩) dLen dCap) (a : Option Addr) (len cap : Nat) (hse : act.eval s = .slice a len cap) (cs : Array Value) (T : TypeId) (hk : Blk w b cs T) (t : List Int) (hT : TextAt w a len cap t) (hfit : off + dLen ≤ cs.size) (n : Nat) (hn : n = Nat.min len dLen)
    (h : wpList P ops Q rest (act.put op.dst (.int .i64 (n : Nat))) (w.setCells b off ((t.take n).map (Value.int .u8)))) : wpList P ops Q (op :: rest) act w := by
  subst hn
  refine wpList_plain hgd fun K hK => ?_
  have hrun := run_copy_text (P := P) w dT sT op.type elem hu hs hk off dLen dCap hT hfit
  unfold Oper.wp execOp
  simp only [ho, resolve, invoke, builtin, Sem.run_bind, Sem.run_pure, Result.andThen_ok, List.map_toArray, List.map_cons, List.map_nil, hd, hse, hrun]
  exact hK _ _ h
theorem wpList_clear_blk {P : Program} {ops : Array Oper} {rest : List Oper} {op : Oper} {act : Act} {w : World} {Q : Exit → Act → World → Prop} (hgd : op.guard = none) (s : Operand) (t : TypeId)
    (ho : op.op = .call { callee := .builtin .clear, args := #[s], argTypes := #[t] }) (e : TypeId) (ht : P.underlying t = some (.slice e)) (hv : ∀ w, (zeroValue e).run P w = .ok (.int .u8 0) w)
    (b off n c : Nat) (d : Option Addr) (hse : act.eval s = .slice d n c) (hd : 0 < n → d = some ⟨b, off, none⟩) (cs : Array Value) (T : TypeId) (hk : Blk w b cs T) (hfit : off + n ≤ cs.size)
    (h : wpList P ops Q rest (act.put op.dst (.tuple #[])) (w.setCells b off (List.replicate n (.int .u8 0)))) : wpList P ops Q (op :: rest) act w := by
  refine wpList_plain hgd fun K hK => ?_
  have hrun := run_clear_blk (P := P) w t e op.type ht hv hk off n c d hd hfit
  unfold Oper.wp execOp
  simp only [ho, resolve, invoke, builtin, Sem.run_bind, Sem.run_pure, Result.andThen_ok, List.map_toArray, List.map_cons, List.map_nil, hse, hrun]
  exact hK _ _ h
/-- the cells of a hash -/
def hashCells (st : Sha.St) (R : List Int) (n : Nat) : List Value := stCells st ++ (R.map (Value.int .u8) ++ [.int .u64 n])
theorem hashCells_size (st : Sha.St) (R : List Int) (n : Nat) (hR : R.length = 64) : (hashCells st R n).toArray.size = 73 := by simp [hashCells, stCells, hR]
theorem hashCells_len (st : Sha.St) (R : List Int) (n : Nat) (hR : R.length = 64) : (hashCells st R n).toArray[72]? = some (.int .u64 n) := by
  simp [hashCells, stCells, hR]
theorem hashCells_set (st : Sha.St) (R : List Int) (n m : Nat) (hR : R.length = 64) : (hashCells st R n).toArray.setIfInBounds 72 (.int .u64 m) = (hashCells st R m).toArray := by
  simp [hashCells, stCells, hR]
theorem hashCells_rest (st : Sha.St) (R : List Int) (n j : Nat) (hR : R.length = 64) (hj : j < 64) : (hashCells st R n).toArray[8 + j]? = some (.int .u8 (R.getD j 0)) := by
  simp only [hashCells, stCells, List.getElem?_toArray]
  rw [List.getElem?_append_right (by simp)]
  simp only [List.length_cons, List.length_nil, show 8 + j - (0 + 1 + 1 + 1 + 1 + 1 + 1 + 1 + 1) = j by omega]
  rw [List.getElem?_append_left (by simp; omega), List.getElem?_map, List.getElem?_eq_getElem (by omega), List.getD_eq_getElem?_getD, List.getElem?_eq_getElem (by omega)]
  rfl
theorem Blk.hash_put {w : World} {ph : Nat} {T : TypeId} {st : Sha.St} {R : List Int} {n : Nat} (h : Blk w ph (hashCells st R n).toArray T) (hR : R.length = 64) (o : Nat) (cs : List Int) (ho : o + cs.length ≤ 64) :
    Blk (w.setCells ph (8 + o) (cs.map (Value.int .u8))) ph (hashCells st (splice R o cs) n).toArray T := by
  have := Blk.setCells (stCells st) (R.map (Value.int .u8)) [.int .u64 n] o (cs.map (Value.int .u8)) h (by simp; omega)
  have e : splice (R.map (Value.int .u8)) o (cs.map (Value.int .u8)) = (splice R o cs).map (Value.int .u8) := by simp [splice]
  rw [e] at this
  exact this
theorem Blk.hash_rest {w : World} {ph : Nat} {T : TypeId} {st : Sha.St} {R : List Int} {n : Nat} (h : Blk w ph (hashCells st R n).toArray T) (hR : R.length = 64) (hs : ∀ x ∈ R, 0 ≤ x ∧ x < 256) : TextAt w (some ⟨ph, 8, none⟩) 64 64 R :=
  TextAt.of_blk h hR (Nat.le_refl _) (by omega) hs fun j hj => hashCells_rest st R n j hR hj
theorem splice_small {R cs : List Int} {o : Nat} (h : ∀ x ∈ R, 0 ≤ x ∧ x < 256) (hc : ∀ x ∈ cs, 0 ≤ x ∧ x < 256) : ∀ x ∈ splice R o cs, 0 ≤ x ∧ x < 256 := by
  intro x hx
  unfold splice at hx
  rcases List.mem_append.1 hx with hx | hx
  · exact h x (List.mem_of_mem_take hx)
  · rcases List.mem_append.1 hx with hx | hx
    · exact hc x hx
    · exact h x (List.mem_of_mem_drop hx)
theorem run_append (s : Sha.St) (bs t : List Nat) : ∀ n, 64 * n ≤ bs.length → Sha.run s (bs ++ t) n = Sha.run s bs n
  | 0, _ => rfl
  | n + 1, h => by
    rw [Sha.run, Sha.run, run_append s bs t n (by omega)]
    congr 1
    rw [List.drop_append_of_le_length (by omega), List.take_append_of_le_length (by simp; omega)]
/-- A hash that was written these bytes. -/
def HashAt (w : World) (ph : Nat) (T : TypeId) (bs : List Int) : Prop :=
  (∀ x ∈ bs, 0 ≤ x ∧ x < 256) ∧ ∃ R : List Int, R.length = 64 ∧ (∀ x ∈ R, 0 ≤ x ∧ x < 256) ∧ R.take (bs.length % 64) = bs.drop (64 * (bs.length / 64)) ∧ Blk w ph (hashCells (Sha.run Sha.start (natB bs) (bs.length / 64)) R bs.length).toArray T
theorem size_byte8 : (Tryd.prog.info? 5).map (·.size) = some 1 := by kernel_rfl
theorem TextAt.but {w w' : World} {b : Nat} {a : Option Addr} {len cap : Nat} {t : List Int} (h : TextAt w a len cap t) (hb : But b w w') (hne : 0 < len → ∀ p : Addr, a = some p → p.block ≠ b) : TextAt w' a len cap t := by
  obtain ⟨h1, h2, h3, h4, h | ⟨x, o, s, rfl, hc⟩⟩ := h
  · exact ⟨h1, h2, h3, h4, .inl h⟩
  · refine ⟨h1, h2, h3, h4, .inr ⟨x, o, s, rfl, fun j hj => ?_⟩⟩
    obtain ⟨e1, e2, e3⟩ := hc j hj
    exact ⟨e1, Nat.lt_of_lt_of_le e2 hb.size, (hb.cell e2 (hne (by omega) _ rfl)).trans e3⟩
theorem TextAt.ne {w : World} {b : Nat} {a : Option Addr} {len cap : Nat} {t : List Int} (h : TextAt w a len cap t) (hb : w.heap.size ≤ b) : 0 < len → ∀ p : Addr, a = some p → p.block ≠ b := fun h0 p hp => by
  obtain ⟨x, o, rfl, hx, _⟩ := h.at_ h0
  cases hp
  exact fun e => by simp only at e; omega
theorem cutA_ne {a : Option Addr} {l cap b : Nat} (h : ∀ p : Addr, a = some p → p.block ≠ b) : ∀ p : Addr, cutA a l cap = some p → p.block ≠ b := by
  intro p hp
  unfold cutA at hp
  split at hp
  · exact h p hp
  · cases a with
    | none => simp at hp
    | some q =>
      cases hp
      have := h _ rfl
      unfold Addr.add
      split <;> exact this
theorem TextAt.from {w : World} {a : Option Addr} {len cap : Nat} {t : List Int} (h : TextAt w a len cap t) (l : Nat) (hl : l ≤ len) : TextAt w (cutA a l cap) (len - l) (cap - l) (t.drop l) := by
  have := h.cut l len hl (Nat.le_refl _)
  rwa [List.take_of_length_le (by simp [h.length])] at this
theorem TextAt.to {w : World} {a : Option Addr} {len cap : Nat} {t : List Int} (h : TextAt w a len cap t) (l : Nat) (hl : l ≤ len) : TextAt w a l cap (t.take l) := by
  have := h.cut 0 l (Nat.zero_le _) hl
  rwa [cutA_zero, Nat.sub_zero, Nat.sub_zero, List.drop_zero] at this
theorem natB_drop_take (bs t : List Int) (k j : Nat) (h : 64 * k = bs.length + j) : ((natB (bs ++ t)).drop (64 * k)).take 64 = natB ((t.drop j).take 64) := by
  unfold natB
  rw [h, List.map_append, ← List.drop_drop, List.drop_append_of_le_length (by simp), show (bs.map Int.toNat).drop bs.length = [] from by simp, List.nil_append, List.map_take, List.map_drop]
def sliceLen : Value → Nat
  | .slice _ n _ => n
  | _ => 0
/-- The loop's state: k blocks are taken in, j bytes of the text too. -/
def AddInv (ph : Nat) (T : TypeId) (bs t : List Int) (len : Nat) (w : World) (v : Value) (wr : World) : Prop :=
  ∃ k j a cap, 64 * k = bs.length + j ∧ j ≤ len ∧ v = .slice a (len - j) cap ∧ TextAt wr a (len - j) cap (t.drop j) ∧ (0 < len - j → ∀ p : Addr, a = some p → p.block ≠ ph) ∧
    (∃ R : List Int, R.length = 64 ∧ (∀ x ∈ R, 0 ≤ x ∧ x < 256) ∧ Blk wr ph (hashCells (Sha.run Sha.start (natB (bs ++ t)) k) R (bs.length + len)).toArray T) ∧ ShaTab wr ∧ But ph w wr
set_option maxHeartbeats 8000000 in
theorem add_any (ph : Nat) (T : TypeId) (bs : List Int) (a : Option Addr) (len cap : Nat) (t : List Int) (w : World) (hH : HashAt w ph T bs) (hT : TextAt w a len cap t) (hbnd : bs.length + len < 1152921504606846976) (hne : 0 < len → ∀ p : Addr, a = some p → p.block ≠ ph) (tab : ShaTab w) (hp1 : ph ≠ 1) (hp0 : ph ≠ 0) :
    Calls Tryd.prog 74 #[.pointer (some ⟨ph, 0, none⟩), .slice a len cap] w fun e w' => e = .returned (.tuple #[]) ∧ But ph w w' ∧ HashAt w' ph T (bs ++ t) := by
  obtain ⟨hbs, R, hR, hRs, hRt, hk⟩ := hH
  have qS : w.cell? ⟨ph, 72, none⟩ = some (.int .u64 (bs.length : Nat)) := (hk.cell 72).trans (hashCells_len _ _ _ hR)
  have f1 := hk.free
  have hlt := hk.lt
  have hmx := hT.max
  have hle := hT.le
  have Hk := hid hk
  have HT := hid hT
  have Htab := hid tab
  have Hne := hid hne
  have HRt := hid hRt
  obtain ⟨m, hm⟩ : ∃ m : Nat, (bs.length : Int) % 64 = m := ⟨bs.length % 64, by omega⟩
  have hm64 : m < 64 := by omega
  have HM := hid hm
  clear hk hT tab hne hRt
  by_cases h0 : m = 0
  · subst h0
    have hk2 := (Hk.out.set 72 (.int .u64 ((bs.length + len : Nat) : Int)))
    rw [hashCells_set _ _ _ _ hR] at hk2
    have but2 := (But.of (b := ph) (Below.refl w.heap.size w)).set (p := ⟨ph, 72, none⟩) (.inl rfl) (.int .u64 ((bs.length + len : Nat) : Int))
    have hc2 : (((bs.length + len : Nat) : Int)) = (bs.length : Int) + len := by omega
    rw [hc2] at hk2 but2
    have Hk2 := hid hk2
    have Hbut2 := hid but2
    clear hk2 but2 hc2
    have hm0 : (bs.length : Int) % 64 = 0 := hm
    clear hm
    have Hinv : Hid (AddInv ph T bs t len w (.slice a len cap) (w.setCell ⟨ph, 72, none⟩ (.int .u64 ((bs.length : Int) + len)))) := hid (by
      have tabb := Htab.out.but Hbut2.out hp1 hp0
      have h64 : 64 * (bs.length / 64) = bs.length := by omega
      refine ⟨bs.length / 64, 0, a, cap, h64, Nat.zero_le _, rfl, HT.out.but Hbut2.out Hne.out, Hne.out, ⟨R, hR, hRs, ?_⟩, tabb, Hbut2.out⟩
      have e : natB (bs ++ t) = natB bs ++ natB t := by simp [natB]
      rw [e, run_append _ _ _ _ (by simp [natB]; omega)]
      exact Hk2.out)
    clear Hk2 Hbut2
    go_enter Tryd.func74, Tryd.ntmps74
    go_wp2_with fail
    try simp only [hm0]
    go_loopw [1] (AddInv ph T bs t len w) (fun v _ => sliceLen v)
    case atStart => exact Hinv.out
    case round =>
      obtain ⟨k, j, a1, cap1, hkj, hj, rfl, hT1, hne1, ⟨R1, hR1, hRs1, hk1⟩, tab1, but1⟩ := hrel
      have hle1 := hT1.le
      have hmx1 := hT1.max
      have HT1 := hid hT1
      have Htab1 := hid tab1
      have Hne1 := hid hne1
      have Hk1 := hid hk1
      have Hbut1 := hid but1
      clear hT1 tab1 hne1 hk1 but1
      by_cases hge : 64 ≤ len - j
      · have hs1 : ∀ W : World, (Instr.slice 67 (.slice a1 (len - j) cap1) none (some (.int .i64 64)) none).run Tryd.prog W = .ok (.slice a1 64 cap1) W := fun W => run_cut_h Tryd.underlying67 size_byte8 a1 (len - j) cap1 64 W (by omega) (by omega)
        have hs2 : ∀ W : World, (Instr.slice 67 (.slice a1 (len - j) cap1) (some (.int .i64 64)) none none).run Tryd.prog W = .ok (.slice (cutA a1 64 cap1) (len - j - 64) (cap1 - 64)) W := fun W => run_cut_l Tryd.underlying67 size_byte8 a1 (len - j) cap1 64 W (by omega) (by omega)
        go_wp2_with fail
        refine wp_region_flow 5 [0, 1, 2, 3, 4] [] [] (by kernel_rfl) (by kernel_rfl) ?_
        apply Exists.intro
        refine ⟨fun w0 hb0 hF0 => ?_, ?_⟩
        · simp only [pick, List.getElem?_toArray, List.getElem?_cons_succ, List.getElem?_cons_zero, Option.toList_some, List.cons_append, List.nil_append]
          repeat (go_big_quiet_step (fail))
          exact wpQuiet_nil rfl
        refine AlChk.nil ?_
        refine Walk.fin fun w3 h3 _ _ => ?_
        simp only [List.drop_succ_cons, List.drop_zero]
        go_wp2_with fail
        refine (process_any ph T _ (R1.map (Value.int .u8) ++ [.int .u64 ((bs.length + len : Nat) : Int)]) a1 cap1 ((t.drop j).take 64) w3 (Ok.run Ok.start _ _) (Hk1.out.below h3) ((HT1.out.to 64 hge).below h3) (Htab1.out.below h3) hp1).mono ?_
        rintro e w4 ⟨rfl, b4, k4⟩
        rw [← natB_drop_take bs t k j hkj] at k4
        have k4' : Blk w4 ph (hashCells (Sha.run Sha.start (natB (bs ++ t)) (k + 1)) R1 (bs.length + len)).toArray T := k4
        have Hinv2 : Hid (AddInv ph T bs t len w (.slice (cutA a1 64 cap1) (len - j - 64) (cap1 - 64)) w4) := hid (by
          refine ⟨k + 1, j + 64, cutA a1 64 cap1, cap1 - 64, by omega, by omega, ?_, ?_, fun _ => cutA_ne (Hne1.out (by omega)), ⟨R1, hR1, hRs1, k4'⟩, (Htab1.out.below h3).but b4 hp1 hp0, (Hbut1.out.ext h3).trans b4⟩
          · rw [Nat.sub_sub]
          · have := ((HT1.out.below h3).but b4 Hne1.out).from 64 hge
            rwa [Nat.sub_sub, List.drop_drop] at this)
        clear k4 k4' b4 h3
        go_wp2_with fail
        exact ⟨Hinv2.out, by simp only [sliceLen]; omega⟩
      · have Hdone : Hid (HashAt (wr.setCells ph 8 (((t.drop j).take (len - j)).map (Value.int .u8))) ph T (bs ++ t) ∧ But ph w (wr.setCells ph 8 (((t.drop j).take (len - j)).map (Value.int .u8)))) := hid (by
          have hl : (t.drop j).length = len - j := HT1.out.length
          have htl : t.length = len := HT.out.length
          have et : (t.drop j).take (len - j) = t.drop j := List.take_of_length_le (by omega)
          rw [et]
          refine ⟨⟨?_, splice R1 0 (t.drop j), ?_, splice_small hRs1 HT1.out.small, ?_, ?_⟩, But.setCells _ _ _ Hbut1.out⟩
          · intro x hx
            rcases List.mem_append.1 hx with h | h
            · exact hbs x h
            · exact HT.out.small x h
          · rw [length_splice _ _ _ (by omega)]; exact hR1
          · rw [List.length_append, show (bs.length + t.length) % 64 = len - j by omega, show 64 * ((bs.length + t.length) / 64) = bs.length + j by omega, ← List.drop_drop, List.drop_left]
            unfold splice
            rw [List.take_zero, List.nil_append, ← hl, List.take_left]
          · rw [List.length_append, show (bs.length + t.length) / 64 = k by omega, htl]
            exact Hk1.out.hash_put hR1 0 (t.drop j) (by omega))
        have hsz := hashCells_size (Sha.run Sha.start (natB (bs ++ t)) k) R1 (bs.length + len) hR1
        have Hn0 : Hid (len - j = Nat.min (len - j) 64) := hid (show len - j = min (len - j) 64 by omega)
        go_wp2_with (with_reducible refine wpList_copy_text rfl _ _ _ _ rfl 5 Tryd.underlying67 size_byte8 ph 8 64 64 rfl a1 (len - j) cap1 rfl _ T Hk1.out _ HT1.out (by omega) (len - j) Hn0.out ?_)
        go_returns
        have hd := Hdone.out
        simp only [List.map_take, List.map_drop] at hd
        exact ⟨rfl, hd.2, hd.1⟩
  · have hk2 := (Hk.out.set 72 (.int .u64 ((bs.length + len : Nat) : Int)))
    rw [hashCells_set _ _ _ _ hR] at hk2
    have but2 := (But.of (b := ph) (Below.refl w.heap.size w)).set (p := ⟨ph, 72, none⟩) (.inl rfl) (.int .u64 ((bs.length + len : Nat) : Int))
    have hc2 : (((bs.length + len : Nat) : Int)) = (bs.length : Int) + len := by omega
    rw [hc2] at hk2 but2
    have Hk2 := hid hk2
    have Hbut2 := hid but2
    have HT2 := hid (HT.out.but Hbut2.out Hne.out)
    have hsz := hashCells_size (Sha.run Sha.start (natB bs) (bs.length / 64)) R (bs.length + len) hR
    have hbl : Hid (bs.length = 64 * (bs.length / 64) + m) := hid (by omega)
    have htl : t.length = len := HT.out.length
    have hsl : ∀ W : World, (Instr.sliceAt 107 (.pointer (some ⟨ph, 8, none⟩)) (some (.int .i64 (m : Int))) none none).run Tryd.prog W = .ok (.slice (some ⟨ph, 8 + m, none⟩) (64 - m) (64 - m)) W := fun W => by
      have hal : Tryd.prog.arrayLen 107 = 64 := by kernel_rfl
      rw [run_sliceAt_array_l W 107 ⟨ph, 8, none⟩ (by kernel_rfl) .i64 (m : Int) (by omega) (by rw [hal]; omega), hal]
      have hsi : (sizeOf (Tryd.prog.elem 107)).run Tryd.prog W = .ok 1 W := by kernel_rfl
      rw [hsi, Result.andThen_ok]
      unfold slicedAt
      rw [if_neg (by omega), Int.toNat_natCast, Nat.mul_one, Addr.add_mid]
    have hsa : ∀ W : World, (Instr.sliceAt 107 (.pointer (some ⟨ph, 8, none⟩)) none none none).run Tryd.prog W = .ok (.slice (some ⟨ph, 8, none⟩) 64 64) W := fun W => by
      have hal : Tryd.prog.arrayLen 107 = 64 := by kernel_rfl
      rw [run_sliceAt_array_all W 107 ⟨ph, 8, none⟩ (by kernel_rfl), hal]
      have hsi : (sizeOf (Tryd.prog.elem 107)).run Tryd.prog W = .ok 1 W := by kernel_rfl
      rw [hsi, Result.andThen_ok]
      rfl
    have hmpos : 0 < m := by omega
    clear hk2 but2 hc2
    by_cases hfull : len < 64 - m
    · have Hn0 : Hid (len = Nat.min len (64 - m)) := hid (show len = min len (64 - m) by omega)
      have hs3 : ∀ W : World, (Instr.slice 67 (.slice a len cap) (some (.int .i64 (len : Int))) none none).run Tryd.prog W = .ok (.slice (cutA a len cap) (len - len) (cap - len)) W := fun W => run_cut_l Tryd.underlying67 size_byte8 a len cap (len : Int) W (by omega) (by omega)
      have Hdone : Hid (HashAt ((w.setCell ⟨ph, 72, none⟩ (.int .u64 ((bs.length : Int) + len))).setCells ph (8 + m) ((t.take len).map (Value.int .u8))) ph T (bs ++ t) ∧ But ph w ((w.setCell ⟨ph, 72, none⟩ (.int .u64 ((bs.length : Int) + len))).setCells ph (8 + m) ((t.take len).map (Value.int .u8)))) := hid (by
        rw [List.take_of_length_le (show t.length ≤ len by omega)]
        refine ⟨⟨?_, splice R m t, ?_, splice_small hRs HT.out.small, ?_, ?_⟩, But.setCells _ _ _ Hbut2.out⟩
        · intro x hx
          rcases List.mem_append.1 hx with h | h
          · exact hbs x h
          · exact HT.out.small x h
        · rw [length_splice _ _ _ (by omega)]; exact hR
        · have hb := hbl.out
          rw [List.length_append, show (bs.length + t.length) % 64 = m + len by omega, show (bs.length + t.length) / 64 = bs.length / 64 by omega, List.drop_append_of_le_length (by omega), ← HRt.out, show bs.length % 64 = m by omega]
          unfold splice
          rw [List.take_append, List.take_of_length_le (show (R.take m).length ≤ m + len by rw [List.length_take]; omega), List.length_take, Nat.min_eq_left (show m ≤ R.length by omega), show m + len - m = t.length by omega, List.take_left]
        · have hb := hbl.out
          rw [List.length_append, show (bs.length + t.length) / 64 = bs.length / 64 by omega, htl]
          have e : natB (bs ++ t) = natB bs ++ natB t := by simp [natB]
          rw [e, run_append _ _ _ _ (by simp [natB]; omega)]
          exact Hk2.out.hash_put hR m t (by omega))
      go_enter Tryd.func74, Tryd.ntmps74
      go_wp2_with (with_reducible refine wpList_copy_text rfl _ _ _ _ rfl 5 Tryd.underlying67 size_byte8 ph (8 + m) (64 - m) (64 - m) rfl a len cap rfl _ T Hk2.out _ HT2.out (by omega) len Hn0.out ?_)
      go_returns
      have hd := Hdone.out
      simp only [List.map_take] at hd
      exact ⟨rfl, hd.2, hd.1⟩
    · have Hn0 : Hid (64 - m = Nat.min len (64 - m)) := hid (show 64 - m = min len (64 - m) by omega)
      have hsub : ((64 - m : Nat) : Int) = 64 - (m : Int) := by omega
      have hsum : (m : Int) + (64 - (m : Int)) = 64 := by omega
      have hs3 : ∀ W : World, (Instr.slice 67 (.slice a len cap) (some (.int .i64 (64 - (m : Int)))) none none).run Tryd.prog W = .ok (.slice (cutA a (64 - m) cap) (len - (64 - m)) (cap - (64 - m))) W := fun W => by
        have := run_cut_l Tryd.underlying67 size_byte8 a len cap (64 - (m : Int)) W (by omega) (by omega)
        rwa [show ((64 : Int) - (m : Int)).toNat = 64 - m by omega] at this
      obtain ⟨R2, hR2d⟩ : ∃ R2, R2 = splice R m (t.take (64 - m)) := ⟨_, rfl⟩
      have hR2 : R2.length = 64 := by rw [hR2d, length_splice _ _ _ (by rw [List.length_take]; omega)]; exact hR
      have hR2s : ∀ x ∈ R2, 0 ≤ x ∧ x < 256 := by rw [hR2d]; exact splice_small hRs fun x hx => HT.out.small x (List.mem_of_mem_take hx)
      have Hk3 := hid (Hk2.out.hash_put hR m (t.take (64 - m)) (by rw [List.length_take]; omega))
      rw [← hR2d] at Hk3
      have Hbut3 := hid (But.setCells ((t.take (64 - m)).map (Value.int .u8)) (8 + m) _ Hbut2.out)
      simp only [List.map_take] at Hk3 Hbut3
      have HR2 : Hid (((natB (bs ++ t)).drop (64 * (bs.length / 64))).take 64 = natB R2) := hid (by
        have hb := hbl.out
        unfold natB
        rw [← List.map_drop, ← List.map_take, hR2d, List.drop_append_of_le_length (by omega), ← HRt.out, show bs.length % 64 = m by omega]
        congr 1
        unfold splice
        rw [List.take_append, List.take_of_length_le (show (R.take m).length ≤ 64 by rw [List.length_take]; omega), List.length_take, Nat.min_eq_left (show m ≤ R.length by omega), List.length_take, Nat.min_eq_left (show 64 - m ≤ t.length by omega), show m + (64 - m) = R.length by omega, List.drop_length, List.append_nil])
      clear hR2d
      go_enter Tryd.func74, Tryd.ntmps74
      go_wp2_with (with_reducible refine wpList_copy_text rfl _ _ _ _ rfl 5 Tryd.underlying67 size_byte8 ph (8 + m) (64 - m) (64 - m) rfl a len cap rfl _ T Hk2.out _ HT2.out (by omega) (64 - m) Hn0.out ?_)
      have Hbut2' := Hbut2
      clear Hk2 Hbut2
      refine wp_region_flow 7 [0, 1, 2, 3, 4, 5, 6] [] [] (by kernel_rfl) (by kernel_rfl) ?_
      apply Exists.intro
      refine ⟨fun w0 hb0 hF0 => ?_, ?_⟩
      · simp only [pick, List.getElem?_toArray, List.getElem?_cons_succ, List.getElem?_cons_zero, Option.toList_some, List.cons_append, List.nil_append]
        repeat (go_big_quiet_step (fail))
        exact wpQuiet_nil rfl
      refine AlChk.nil ?_
      refine Walk.fin fun w3 h3 _ _ => ?_
      simp only [List.drop_succ_cons, List.drop_zero]
      go_wp2_with fail
      have hk4 := Hk3.out.below h3
      refine (process_any ph T _ (R2.map (Value.int .u8) ++ [.int .u64 ((bs.length + len : Nat) : Int)]) (some ⟨ph, 8, none⟩) 64 R2 w3 (Ok.run Ok.start _ _) hk4 (hk4.hash_rest hR2 hR2s) ((Htab.out.but Hbut3.out hp1 hp0).below h3) hp1).mono ?_
      rintro e w4 ⟨rfl, b4, k4⟩
      have Hinv : Hid (AddInv ph T bs t len w (.slice (cutA a (64 - m) cap) (len - (64 - m)) (cap - (64 - m))) w4) := hid (by
        have hb := hbl.out
        refine ⟨bs.length / 64 + 1, 64 - m, _, _, by omega, by omega, rfl, ?_, fun _ => cutA_ne (Hne.out (by omega)), ⟨R2, hR2, hR2s, ?_⟩, ((Htab.out.but Hbut3.out hp1 hp0).below h3).but b4 hp1 hp0, (Hbut3.out.ext h3).trans b4⟩
        · exact (((HT.out.but Hbut3.out Hne.out).below h3).but b4 Hne.out).from (64 - m) (by omega)
        · rw [Sha.run, HR2.out, show natB (bs ++ t) = natB bs ++ natB t by simp [natB], run_append _ _ _ _ (by simp [natB]; omega)]
          exact k4)
      clear k4 hk4 b4 h3 Hk3 Hbut3 hs3
      go_wp2_with fail
      try simp only [HM.out]
      go_loopw [1] (AddInv ph T bs t len w) (fun v _ => sliceLen v)
      case atStart => exact Hinv.out
      case round =>
        obtain ⟨k, j, a1, cap1, hkj, hj, rfl, hT1, hne1, ⟨R1, hR1, hRs1, hk1⟩, tab1, but1⟩ := hrel
        have hle1 := hT1.le
        have hmx1 := hT1.max
        have HT1 := hid hT1
        have Htab1 := hid tab1
        have Hne1 := hid hne1
        have Hk1 := hid hk1
        have Hbut1 := hid but1
        clear hT1 tab1 hne1 hk1 but1
        by_cases hge : 64 ≤ len - j
        · have hs1 : ∀ W : World, (Instr.slice 67 (.slice a1 (len - j) cap1) none (some (.int .i64 64)) none).run Tryd.prog W = .ok (.slice a1 64 cap1) W := fun W => run_cut_h Tryd.underlying67 size_byte8 a1 (len - j) cap1 64 W (by omega) (by omega)
          have hs2 : ∀ W : World, (Instr.slice 67 (.slice a1 (len - j) cap1) (some (.int .i64 64)) none none).run Tryd.prog W = .ok (.slice (cutA a1 64 cap1) (len - j - 64) (cap1 - 64)) W := fun W => run_cut_l Tryd.underlying67 size_byte8 a1 (len - j) cap1 64 W (by omega) (by omega)
          go_wp2_with fail
          refine wp_region_flow 5 [0, 1, 2, 3, 4] [] [] (by kernel_rfl) (by kernel_rfl) ?_
          apply Exists.intro
          refine ⟨fun w0 hb0 hF0 => ?_, ?_⟩
          · simp only [pick, List.getElem?_toArray, List.getElem?_cons_succ, List.getElem?_cons_zero, Option.toList_some, List.cons_append, List.nil_append]
            repeat (go_big_quiet_step (fail))
            exact wpQuiet_nil rfl
          refine AlChk.nil ?_
          refine Walk.fin fun w3 h3 _ _ => ?_
          simp only [List.drop_succ_cons, List.drop_zero]
          go_wp2_with fail
          refine (process_any ph T _ (R1.map (Value.int .u8) ++ [.int .u64 ((bs.length + len : Nat) : Int)]) a1 cap1 ((t.drop j).take 64) w3 (Ok.run Ok.start _ _) (Hk1.out.below h3) ((HT1.out.to 64 hge).below h3) (Htab1.out.below h3) hp1).mono ?_
          rintro e w4 ⟨rfl, b4, k4⟩
          rw [← natB_drop_take bs t k j hkj] at k4
          have k4' : Blk w4 ph (hashCells (Sha.run Sha.start (natB (bs ++ t)) (k + 1)) R1 (bs.length + len)).toArray T := k4
          have Hinv2 : Hid (AddInv ph T bs t len w (.slice (cutA a1 64 cap1) (len - j - 64) (cap1 - 64)) w4) := hid (by
            refine ⟨k + 1, j + 64, cutA a1 64 cap1, cap1 - 64, by omega, by omega, ?_, ?_, fun _ => cutA_ne (Hne1.out (by omega)), ⟨R1, hR1, hRs1, k4'⟩, (Htab1.out.below h3).but b4 hp1 hp0, (Hbut1.out.ext h3).trans b4⟩
            · rw [Nat.sub_sub]
            · have := ((HT1.out.below h3).but b4 Hne1.out).from 64 hge
              rwa [Nat.sub_sub, List.drop_drop] at this)
          clear k4 k4' b4 h3
          go_wp2_with fail
          exact ⟨Hinv2.out, by simp only [sliceLen]; omega⟩
        · have Hdone : Hid (HashAt (wr.setCells ph 8 (((t.drop j).take (len - j)).map (Value.int .u8))) ph T (bs ++ t) ∧ But ph w (wr.setCells ph 8 (((t.drop j).take (len - j)).map (Value.int .u8)))) := hid (by
            have hl : (t.drop j).length = len - j := HT1.out.length
            have htl : t.length = len := HT.out.length
            have et : (t.drop j).take (len - j) = t.drop j := List.take_of_length_le (by omega)
            rw [et]
            refine ⟨⟨?_, splice R1 0 (t.drop j), ?_, splice_small hRs1 HT1.out.small, ?_, ?_⟩, But.setCells _ _ _ Hbut1.out⟩
            · intro x hx
              rcases List.mem_append.1 hx with h | h
              · exact hbs x h
              · exact HT.out.small x h
            · rw [length_splice _ _ _ (by omega)]; exact hR1
            · rw [List.length_append, show (bs.length + t.length) % 64 = len - j by omega, show 64 * ((bs.length + t.length) / 64) = bs.length + j by omega, ← List.drop_drop, List.drop_left]
              unfold splice
              rw [List.take_zero, List.nil_append, ← hl, List.take_left]
            · rw [List.length_append, show (bs.length + t.length) / 64 = k by omega, htl]
              exact Hk1.out.hash_put hR1 0 (t.drop j) (by omega))
          have hsz := hashCells_size (Sha.run Sha.start (natB (bs ++ t)) k) R1 (bs.length + len) hR1
          have Hn0 : Hid (len - j = Nat.min (len - j) 64) := hid (show len - j = min (len - j) 64 by omega)
          go_wp2_with (with_reducible refine wpList_copy_text rfl _ _ _ _ rfl 5 Tryd.underlying67 size_byte8 ph 8 64 64 rfl a1 (len - j) cap1 rfl _ T Hk1.out _ HT1.out (by omega) (len - j) Hn0.out ?_)
          go_returns
          have hd := Hdone.out
          simp only [List.map_take, List.map_drop] at hd
          exact ⟨rfl, hd.2, hd.1⟩
end Go.Proofs.YthaicocfbmpnmaaDoor
namespace Go.Proofs.YthaicocfbmpnmaaDoor
set_option maxRecDepth 100000
open Go.RowKit
theorem nbe_succ : ∀ (k n : Nat), Sha.nbe (k + 1) n = (n / 256 ^ k % 256) :: Sha.nbe k n
  | 0, n => by simp [Sha.nbe]
  | k + 1, n => by
    rw [Sha.nbe, nbe_succ k (n / 256), Nat.div_div_eq_div_mul, show 256 * 256 ^ k = 256 ^ (k + 1) by rw [Nat.pow_succ, Nat.mul_comm]]
    rfl
theorem nbe_length : ∀ (k n : Nat), (Sha.nbe k n).length = k
  | 0, _ => rfl
  | k + 1, n => by rw [nbe_succ, List.length_cons, nbe_length k n]
theorem nbe_lt : ∀ (k n : Nat), ∀ x ∈ Sha.nbe k n, x < 256
  | 0, _, x, hx => by simp [Sha.nbe] at hx
  | k + 1, n, x, hx => by
    rw [nbe_succ, List.mem_cons] at hx
    rcases hx with rfl | hx
    · exact Nat.mod_lt _ (by decide)
    · exact nbe_lt k n x hx
def toZ (l : List Nat) : List Int := l.map (fun n : Nat => (n : Int))
theorem natB_toZ : ∀ l : List Nat, natB (toZ l) = l
  | [] => rfl
  | n :: l => by
    have := natB_toZ l
    unfold natB toZ at *
    rw [List.map_cons, List.map_cons, this]
    rfl
theorem toZ_small {l : List Nat} (h : ∀ x ∈ l, x < 256) : ∀ x ∈ toZ l, 0 ≤ x ∧ x < 256 := by
  intro x hx
  obtain ⟨y, hy, rfl⟩ := List.mem_map.1 hx
  have := h y hy
  omega
theorem sum_short (bs : List Nat) (k m : Nat) (hl : bs.length = 64 * k + m) (hm : m ≤ 55) :
    Sha.sum bs = Sha.out (Sha.compress (Sha.run Sha.start bs k) (bs.drop (64 * k) ++ 128 :: (List.replicate (55 - m) 0 ++ Sha.nbe 8 (8 * bs.length)))) := by
  have hz : Sha.zerosFor bs.length = 55 - m := by unfold Sha.zerosFor; omega
  have hp : Sha.pad bs = bs ++ 128 :: (List.replicate (55 - m) 0 ++ Sha.nbe 8 (8 * bs.length)) := by rw [Sha.pad, hz]
  have hlen : (Sha.pad bs).length / 64 = k + 1 := by
    rw [hp]
    simp only [List.length_append, List.length_cons, List.length_replicate, nbe_length]
    omega
  unfold Sha.sum
  rw [hlen, Sha.run, hp, run_append _ _ _ _ (by omega), List.drop_append_of_le_length (by omega), List.take_of_length_le]
  simp only [List.length_append, List.length_cons, List.length_replicate, nbe_length, List.length_drop]
  omega
theorem sum_long (bs : List Nat) (k m : Nat) (hl : bs.length = 64 * k + m) (hm : 55 < m) (hm2 : m < 64) :
    Sha.sum bs = Sha.out (Sha.compress (Sha.compress (Sha.run Sha.start bs k) (bs.drop (64 * k) ++ 128 :: List.replicate (63 - m) 0)) (List.replicate 56 0 ++ Sha.nbe 8 (8 * bs.length))) := by
  have hz : Sha.zerosFor bs.length = (63 - m) + 56 := by unfold Sha.zerosFor; omega
  have hp : Sha.pad bs = (bs ++ 128 :: List.replicate (63 - m) 0) ++ (List.replicate 56 0 ++ Sha.nbe 8 (8 * bs.length)) := by
    rw [Sha.pad, hz, ← List.replicate_append_replicate]
    simp only [List.append_assoc, List.cons_append]
  have hlen : (Sha.pad bs).length / 64 = k + 2 := by
    rw [hp]
    simp only [List.length_append, List.length_cons, List.length_replicate, nbe_length]
    omega
  have hl2 : (bs ++ 128 :: List.replicate (63 - m) 0).length = 64 * (k + 1) := by
    simp only [List.length_append, List.length_cons, List.length_replicate]
    omega
  unfold Sha.sum
  rw [hlen, Sha.run, hp, run_append _ _ _ _ (by omega), ← hl2, List.drop_left, List.take_of_length_le (by simp [nbe_length])]
  congr 2
  rw [Sha.run, run_append _ _ _ _ (by omega), List.drop_append_of_le_length (by omega), List.take_of_length_le]
  simp only [List.length_append, List.length_cons, List.length_replicate, List.length_drop]
  omega
/-- the sum of bytes -/
@[irreducible] def sumZ (bs : List Int) : List Int := toZ (Sha.sum (natB bs))
theorem out_length (s : Sha.St) : (Sha.out s).length = 32 := by simp [Sha.out, nbe_length]
theorem out_lt (s : Sha.St) : ∀ x ∈ Sha.out s, x < 256 := by
  intro x hx
  simp only [Sha.out, List.mem_append] at hx
  rcases hx with ((((((h | h) | h) | h) | h) | h) | h) | h <;> exact nbe_lt _ _ x h
theorem sumZ_length (bs : List Int) : (sumZ bs).length = 32 := by simp [sumZ, toZ, Sha.sum, out_length]
theorem sumZ_small (bs : List Int) : ∀ x ∈ sumZ bs, 0 ≤ x ∧ x < 256 := by unfold sumZ; exact toZ_small (out_lt _)
/-- the words of a state -/
def words (s : Sha.St) : List Nat := [s.a, s.b, s.c, s.d, s.e, s.f, s.g, s.h]
theorem out_words (s : Sha.St) : Sha.out s = (words s).flatMap (Sha.nbe 4) := by
  simp [Sha.out, words]
/-- bytes, then 0 -/
def byteCells (n : Nat) (bs : List Int) : Array Value := (bs.map (Value.int .u8) ++ List.replicate (n - bs.length) (Value.int .u8 0)).toArray
theorem byteCells_set (n : Nat) (bs : List Int) (x : Int) (h : bs.length < n) : (byteCells n bs).setIfInBounds bs.length (.int .u8 x) = byteCells n (bs ++ [x]) := by
  unfold byteCells
  rw [List.setIfInBounds_toArray, List.set_append_right _ _ (by simp)]
  simp only [List.length_map, Nat.sub_self, List.map_append, List.map_cons, List.map_nil, List.length_append, List.length_cons, List.length_nil, List.append_assoc, List.singleton_append]
  congr 2
  obtain ⟨m, hm⟩ : ∃ m, n - bs.length = m + 1 := ⟨n - bs.length - 1, by omega⟩
  rw [hm, show n - (bs.length + (0 + 1)) = m by omega, List.replicate_succ, List.set_cons_zero]
theorem byteCells_size (n : Nat) (bs : List Int) (h : bs.length ≤ n) : (byteCells n bs).size = n := by simp [byteCells]; omega
theorem byteCells_full (n : Nat) (bs : List Int) (h : bs.length = n) : byteCells n bs = (bs.map (Value.int .u8)).toArray := by simp [byteCells, h]
end Go.Proofs.YthaicocfbmpnmaaDoor
namespace Go.Proofs.YthaicocfbmpnmaaDoor
set_option maxRecDepth 100000
open Go.ChangeShapes Go.WideShapes Go.ChangeAt Go.RowKit
end Go.Proofs.YthaicocfbmpnmaaDoor
namespace Go.Proofs.YthaicocfbmpnmaaDoor
set_option maxRecDepth 100000
open Go.ChangeShapes Go.WideShapes Go.ChangeAt Go.RowKit
theorem wpList_clear_hash {P : Program} {ops : Array Oper} {rest : List Oper} {op : Oper} {act : Act} {w : World} {Q : Exit → Act → World → Prop} (hgd : op.guard = none) (s : Operand) (t : TypeId)
    (ho : op.op = .call { callee := .builtin .clear, args := #[s], argTypes := #[t] }) (e : TypeId) (ht : P.underlying t = some (.slice e)) (hv : ∀ w, (zeroValue e).run P w = .ok (.int .u8 0) w)
    (ph o n c : Nat) (d : Option Addr) (hse : act.eval s = .slice d n c) (hd : 0 < n → d = some ⟨ph, 8 + o, none⟩) (st : Sha.St) (R : List Int) (N : Nat) (T : TypeId) (hk : Blk w ph (hashCells st R N).toArray T) (hR : R.length = 64) (hfit : o + n ≤ 64)
    (h : ∀ w', Hid (But ph w w') → Hid (Blk w' ph (hashCells st (splice R o (List.replicate n 0)) N).toArray T) → wpList P ops Q rest (act.put op.dst (.tuple #[])) w') : wpList P ops Q (op :: rest) act w := by
  have hs := hashCells_size st R N hR
  refine wpList_clear_blk hgd s t ho e ht hv ph (8 + o) n c d hse hd _ T hk (by omega) (h _ (But.setCells _ _ _ (But.of (Below.refl _ _))) ?_)
  have := hk.hash_put hR o (List.replicate n 0) (by simpa using hfit)
  rwa [List.map_replicate] at this
theorem splice_one (A B : List Int) (x y : Int) : splice (A ++ x :: B) A.length [y] = A ++ y :: B := by
  unfold splice
  rw [List.take_left, List.length_singleton, List.singleton_append, ← List.drop_drop, List.drop_left]
  rfl
theorem put_byte (R : List Int) (hR : R.length = 64) (N j : Nat) (hj : j < 8) (v : Int) (hv : v = ((N / 256 ^ j % 256 : Nat) : Int)) : splice (R.take (64 - j) ++ toZ (Sha.nbe j N)) (63 - j) [v] = R.take (63 - j) ++ toZ (Sha.nbe (j + 1) N) := by
  have h1 : R.take (64 - j) = R.take (63 - j) ++ [R.getD (63 - j) 0] := by
    rw [show 64 - j = 63 - j + 1 by omega, List.take_succ_eq_append_getElem (by omega), List.getD_eq_getElem?_getD, List.getElem?_eq_getElem (by omega)]
    rfl
  have h2 : (R.take (63 - j)).length = 63 - j := by rw [List.length_take]; omega
  have := splice_one (R.take (63 - j)) (toZ (Sha.nbe j N)) (R.getD (63 - j) 0) v
  rw [h2] at this
  rw [h1, List.append_assoc, List.singleton_append, this, nbe_succ, hv]
  rfl
theorem size_digest : (Tryd.prog.info? 23).map (·.size) = some 32 := by kernel_rfl
theorem flat_len : ∀ l : List Nat, (l.flatMap (Sha.nbe 4)).length = 4 * l.length
  | [] => rfl
  | a :: l => by rw [List.flatMap_cons, List.length_append, flat_len l, nbe_length, List.length_cons]; omega
theorem words_lt {s : Sha.St} (h : Ok s) (i : Nat) : (words s).getD i 0 < 4294967296 := by
  obtain ⟨a, b, c, d, e, f, g, hh⟩ := h
  unfold words
  match i with
  | 0 => exact a
  | 1 => exact b
  | 2 => exact c
  | 3 => exact d
  | 4 => exact e
  | 5 => exact f
  | 6 => exact g
  | 7 => exact hh
  | n + 8 => simp
theorem byteCells_zero (n : Nat) (bs : List Int) (j : Nat) (h0 : bs.length ≤ j) (h : j < n) : (byteCells n bs)[j]? = some (.int .u8 0) := by
  unfold byteCells
  rw [List.getElem?_toArray, List.getElem?_append_right (by simpa using h0), List.getElem?_replicate, if_pos (by simp; omega)]
theorem put_four {w : World} {b i : Nat} {T : TypeId} {L : List Int} (h : Blk w b (byteCells 32 L) T) (hl : L.length = 4 * i) (hi : i < 8) (X : Nat) (hX : X < 4294967296) :
    Blk ((((w.setCell ⟨b, 4 * i, none⟩ (.int .u8 ((X : Int) / 16777216))).setCell ⟨b, 4 * i + 1, none⟩ (.int .u8 ((X : Int) / 65536 % 256))).setCell ⟨b, 4 * i + 2, none⟩ (.int .u8 ((X : Int) / 256 % 256))).setCell ⟨b, 4 * i + 3, none⟩ (.int .u8 ((X : Int) % 256))) b (byteCells 32 (L ++ toZ (Sha.nbe 4 X))) T := by
  have h0 := h.set (4 * i) (.int .u8 ((X : Int) / 16777216))
  rw [← hl, byteCells_set 32 L _ (by omega)] at h0
  have h1 := h0.set (4 * i + 1) (.int .u8 ((X : Int) / 65536 % 256))
  rw [show 4 * i + 1 = (L ++ [(X : Int) / 16777216]).length by simp [hl], byteCells_set 32 _ _ (by simp; omega)] at h1
  have h2 := h1.set (4 * i + 2) (.int .u8 ((X : Int) / 256 % 256))
  rw [show 4 * i + 2 = (L ++ [(X : Int) / 16777216] ++ [(X : Int) / 65536 % 256]).length by simp [hl], byteCells_set 32 _ _ (by simp; omega)] at h2
  have h3 := h2.set (4 * i + 3) (.int .u8 ((X : Int) % 256))
  rw [show 4 * i + 3 = (L ++ [(X : Int) / 16777216] ++ [(X : Int) / 65536 % 256] ++ [(X : Int) / 256 % 256]).length by simp [hl], byteCells_set 32 _ _ (by simp; omega)] at h3
  have e : L ++ toZ (Sha.nbe 4 X) = L ++ [(X : Int) / 16777216] ++ [(X : Int) / 65536 % 256] ++ [(X : Int) / 256 % 256] ++ [(X : Int) % 256] := by
    simp only [Sha.nbe, toZ, List.nil_append, List.cons_append, List.map_cons, List.map_nil, List.append_assoc]
    have e0 : (((X / 256 / 256 / 256 % 256 : Nat)) : Int) = (X : Int) / 16777216 := by omega
    have e1 : (((X / 256 / 256 % 256 : Nat)) : Int) = (X : Int) / 65536 % 256 := by omega
    have e2 : (((X / 256 % 256 : Nat)) : Int) = (X : Int) / 256 % 256 := by omega
    have e3 : (((X % 256 : Nat)) : Int) = (X : Int) % 256 := by omega
    rw [e0, e1, e2, e3]
  rw [e]
  simp only [List.length_append, List.length_cons, List.length_nil, hl] at h3
  exact h3
theorem But.fresh {b c : Nat} {w w' w'' : World} (h : But b w w') (h2 : But c w' w'') (hc : w.heap.size ≤ c) : But b w w'' :=
  ⟨h2.os.trans h.os, h2.tape.trans h.tape, h2.output.trans h.output, Nat.le_trans h.size h2.size, fun k hk hne => (h2.block k (Nat.lt_of_lt_of_le hk h.size) (by omega)).trans (h.block k hk hne)⟩
/-- the hash while it is finished -/
structure FinW (ph : Nat) (T : TypeId) (w : World) (st : Sha.St) (R : List Int) (N : Nat) (wr : World) : Prop where
  hash : Blk wr ph (hashCells st R N).toArray T
  res : Blk wr w.heap.size (byteCells 32 []) 23
  tab : ShaTab wr
  but : But ph w wr
theorem FinW.next {ph : Nat} {T : TypeId} {w : World} {st st' : Sha.St} {R R' : List Int} {N : Nat} {wr wr' : World} (h : FinW ph T w st R N wr) (hb : But ph wr wr') (hk : Blk wr' ph (hashCells st' R' N).toArray T) (hne : ph < w.heap.size) (hp1 : ph ≠ 1) (hp0 : ph ≠ 0) : FinW ph T w st' R' N wr' :=
  ⟨hk, hb.blk h.res (by omega), h.tab.but hb hp1 hp0, h.but.trans hb⟩
theorem FinW.below {ph : Nat} {T : TypeId} {w : World} {st : Sha.St} {R : List Int} {N : Nat} {wr wr' : World} (h : FinW ph T w st R N wr) (hb : Below wr.heap.size wr wr') : FinW ph T w st R N wr' :=
  ⟨h.hash.below hb, h.res.below hb, h.tab.below hb, h.but.ext hb⟩
set_option maxHeartbeats 8000000 in
theorem finish_any (ph : Nat) (T : TypeId) (bs : List Int) (w : World) (hH : HashAt w ph T bs) (hbnd : bs.length < 1152921504606846976) (tab : ShaTab w) (hp1 : ph ≠ 1) (hp0 : ph ≠ 0) :
    Calls Tryd.prog 75 #[.pointer (some ⟨ph, 0, none⟩)] w fun e w' => e = .returned (.agg ((sumZ bs).map (Value.int .u8)).toArray) ∧ But ph w w' := by
  obtain ⟨hbs, R, hR, hRs, hRt, hk⟩ := hH
  have hlt := hk.lt
  obtain ⟨m, hm⟩ : ∃ m : Nat, (bs.length : Int) % 64 = m := ⟨bs.length % 64, by omega⟩
  have hm64 : m < 64 := by omega
  have qS : w.cell? ⟨ph, 72, none⟩ = some (.int .u64 (bs.length : Nat)) := (hk.cell 72).trans (hashCells_len _ _ _ hR)
  have qm : w.cell? ⟨ph, 8 + m, none⟩ = some (.int .u8 (R.getD m 0)) := (hk.cell (8 + m)).trans (hashCells_rest _ _ _ _ hR hm64)
  have f1 := hk.free
  have HF1 : Hid (FinW ph T w (Sha.run Sha.start (natB bs) (bs.length / 64)) (splice R m [128]) bs.length ((w.setCell ⟨ph, 8 + m, none⟩ (.int .u8 128)).alloc (.cells #[.int .u8 0, .int .u8 0, .int .u8 0, .int .u8 0, .int .u8 0, .int .u8 0, .int .u8 0, .int .u8 0, .int .u8 0, .int .u8 0, .int .u8 0, .int .u8 0, .int .u8 0, .int .u8 0, .int .u8 0, .int .u8 0, .int .u8 0, .int .u8 0, .int .u8 0, .int .u8 0, .int .u8 0, .int .u8 0, .int .u8 0, .int .u8 0, .int .u8 0, .int .u8 0, .int .u8 0, .int .u8 0, .int .u8 0, .int .u8 0, .int .u8 0, .int .u8 0] 23))) := hid (by
    have hw := hk.hash_put hR m [128] (by simp; omega)
    have but1 := (But.of (b := ph) (Below.refl w.heap.size w)).set (p := ⟨ph, 8 + m, none⟩) (.inl rfl) (.int .u8 128)
    refine ⟨Blk.old hw _, Blk.new ?_ (byteCells 32 []) _, (tab.but but1 hp1 hp0).below ((Below.refl _ _).alloc (Nat.le_refl _) _), but1.ext ((Below.refl _ _).alloc (Nat.le_refl _) _)⟩
    simp [World.setCell])
  have HRt := hid hRt
  have Hbl : Hid (bs.length = 64 * (bs.length / 64) + m) := hid (by omega)
  obtain ⟨d, hd, hsl⟩ : ∃ d : Option Addr, (0 < 63 - m → d = some ⟨ph, 8 + (m + 1), none⟩) ∧ ∀ W : World, (Instr.sliceAt 107 (.pointer (some ⟨ph, 8, none⟩)) (some (.int .i64 ((m : Int) + 1))) none none).run Tryd.prog W = .ok (.slice d (63 - m) (63 - m)) W := by
    refine ⟨some (if 64 = m + 1 then ⟨ph, 8, none⟩ else ⟨ph, 8 + (m + 1), none⟩), fun h => by rw [if_neg (by omega)], fun W => ?_⟩
    have hal : Tryd.prog.arrayLen 107 = 64 := by kernel_rfl
    rw [run_sliceAt_array_l W 107 ⟨ph, 8, none⟩ (by kernel_rfl) .i64 ((m : Int) + 1) (by omega) (by rw [hal]; omega), hal]
    have hsi : (sizeOf (Tryd.prog.elem 107)).run Tryd.prog W = .ok 1 W := by kernel_rfl
    rw [hsi, Result.andThen_ok]
    unfold slicedAt
    rw [show ((m : Int) + 1).toNat = m + 1 by omega, Nat.mul_one, Addr.add_mid, show 64 - (m + 1) = 63 - m by omega]
  have Hd := hid hd
  have hsa : ∀ W : World, (Instr.sliceAt 107 (.pointer (some ⟨ph, 8, none⟩)) none none none).run Tryd.prog W = .ok (.slice (some ⟨ph, 8, none⟩) 64 64) W := fun W => by
    have hal : Tryd.prog.arrayLen 107 = 64 := by kernel_rfl
    rw [run_sliceAt_array_all W 107 ⟨ph, 8, none⟩ (by kernel_rfl), hal]
    have hsi : (sizeOf (Tryd.prog.elem 107)).run Tryd.prog W = .ok 1 W := by kernel_rfl
    rw [hsi, Result.andThen_ok]
    rfl
  have hz : ∀ W, (zeroValue 5).run Tryd.prog W = .ok (.int .u8 0) W := fun W => by kernel_rfl
  have Hz : Hid (∀ W, (zeroValue 5).run Tryd.prog W = .ok (.int .u8 0) W) := hid hz
  have hR1 : (splice R m [128]).length = 64 := by rw [length_splice _ _ _ (by simp; omega)]; exact hR
  obtain ⟨R2, hR2d⟩ : ∃ R2, R2 = splice (splice R m [128]) (m + 1) (List.replicate (63 - m) 0) := ⟨_, rfl⟩
  have hR2e : R2 = bs.drop (64 * (bs.length / 64)) ++ 128 :: List.replicate (63 - m) 0 := by
    have h2 : (R.take m).length = m := by rw [List.length_take]; omega
    have h1 : splice R m [128] = R.take m ++ 128 :: R.drop (m + 1) := by simp [splice]
    have h3 : (R.take m ++ [(128 : Int)]).length = m + 1 := by simp [h2]
    have h4 : splice R m [128] = (R.take m ++ [128]) ++ R.drop (m + 1) := by rw [h1]; simp
    rw [hR2d, h4, ← hRt, show bs.length % 64 = m by omega]
    unfold splice
    rw [← h3, List.take_left, ← List.drop_drop, List.drop_left, List.drop_drop, h3, List.drop_eq_nil_of_le (by simp; omega)]
    simp
  have hR2 : R2.length = 64 := by rw [hR2d, length_splice _ _ _ (by simp; omega)]; exact hR1
  have hR2s : ∀ x ∈ R2, 0 ≤ x ∧ x < 256 := by
    rw [hR2d]
    refine splice_small (splice_small hRs ?_) ?_
    · intro x hx; simp at hx; omega
    · intro x hx; have := List.eq_of_mem_replicate hx; omega
  have HR2e := hid hR2e
  clear hk tab hRt hd hz hR2e
  have hR2d' := hid hR2d
  clear hR2d
  by_cases hm55 : m ≤ 55
  · go_enter Tryd.func75, Tryd.ntmps75
    go_wp2_with (with_reducible refine wpList_clear_hash rfl _ 67 rfl 5 Tryd.underlying67 Hz.out ph (m + 1) (63 - m) (63 - m) d rfl Hd.out _ _ _ T HF1.out.hash hR1 (by omega) ?_; intro w2 HB2 HK2)
    rw [← hR2d'.out] at HK2
    have HF3 : Hid (FinW ph T w (Sha.run Sha.start (natB bs) (bs.length / 64)) R2 bs.length w2) := hid (HF1.out.next HB2.out HK2.out hlt hp1 hp0)
    have Hsum : Hid (sumZ bs = toZ (Sha.out (Sha.compress (Sha.run Sha.start (natB bs) (bs.length / 64)) (natB (R2.take 56 ++ toZ (Sha.nbe 8 (8 * bs.length))))))) := hid (by
      have hnl : (natB bs).length = bs.length := by simp [natB]
      have hb := Hbl.out
      unfold sumZ
      rw [sum_short (natB bs) (bs.length / 64) m (by rw [hnl]; exact hb) hm55, hnl]
      congr 3
      have e1 : R2.take 56 = bs.drop (64 * (bs.length / 64)) ++ 128 :: List.replicate (55 - m) 0 := by
        have hd : (bs.drop (64 * (bs.length / 64))).length = m := by rw [List.length_drop]; omega
        rw [HR2e.out, List.take_append, List.take_of_length_le (by omega), hd, show 56 - m = (55 - m) + 1 by omega, List.take_succ_cons, List.take_replicate, Nat.min_eq_left (by omega)]
      have e2 : natB (toZ (Sha.nbe 8 (8 * bs.length))) = Sha.nbe 8 (8 * bs.length) := natB_toZ _
      unfold natB at *
      rw [List.map_append, e2, e1, List.map_append, List.map_drop, List.map_cons, List.map_replicate]
      simp)
    clear HB2 HK2 HF1 HR2e
    go_loopw [46] (fun v wr => ∃ j : Nat, j ≤ 8 ∧ v = .int .i64 j ∧ FinW ph T w (Sha.run Sha.start (natB bs) (bs.length / 64)) (R2.take (64 - j) ++ toZ (Sha.nbe j (8 * bs.length))) bs.length wr) (fun v _ => 8 - (intOf v).toNat)
    case atStart =>
      refine ⟨0, by omega, rfl, ?_⟩
      rw [List.take_of_length_le (show R2.length ≤ 64 - 0 by omega), show toZ (Sha.nbe 0 (8 * bs.length)) = [] from rfl, List.append_nil]
      exact HF3.out
    case round =>
      obtain ⟨j, hj, rfl, hF⟩ := hrel
      by_cases hlt8 : j < 8
      · have hRj : (R2.take (64 - j) ++ toZ (Sha.nbe j (8 * bs.length))).length = 64 := by
          rw [List.length_append, List.length_take, toZ, List.length_map, nbe_length]; omega
        have q := (hF.hash.cell (8 + (63 - j))).trans (hashCells_rest _ _ _ (63 - j) hRj (by omega))
        have f1 := hF.hash.free
        have hlt2 := hF.hash.lt
        have HF := hid hF
        have e1 : ((63 : Int) - (j : Int)).toNat = 63 - j := by omega
        have e2 : ((8 : Int) * (j : Int)).toNat = 8 * j := by omega
        generalize (R2.take (64 - j) ++ toZ (Sha.nbe j (8 * bs.length))).getD (63 - j) 0 = old at q
        clear hF
        go_wp2_with fail
        refine wp_region_flow 11 [0, 1, 2, 3, 4, 5, 6, 7, 8, 9, 10] [] [] (by kernel_rfl) (by kernel_rfl) ?_
        apply Exists.intro
        refine ⟨fun w0 hb0 hF0 => ?_, ?_⟩
        · simp only [pick, List.getElem?_toArray, List.getElem?_cons_succ, List.getElem?_cons_zero, Option.toList_some, List.cons_append, List.nil_append]
          repeat (go_big_quiet_step (fail))
          exact wpQuiet_nil rfl
        refine AlChk.nil ?_
        refine Walk.fin fun w3 h3 _ _ => ?_
        simp only [List.drop_succ_cons, List.drop_zero]
        have HF3' := hid (HF.out.below h3)
        have q3 := (h3.cell (p := ⟨ph, 8 + (63 - j), none⟩) hlt2).trans q
        have f3 := HF3'.out.hash.free
        clear q f1 h3 HF
        go_wp2_with fail
        have hv : ((bs.length : Int) * 8 / 2 ^ (8 * j) % 256) = ((8 * bs.length / 256 ^ j % 256 : Nat) : Int) := by
          have hp : (2 : Int) ^ (8 * j) = ((256 ^ j : Nat) : Int) := by
            rw [show 256 ^ j = 2 ^ (8 * j) by rw [Nat.pow_mul], Int.natCast_pow]
            rfl
          rw [hp, Int.natCast_emod, Int.natCast_ediv, Int.natCast_mul, Int.mul_comm]
          rfl
        refine ⟨⟨j + 1, by omega, by go_num, HF3'.out.next ((But.of (Below.refl _ _)).set (p := ⟨ph, 8 + (63 - j), none⟩) (.inl rfl) _) ?_ hlt hp1 hp0⟩, by simp [intOf]; omega⟩
        have hk9 := HF3'.out.hash.hash_put hRj (63 - j) [((bs.length : Int) * 8 / 2 ^ (8 * j) % 256)] (by rw [List.length_singleton]; omega)
        rw [put_byte R2 hR2 _ j hlt8 _ hv] at hk9
        rw [show 64 - (j + 1) = 63 - j by omega]
        exact hk9
      · have h8 : j = 8 := by omega
        have hF8 : FinW ph T w (Sha.run Sha.start (natB bs) (bs.length / 64)) (R2.take 56 ++ toZ (Sha.nbe 8 (8 * bs.length))) bs.length wr := by
          rw [h8] at hF; exact hF
        have HF8 := hid hF8
        have hR8 : (R2.take 56 ++ toZ (Sha.nbe 8 (8 * bs.length))).length = 64 := by
          rw [List.length_append, List.length_take, toZ, List.length_map, nbe_length]; omega
        have hR8s : ∀ x ∈ R2.take 56 ++ toZ (Sha.nbe 8 (8 * bs.length)), 0 ≤ x ∧ x < 256 := fun x hx => by
          rcases List.mem_append.1 hx with h | h
          · exact hR2s x (List.mem_of_mem_take h)
          · exact toZ_small (nbe_lt _ _) x h
        generalize hR9 : R2.take 56 ++ toZ (Sha.nbe 8 (8 * bs.length)) = R9 at *
        have H8 := hid h8
        clear hF hF8 h8
        go_wp2_with fail
        refine wp_region_flow 7 [0, 1, 2, 3, 4, 5, 6] [] [] (by kernel_rfl) (by kernel_rfl) ?_
        apply Exists.intro
        refine ⟨fun w0 hb0 hF0 => ?_, ?_⟩
        · simp only [pick, List.getElem?_toArray, List.getElem?_cons_succ, List.getElem?_cons_zero, Option.toList_some, List.cons_append, List.nil_append]
          repeat (go_big_quiet_step (fail))
          exact wpQuiet_nil rfl
        refine AlChk.nil ?_
        refine Walk.fin fun w3 h3 _ _ => ?_
        simp only [List.drop_succ_cons, List.drop_zero]
        have HF9 := HF8.out.below h3
        have hk4 := HF9.hash
        go_wp2_with fail
        refine (process_any ph T _ (R9.map (Value.int .u8) ++ [.int .u64 (bs.length : Nat)]) (some ⟨ph, 8, none⟩) 64 R9 w3 (Ok.run Ok.start _ _) hk4 (hk4.hash_rest hR8 hR8s) HF9.tab hp1).mono ?_
        rintro e w4 ⟨rfl, b4, k4⟩
        have hFA := HF9.next b4 (st' := Sha.compress (Sha.run Sha.start (natB bs) (bs.length / 64)) (natB R9)) (R' := R9) k4 hlt hp1 hp0
        have okA : Ok (Sha.compress (Sha.run Sha.start (natB bs) (bs.length / 64)) (natB R9)) := Ok.compress _ _
        generalize Sha.compress (Sha.run Sha.start (natB bs) (bs.length / 64)) (natB R9) = sf at *
        have HFA := hid hFA
        have g0 : w4.cell? ⟨ph, 0, none⟩ = some (.int .u32 sf.a) := (hFA.hash.cell 0).trans rfl
        have g1 : w4.cell? ⟨ph, 1, none⟩ = some (.int .u32 sf.b) := (hFA.hash.cell 1).trans rfl
        have g2 : w4.cell? ⟨ph, 2, none⟩ = some (.int .u32 sf.c) := (hFA.hash.cell 2).trans rfl
        have g3 : w4.cell? ⟨ph, 3, none⟩ = some (.int .u32 sf.d) := (hFA.hash.cell 3).trans rfl
        have g4 : w4.cell? ⟨ph, 4, none⟩ = some (.int .u32 sf.e) := (hFA.hash.cell 4).trans rfl
        have g5 : w4.cell? ⟨ph, 5, none⟩ = some (.int .u32 sf.f) := (hFA.hash.cell 5).trans rfl
        have g6 : w4.cell? ⟨ph, 6, none⟩ = some (.int .u32 sf.g) := (hFA.hash.cell 6).trans rfl
        have g7 : w4.cell? ⟨ph, 7, none⟩ = some (.int .u32 sf.h) := (hFA.hash.cell 7).trans rfl
        have hlt4 := hFA.hash.lt
        have hres4 := hFA.res.lt
        have kd := Blk.new (w := w4) rfl (byteCells 32 []) 23
        have Hkd := hid kd
        clear hk4 HF9 b4 k4 h3 hFA kd
        go_wp2_with fail
        clear g0 g1 g2 g3 g4 g5 g6 g7
        go_loopw [73] (fun v wq => ∃ i : Nat, i ≤ 8 ∧ v = .int .i64 i ∧ Blk wq w4.heap.size (byteCells 32 (toZ (((words sf).take i).flatMap (Sha.nbe 4)))) 23 ∧ Below w4.heap.size w4 wq) (fun v _ => 8 - (intOf v).toNat)
        case atStart => exact ⟨0, by omega, rfl, Hkd.out, (Below.refl _ _).alloc (Nat.le_refl _) _⟩
        case round =>
          obtain ⟨i, hi, rfl, kr, br⟩ := hrel
          by_cases hlti : i < 8
          · have hix : ∀ W, (Instr.index 106 (.agg #[.int .u32 sf.a, .int .u32 sf.b, .int .u32 sf.c, .int .u32 sf.d, .int .u32 sf.e, .int .u32 sf.f, .int .u32 sf.g, .int .u32 sf.h]) (.int .i64 i)).run Tryd.prog W = .ok (.int .u32 ((toZ (words sf)).getD i 0)) W := fun W => run_index_ints (P := Tryd.prog) (e := 105) (n := 8) (by kernel_rfl) (by kernel_rfl) rfl rfl (toZ (words sf)) rfl i hlti W
            have hx : (toZ (words sf)).getD i 0 = (((words sf).getD i 0 : Nat) : Int) := by
              have : i < (words sf).length := hlti
              simp [toZ, this]
            have hxl : (words sf).getD i 0 < 4294967296 := words_lt okA i
            rw [hx] at hix
            have hts : (words sf).take (i + 1) = (words sf).take i ++ [(words sf).getD i 0] := by
              have : i < (words sf).length := hlti
              rw [List.take_succ_eq_append_getElem this]
              simp [this]
            have Hts := hid hts
            clear hx hts
            generalize (words sf).getD i 0 = X at *
            have hbl : (toZ (((words sf).take i).flatMap (Sha.nbe 4))).length = 4 * i := by
              rw [toZ, List.length_map, flat_len, List.length_take, Nat.min_eq_left (show i ≤ (words sf).length from Nat.le_of_lt hlti)]
            generalize hLd : toZ (((words sf).take i).flatMap (Sha.nbe 4)) = L at *
            have HL := hid hLd
            clear hLd
            have z0 : wr.cell? ⟨w4.heap.size, 4 * i, none⟩ = some (.int .u8 0) := by rw [kr.cell]; exact byteCells_zero _ _ _ (by omega) (by omega)
            have z1 : wr.cell? ⟨w4.heap.size, 4 * i + 1, none⟩ = some (.int .u8 0) := by rw [kr.cell]; exact byteCells_zero _ _ _ (by omega) (by omega)
            have z2 : wr.cell? ⟨w4.heap.size, 4 * i + 2, none⟩ = some (.int .u8 0) := by rw [kr.cell]; exact byteCells_zero _ _ _ (by omega) (by omega)
            have z3 : wr.cell? ⟨w4.heap.size, 4 * i + 3, none⟩ = some (.int .u8 0) := by rw [kr.cell]; exact byteCells_zero _ _ _ (by omega) (by omega)
            have o0 : ((4 : Int) * (i : Int)).toNat = 4 * i := by omega
            have o1 : ((4 : Int) * (i : Int) + 1).toNat = 4 * i + 1 := by omega
            have o2 : ((4 : Int) * (i : Int) + 2).toNat = 4 * i + 2 := by omega
            have o3 : ((4 : Int) * (i : Int) + 3).toNat = 4 * i + 3 := by omega
            have fq := kr.free
            have Hkr := hid kr
            have Hbr := hid br
            clear kr br
            go_wp2_with fail
            refine ⟨⟨i + 1, by omega, by go_num, ?_, ?_⟩, by simp [intOf]; omega⟩
            · have := put_four Hkr.out hbl hlti X hxl
              rw [Hts.out, List.flatMap_append, toZ, List.map_append, List.flatMap_singleton]
              rw [← HL.out] at this
              exact this
            · have hB : w4.heap.size ≤ w4.heap.size := Nat.le_refl _
              exact (((Hbr.out.setCell (p := ⟨w4.heap.size, 4 * i, none⟩) hB _).setCell (p := ⟨w4.heap.size, 4 * i + 1, none⟩) hB _).setCell (p := ⟨w4.heap.size, 4 * i + 2, none⟩) hB _).setCell (p := ⟨w4.heap.size, 4 * i + 3, none⟩) hB _
          · have h8i : i = 8 := by omega
            have kfull : Blk wr w4.heap.size ((sumZ bs).map (Value.int .u8)).toArray 23 := by
              have e : toZ (((words sf).take i).flatMap (Sha.nbe 4)) = sumZ bs := by
                rw [Hsum.out, h8i, List.take_of_length_le (by simp [words]), out_words]
              rw [e, byteCells_full 32 _ (sumZ_length bs)] at kr
              exact kr
            have kres := HFA.out.res.below br
            have hfb := HFA.out.but.ext br
            have Hsz : Hid (((sumZ bs).map (Value.int .u8)).toArray.size = 32) := hid (by simp [sumZ_length])
            have Hzb : Hid ((byteCells 32 []).size = 32) := hid (byteCells_size 32 [] (by simp))
            have Hkf := hid kfull
            have Hkres := hid kres
            have Hfb := hid hfb
            have H8i := hid h8i
            clear kr br kfull kres hfb h8i
            go_wp2_with (first | (refine wpList_load_blk rfl 23 _ rfl w4.heap.size rfl _ 23 Hkf.out _ Tryd.underlying23 rfl 32 size_digest Hsz.out ?_) | (refine wpList_store_blk rfl 23 _ _ rfl w.heap.size _ rfl rfl _ 23 Hkres.out 32 size_digest Hzb.out Hsz.out (ints_one _ _) ?_; intro w6 hbut6 hk6))
            exact bodyPost_ret (v := .agg ((sumZ bs).map (Value.int .u8)).toArray) (results_blk Tryd.results75 _ w.heap.size rfl _ 23 hk6 _ Tryd.underlying23 rfl 32 size_digest Hsz.out) rfl ⟨rfl, Hfb.out.fresh hbut6 (Nat.le_refl _)⟩
  · have hz0 : (56 : Int) < (m : Int) + 1 := by omega
    go_enter Tryd.func75, Tryd.ntmps75
    go_wp2_with (with_reducible refine wpList_clear_hash rfl _ 67 rfl 5 Tryd.underlying67 Hz.out ph (m + 1) (63 - m) (63 - m) d rfl Hd.out _ _ _ T HF1.out.hash hR1 (by omega) ?_; intro w2 HB2 HK2)
    rw [← hR2d'.out] at HK2
    have HF2 : Hid (FinW ph T w (Sha.run Sha.start (natB bs) (bs.length / 64)) R2 bs.length w2) := hid (HF1.out.next HB2.out HK2.out hlt hp1 hp0)
    clear HB2 HK2 HF1
    refine wp_region_flow 7 [0, 1, 2, 3, 4, 5, 6] [] [] (by kernel_rfl) (by kernel_rfl) ?_
    apply Exists.intro
    refine ⟨fun w0 hb0 hF0 => ?_, ?_⟩
    · simp only [pick, List.getElem?_toArray, List.getElem?_cons_succ, List.getElem?_cons_zero, Option.toList_some, List.cons_append, List.nil_append]
      repeat (go_big_quiet_step (fail))
      exact wpQuiet_nil rfl
    refine AlChk.nil ?_
    refine Walk.fin fun w3 h3 _ _ => ?_
    simp only [List.drop_succ_cons, List.drop_zero]
    have HF9 := HF2.out.below h3
    have hk4 := HF9.hash
    go_wp2_with fail
    refine (process_any ph T _ (R2.map (Value.int .u8) ++ [.int .u64 (bs.length : Nat)]) (some ⟨ph, 8, none⟩) 64 R2 w3 (Ok.run Ok.start _ _) hk4 (hk4.hash_rest hR2 hR2s) HF9.tab hp1).mono ?_
    rintro e w5 ⟨rfl, b5, k5⟩
    have hFB := HF9.next b5 (st' := Sha.compress (Sha.run Sha.start (natB bs) (bs.length / 64)) (natB R2)) (R' := R2) k5 hlt hp1 hp0
    have HFB := hid hFB
    have ok3 : Ok (Sha.compress (Sha.run Sha.start (natB bs) (bs.length / 64)) (natB R2)) := Ok.compress _ _
    have Hsum : Hid (sumZ bs = toZ (Sha.out (Sha.compress (Sha.compress (Sha.run Sha.start (natB bs) (bs.length / 64)) (natB R2)) (natB ((List.replicate 64 0).take 56 ++ toZ (Sha.nbe 8 (8 * bs.length))))))) := hid (by
      have hnl : (natB bs).length = bs.length := by simp [natB]
      have hb := Hbl.out
      have eA : natB R2 = (natB bs).drop (64 * (bs.length / 64)) ++ 128 :: List.replicate (63 - m) 0 := by
        rw [HR2e.out]
        simp [natB]
      have eB : natB ((List.replicate 64 (0 : Int)).take 56 ++ toZ (Sha.nbe 8 (8 * bs.length))) = List.replicate 56 0 ++ Sha.nbe 8 (8 * bs.length) := by
        have e2 : natB (toZ (Sha.nbe 8 (8 * bs.length))) = Sha.nbe 8 (8 * bs.length) := natB_toZ _
        rw [List.take_replicate, Nat.min_eq_left (by decide)]
        unfold natB at *
        rw [List.map_append, e2, List.map_replicate]
        rfl
      unfold sumZ
      rw [sum_long (natB bs) (bs.length / 64) m (by rw [hnl]; exact hb) (by omega) hm64, hnl, eA, eB])
    generalize Sha.compress (Sha.run Sha.start (natB bs) (bs.length / 64)) (natB R2) = st3 at *
    clear hk4 HF9 b5 k5 h3 hFB HF2 HR2e
    go_wp2_with (with_reducible refine wpList_clear_hash rfl _ 67 rfl 5 Tryd.underlying67 Hz.out ph 0 64 64 (some ⟨ph, 8, none⟩) rfl (fun _ => rfl) _ _ _ T HFB.out.hash hR2 (by omega) ?_; intro w2 HB2 HK2)
    have hR3d : splice R2 0 (List.replicate 64 0) = List.replicate 64 0 := by simp [splice, hR2]
    rw [hR3d] at HK2
    have HF3 : Hid (FinW ph T w st3 (List.replicate 64 0) bs.length w2) := hid (HFB.out.next HB2.out HK2.out hlt hp1 hp0)
    have hR3 : (List.replicate 64 (0 : Int)).length = 64 := by simp
    have hR3s : ∀ x ∈ List.replicate 64 (0 : Int), 0 ≤ x ∧ x < 256 := fun x hx => by have := List.eq_of_mem_replicate hx; omega
    generalize List.replicate 64 (0 : Int) = R3 at *
    clear HB2 HK2 HFB hR3d
    go_loopw [46] (fun v wr => ∃ j : Nat, j ≤ 8 ∧ v = .int .i64 j ∧ FinW ph T w st3 (R3.take (64 - j) ++ toZ (Sha.nbe j (8 * bs.length))) bs.length wr) (fun v _ => 8 - (intOf v).toNat)
    case atStart =>
      refine ⟨0, by omega, rfl, ?_⟩
      rw [List.take_of_length_le (show R3.length ≤ 64 - 0 by omega), show toZ (Sha.nbe 0 (8 * bs.length)) = [] from rfl, List.append_nil]
      exact HF3.out
    case round =>
      obtain ⟨j, hj, rfl, hF⟩ := hrel
      by_cases hlt8 : j < 8
      · have hRj : (R3.take (64 - j) ++ toZ (Sha.nbe j (8 * bs.length))).length = 64 := by
          rw [List.length_append, List.length_take, toZ, List.length_map, nbe_length]; omega
        have q := (hF.hash.cell (8 + (63 - j))).trans (hashCells_rest _ _ _ (63 - j) hRj (by omega))
        have f1 := hF.hash.free
        have hlt2 := hF.hash.lt
        have HF := hid hF
        have e1 : ((63 : Int) - (j : Int)).toNat = 63 - j := by omega
        have e2 : ((8 : Int) * (j : Int)).toNat = 8 * j := by omega
        generalize (R3.take (64 - j) ++ toZ (Sha.nbe j (8 * bs.length))).getD (63 - j) 0 = old at q
        clear hF
        go_wp2_with fail
        refine wp_region_flow 11 [0, 1, 2, 3, 4, 5, 6, 7, 8, 9, 10] [] [] (by kernel_rfl) (by kernel_rfl) ?_
        apply Exists.intro
        refine ⟨fun w0 hb0 hF0 => ?_, ?_⟩
        · simp only [pick, List.getElem?_toArray, List.getElem?_cons_succ, List.getElem?_cons_zero, Option.toList_some, List.cons_append, List.nil_append]
          repeat (go_big_quiet_step (fail))
          exact wpQuiet_nil rfl
        refine AlChk.nil ?_
        refine Walk.fin fun w3 h3 _ _ => ?_
        simp only [List.drop_succ_cons, List.drop_zero]
        have HF3' := hid (HF.out.below h3)
        have q3 := (h3.cell (p := ⟨ph, 8 + (63 - j), none⟩) hlt2).trans q
        have f3 := HF3'.out.hash.free
        clear q f1 h3 HF
        go_wp2_with fail
        have hv : ((bs.length : Int) * 8 / 2 ^ (8 * j) % 256) = ((8 * bs.length / 256 ^ j % 256 : Nat) : Int) := by
          have hp : (2 : Int) ^ (8 * j) = ((256 ^ j : Nat) : Int) := by
            rw [show 256 ^ j = 2 ^ (8 * j) by rw [Nat.pow_mul], Int.natCast_pow]
            rfl
          rw [hp, Int.natCast_emod, Int.natCast_ediv, Int.natCast_mul, Int.mul_comm]
          rfl
        refine ⟨⟨j + 1, by omega, by go_num, HF3'.out.next ((But.of (Below.refl _ _)).set (p := ⟨ph, 8 + (63 - j), none⟩) (.inl rfl) _) ?_ hlt hp1 hp0⟩, by simp [intOf]; omega⟩
        have hk9 := HF3'.out.hash.hash_put hRj (63 - j) [((bs.length : Int) * 8 / 2 ^ (8 * j) % 256)] (by rw [List.length_singleton]; omega)
        rw [put_byte R3 hR3 _ j hlt8 _ hv] at hk9
        rw [show 64 - (j + 1) = 63 - j by omega]
        exact hk9
      · have h8 : j = 8 := by omega
        have hF8 : FinW ph T w st3 (R3.take 56 ++ toZ (Sha.nbe 8 (8 * bs.length))) bs.length wr := by
          rw [h8] at hF; exact hF
        have HF8 := hid hF8
        have hR8 : (R3.take 56 ++ toZ (Sha.nbe 8 (8 * bs.length))).length = 64 := by
          rw [List.length_append, List.length_take, toZ, List.length_map, nbe_length]; omega
        have hR8s : ∀ x ∈ R3.take 56 ++ toZ (Sha.nbe 8 (8 * bs.length)), 0 ≤ x ∧ x < 256 := fun x hx => by
          rcases List.mem_append.1 hx with h | h
          · exact hR3s x (List.mem_of_mem_take h)
          · exact toZ_small (nbe_lt _ _) x h
        generalize hR9 : R3.take 56 ++ toZ (Sha.nbe 8 (8 * bs.length)) = R9 at *
        have H8 := hid h8
        clear hF hF8 h8
        go_wp2_with fail
        refine wp_region_flow 7 [0, 1, 2, 3, 4, 5, 6] [] [] (by kernel_rfl) (by kernel_rfl) ?_
        apply Exists.intro
        refine ⟨fun w0 hb0 hF0 => ?_, ?_⟩
        · simp only [pick, List.getElem?_toArray, List.getElem?_cons_succ, List.getElem?_cons_zero, Option.toList_some, List.cons_append, List.nil_append]
          repeat (go_big_quiet_step (fail))
          exact wpQuiet_nil rfl
        refine AlChk.nil ?_
        refine Walk.fin fun w3 h3 _ _ => ?_
        simp only [List.drop_succ_cons, List.drop_zero]
        have HF9 := HF8.out.below h3
        have hk4 := HF9.hash
        go_wp2_with fail
        refine (process_any ph T _ (R9.map (Value.int .u8) ++ [.int .u64 (bs.length : Nat)]) (some ⟨ph, 8, none⟩) 64 R9 w3 ok3 hk4 (hk4.hash_rest hR8 hR8s) HF9.tab hp1).mono ?_
        rintro e w4 ⟨rfl, b4, k4⟩
        have hFA := HF9.next b4 (st' := Sha.compress st3 (natB R9)) (R' := R9) k4 hlt hp1 hp0
        have okA : Ok (Sha.compress st3 (natB R9)) := Ok.compress _ _
        generalize Sha.compress st3 (natB R9) = sf at *
        have HFA := hid hFA
        have g0 : w4.cell? ⟨ph, 0, none⟩ = some (.int .u32 sf.a) := (hFA.hash.cell 0).trans rfl
        have g1 : w4.cell? ⟨ph, 1, none⟩ = some (.int .u32 sf.b) := (hFA.hash.cell 1).trans rfl
        have g2 : w4.cell? ⟨ph, 2, none⟩ = some (.int .u32 sf.c) := (hFA.hash.cell 2).trans rfl
        have g3 : w4.cell? ⟨ph, 3, none⟩ = some (.int .u32 sf.d) := (hFA.hash.cell 3).trans rfl
        have g4 : w4.cell? ⟨ph, 4, none⟩ = some (.int .u32 sf.e) := (hFA.hash.cell 4).trans rfl
        have g5 : w4.cell? ⟨ph, 5, none⟩ = some (.int .u32 sf.f) := (hFA.hash.cell 5).trans rfl
        have g6 : w4.cell? ⟨ph, 6, none⟩ = some (.int .u32 sf.g) := (hFA.hash.cell 6).trans rfl
        have g7 : w4.cell? ⟨ph, 7, none⟩ = some (.int .u32 sf.h) := (hFA.hash.cell 7).trans rfl
        have hlt4 := hFA.hash.lt
        have hres4 := hFA.res.lt
        have kd := Blk.new (w := w4) rfl (byteCells 32 []) 23
        have Hkd := hid kd
        clear hk4 HF9 b4 k4 h3 hFA kd
        go_wp2_with fail
        clear g0 g1 g2 g3 g4 g5 g6 g7
        go_loopw [73] (fun v wq => ∃ i : Nat, i ≤ 8 ∧ v = .int .i64 i ∧ Blk wq w4.heap.size (byteCells 32 (toZ (((words sf).take i).flatMap (Sha.nbe 4)))) 23 ∧ Below w4.heap.size w4 wq) (fun v _ => 8 - (intOf v).toNat)
        case atStart => exact ⟨0, by omega, rfl, Hkd.out, (Below.refl _ _).alloc (Nat.le_refl _) _⟩
        case round =>
          obtain ⟨i, hi, rfl, kr, br⟩ := hrel
          by_cases hlti : i < 8
          · have hix : ∀ W, (Instr.index 106 (.agg #[.int .u32 sf.a, .int .u32 sf.b, .int .u32 sf.c, .int .u32 sf.d, .int .u32 sf.e, .int .u32 sf.f, .int .u32 sf.g, .int .u32 sf.h]) (.int .i64 i)).run Tryd.prog W = .ok (.int .u32 ((toZ (words sf)).getD i 0)) W := fun W => run_index_ints (P := Tryd.prog) (e := 105) (n := 8) (by kernel_rfl) (by kernel_rfl) rfl rfl (toZ (words sf)) rfl i hlti W
            have hx : (toZ (words sf)).getD i 0 = (((words sf).getD i 0 : Nat) : Int) := by
              have : i < (words sf).length := hlti
              simp [toZ, this]
            have hxl : (words sf).getD i 0 < 4294967296 := words_lt okA i
            rw [hx] at hix
            have hts : (words sf).take (i + 1) = (words sf).take i ++ [(words sf).getD i 0] := by
              have : i < (words sf).length := hlti
              rw [List.take_succ_eq_append_getElem this]
              simp [this]
            have Hts := hid hts
            clear hx hts
            generalize (words sf).getD i 0 = X at *
            have hbl : (toZ (((words sf).take i).flatMap (Sha.nbe 4))).length = 4 * i := by
              rw [toZ, List.length_map, flat_len, List.length_take, Nat.min_eq_left (show i ≤ (words sf).length from Nat.le_of_lt hlti)]
            generalize hLd : toZ (((words sf).take i).flatMap (Sha.nbe 4)) = L at *
            have HL := hid hLd
            clear hLd
            have z0 : wr.cell? ⟨w4.heap.size, 4 * i, none⟩ = some (.int .u8 0) := by rw [kr.cell]; exact byteCells_zero _ _ _ (by omega) (by omega)
            have z1 : wr.cell? ⟨w4.heap.size, 4 * i + 1, none⟩ = some (.int .u8 0) := by rw [kr.cell]; exact byteCells_zero _ _ _ (by omega) (by omega)
            have z2 : wr.cell? ⟨w4.heap.size, 4 * i + 2, none⟩ = some (.int .u8 0) := by rw [kr.cell]; exact byteCells_zero _ _ _ (by omega) (by omega)
            have z3 : wr.cell? ⟨w4.heap.size, 4 * i + 3, none⟩ = some (.int .u8 0) := by rw [kr.cell]; exact byteCells_zero _ _ _ (by omega) (by omega)
            have o0 : ((4 : Int) * (i : Int)).toNat = 4 * i := by omega
            have o1 : ((4 : Int) * (i : Int) + 1).toNat = 4 * i + 1 := by omega
            have o2 : ((4 : Int) * (i : Int) + 2).toNat = 4 * i + 2 := by omega
            have o3 : ((4 : Int) * (i : Int) + 3).toNat = 4 * i + 3 := by omega
            have fq := kr.free
            have Hkr := hid kr
            have Hbr := hid br
            clear kr br
            go_wp2_with fail
            refine ⟨⟨i + 1, by omega, by go_num, ?_, ?_⟩, by simp [intOf]; omega⟩
            · have := put_four Hkr.out hbl hlti X hxl
              rw [Hts.out, List.flatMap_append, toZ, List.map_append, List.flatMap_singleton]
              rw [← HL.out] at this
              exact this
            · have hB : w4.heap.size ≤ w4.heap.size := Nat.le_refl _
              exact (((Hbr.out.setCell (p := ⟨w4.heap.size, 4 * i, none⟩) hB _).setCell (p := ⟨w4.heap.size, 4 * i + 1, none⟩) hB _).setCell (p := ⟨w4.heap.size, 4 * i + 2, none⟩) hB _).setCell (p := ⟨w4.heap.size, 4 * i + 3, none⟩) hB _
          · have h8i : i = 8 := by omega
            have kfull : Blk wr w4.heap.size ((sumZ bs).map (Value.int .u8)).toArray 23 := by
              have e : toZ (((words sf).take i).flatMap (Sha.nbe 4)) = sumZ bs := by
                rw [Hsum.out, h8i, List.take_of_length_le (by simp [words]), out_words]
              rw [e, byteCells_full 32 _ (sumZ_length bs)] at kr
              exact kr
            have kres := HFA.out.res.below br
            have hfb := HFA.out.but.ext br
            have Hsz : Hid (((sumZ bs).map (Value.int .u8)).toArray.size = 32) := hid (by simp [sumZ_length])
            have Hzb : Hid ((byteCells 32 []).size = 32) := hid (byteCells_size 32 [] (by simp))
            have Hkf := hid kfull
            have Hkres := hid kres
            have Hfb := hid hfb
            have H8i := hid h8i
            clear kr br kfull kres hfb h8i
            go_wp2_with (first | (refine wpList_load_blk rfl 23 _ rfl w4.heap.size rfl _ 23 Hkf.out _ Tryd.underlying23 rfl 32 size_digest Hsz.out ?_) | (refine wpList_store_blk rfl 23 _ _ rfl w.heap.size _ rfl rfl _ 23 Hkres.out 32 size_digest Hzb.out Hsz.out (ints_one _ _) ?_; intro w6 hbut6 hk6))
            exact bodyPost_ret (v := .agg ((sumZ bs).map (Value.int .u8)).toArray) (results_blk Tryd.results75 _ w.heap.size rfl _ 23 hk6 _ Tryd.underlying23 rfl 32 size_digest Hsz.out) rfl ⟨rfl, Hfb.out.fresh hbut6 (Nat.le_refl _)⟩
end Go.Proofs.YthaicocfbmpnmaaDoor
namespace Go.Proofs.YthaicocfbmpnmaaDoor
set_option maxRecDepth 100000
open Go.ChangeShapes Go.WideShapes Go.ChangeAt Go.RowKit
theorem size_hash : (Tryd.prog.info? 110).map (·.size) = some 73 := by kernel_rfl
/-- the cells of a new hash -/
def newHash : Array Value := (hashCells Sha.start (List.replicate 64 0) 0).toArray
set_option maxHeartbeats 2000000 in
theorem begin_any (w : World) (tab : ShaTab w) : Calls Tryd.prog 73 #[] w fun e w' => e = .returned (.agg newHash) ∧ Below w.heap.size w w' := by
  have hlt := tab.lt0
  obtain ⟨g0, g1, g2, g3, g4, g5, g6, g7⟩ := tab.start
  have HZ : Hid (Tryd.zeroCells110.size = 73) := hid (by kernel_rfl)
  have HN : Hid (newHash.size = 73) := hid (hashCells_size _ _ _ (by simp))
  go_enter Tryd.func73, Tryd.ntmps73
  go_wp2_with (refine wpList_store_blk rfl 110 _ _ rfl w.heap.size newHash rfl (by kernel_rfl) Tryd.zeroCells110 110 (Blk.new rfl _ _) 73 size_hash HZ.out HN.out (by kernel_rfl) ?_; intro w2 hb2 hk2)
  exact bodyPost_ret (v := .agg newHash) (results_blk Tryd.results73 _ w.heap.size rfl _ 110 hk2 _ Tryd.underlying110 rfl 73 size_hash HN.out) rfl ⟨rfl, hb2.below ((Below.refl _ _).alloc (Nat.le_refl _) _) (by rw [World.size_alloc]; omega) (Nat.le_refl _)⟩
end Go.Proofs.YthaicocfbmpnmaaDoor
namespace Go.Proofs.YthaicocfbmpnmaaDoor
set_option maxRecDepth 100000
open Go.ChangeShapes Go.WideShapes Go.ChangeAt Go.RowKit
theorem hash_new {w : World} {ph : Nat} {T : TypeId} (h : Blk w ph newHash T) : HashAt w ph T [] :=
  ⟨by simp, List.replicate 64 0, by simp, fun x hx => by have := List.eq_of_mem_replicate hx; omega, by simp, h⟩
set_option maxHeartbeats 4000000 in
theorem sum_any (a : Option Addr) (len cap : Nat) (ts : List (List Int)) (w : World) (hT : TextsAt w a len cap ts) (hbnd : sumLen ts < 1152921504606846976) (tab : ShaTab w) :
    Calls Tryd.prog 46 #[.slice a len cap] w fun e w' => e = .returned (.agg ((sumZ ts.flatten).map (Value.int .u8)).toArray) ∧ Below w.heap.size w w' := by
  have hlen : ts.length = len := hT.length
  have hcp := hT.le
  have hmx := hT.max
  have hlt1 := tab.lt
  have hlt0 := tab.lt0
  have HT := hid hT
  have Htab := hid tab
  have HN : Hid (newHash.size = 73) := hid (hashCells_size _ _ _ (by simp))
  have HZ : Hid (Tryd.zeroCells110.size = 73) := hid (by kernel_rfl)
  have H1 : Hid (newHash.all (·.oneCell') = true) := hid (by kernel_rfl)
  clear hT tab
  go_enter Tryd.func46, Tryd.ntmps46
  go_wp2_with fail
  refine (begin_any _ (Htab.out.below ((Below.refl _ _).alloc (Nat.le_refl _) _))).mono ?_
  rintro e w1 ⟨rfl, b1⟩
  have hs1 : w.heap.size < w1.heap.size := by have := b1.size; rw [World.size_alloc] at this; omega
  have kr1 := (Blk.new (w := w) rfl (byteCells 32 []) 23).below b1
  have bel1 : Below w.heap.size w w1 := Below.on ((Below.refl w.heap.size w).alloc (Nat.le_refl _) _) b1
  have Hkr1 := hid kr1
  have Hbel1 := hid bel1
  clear b1 kr1 bel1
  go_wp2_with (refine wpList_store_blk rfl 110 _ _ rfl w1.heap.size newHash rfl rfl Tryd.zeroCells110 110 (Blk.new rfl _ _) 73 size_hash HZ.out HN.out H1.out ?_; intro w2 hb2 hk2)
  have bel2 : Below w.heap.size w w2 := hb2.below (Hbel1.out.alloc (by omega) _) (by rw [World.size_alloc]; omega) (by omega)
  have kr2 : Blk w2 w.heap.size (byteCells 32 []) 23 := hb2.blk (Hkr1.out.old _) (by omega)
  have hh2 := hash_new hk2
  have hph : w.heap.size < w1.heap.size := hs1
  generalize w1.heap.size = ph at *
  have Hh2 := hid hh2
  have Hkr2 := hid kr2
  have Hbel2 := hid bel2
  clear hb2 hk2 bel2 kr2 hh2 Hkr1 Hbel1 HZ HN H1
  go_loopw [9] (fun v wr => ∃ k : Nat, k ≤ len ∧ v = .int .i64 k ∧ HashAt wr ph 110 (ts.take k).flatten ∧ Below w.heap.size w wr ∧ Blk wr w.heap.size (byteCells 32 []) 23) (fun v _ => len - (intOf v).toNat)
  case atStart => exact ⟨0, by omega, rfl, by simpa using Hh2.out, Hbel2.out, Hkr2.out⟩
  case round =>
    obtain ⟨k, hk, rfl, hh, bel, kr⟩ := hrel
    have Hh := hid hh
    have Hbel := hid bel
    have Hkr := hid kr
    clear hh bel kr
    by_cases hlt : k < len
    · obtain ⟨r, off, a', l', c', rfl, hrl, hc, hTk⟩ := HT.out.at_ k hlt
      have hcw : wr.cell? ⟨r, off + k, none⟩ = some (.slice a' l' c') := (Hbel.out.cell (p := ⟨r, off + k, none⟩) hrl).trans hc
      have hTw := hTk.below Hbel.out
      have hne : 0 < l' → ∀ p : Addr, a' = some p → p.block ≠ ph := hTk.ne (by omega)
      have HTw := hid hTw
      have Hne := hid hne
      have HF := hid (flatten_take ts k (by omega))
      have hsl : (ts.take k).flatten.length + l' < 1152921504606846976 := by
        have e1 := sumLen_take ts k (by omega)
        have e2 := sumLen_le ts (k + 1)
        have e3 := flatten_length (ts.take k)
        have e4 := hTk.length
        omega
      clear hTk hTw hne hc
      go_wp2_with fail
      refine (add_any ph 110 _ a' l' c' _ wr Hh.out HTw.out hsl Hne.out (Htab.out.below Hbel.out) (by omega) (by omega)).mono ?_
      rintro e w4 ⟨rfl, b4, h4⟩
      have Hn : Hid (HashAt w4 ph 110 (ts.take (k + 1)).flatten ∧ Below w.heap.size w w4 ∧ Blk w4 w.heap.size (byteCells 32 []) 23) := hid ⟨by rw [HF.out]; exact h4, b4.below Hbel.out Hbel.out.size (by omega), b4.blk Hkr.out (by omega)⟩
      clear b4 h4 HTw Hne
      go_wp2_with fail
      exact ⟨⟨k + 1, by omega, by go_num, Hn.out.1, Hn.out.2.1, Hn.out.2.2⟩, by simp [intOf]; omega⟩
    · have hkl : k = len := by omega
      have hft : (ts.take k).flatten = ts.flatten := by rw [List.take_of_length_le (by omega)]
      rw [hft] at Hh
      have Hkl := hid hkl
      clear hkl hft
      have hfl := flatten_length ts
      go_wp2_with fail
      refine (finish_any ph 110 _ wr Hh.out (by omega) (Htab.out.below Hbel.out) (by omega) (by omega)).mono ?_
      rintro e w4 ⟨rfl, b4⟩
      have bel4 := b4.below Hbel.out Hbel.out.size (by omega)
      have kr4 := b4.blk Hkr.out (show w.heap.size ≠ ph by omega)
      have Hsz : Hid (((sumZ ts.flatten).map (Value.int .u8)).toArray.size = 32) := hid (by simp [sumZ_length])
      have Hzb : Hid ((byteCells 32 []).size = 32) := hid (byteCells_size 32 [] (by simp))
      have Hbel4 := hid bel4
      have Hkr4 := hid kr4
      clear b4 bel4 kr4 Hbel Hkr
      go_wp2_with (refine wpList_store_blk rfl 23 _ _ rfl w.heap.size _ rfl rfl _ 23 Hkr4.out 32 size_digest Hzb.out Hsz.out (ints_one _ _) ?_; intro w6 hbut6 hk6)
      exact bodyPost_ret (v := .agg ((sumZ ts.flatten).map (Value.int .u8)).toArray) (results_blk Tryd.results46 _ w.heap.size rfl _ 23 hk6 _ Tryd.underlying23 rfl 32 size_digest Hsz.out) rfl ⟨rfl, hbut6.below Hbel4.out Hbel4.out.size (Nat.le_refl _)⟩
end Go.Proofs.YthaicocfbmpnmaaDoor
namespace Go.Proofs.YthaicocfbmpnmaaDoor
set_option maxRecDepth 100000
open Go.ChangeShapes Go.WideShapes Go.ChangeAt Go.RowKit
end Go.Proofs.YthaicocfbmpnmaaDoor
namespace Go.Proofs.YthaicocfbmpnmaaDoor
set_option maxRecDepth 100000
open Go.ChangeShapes Go.WideShapes Go.ChangeAt Go.RowKit
end Go.Proofs.YthaicocfbmpnmaaDoor
namespace Go.Proofs.YthaicocfbmpnmaaDoor
set_option maxRecDepth 100000
open Go.ChangeShapes Go.WideShapes Go.ChangeAt Go.RowKit
/-- a slice whose first eight cells are a state -/
def VAt (w : World) (B : Nat) (v : Value) (st : Sha.St) : Prop := ∃ g cap cur, v = .slice (some ⟨g, 0, none⟩) 8 cap ∧ B ≤ g ∧ 8 ≤ cap ∧ cap ≤ 9223372036854775807 ∧ Blk w g cur 105 ∧ ∀ j, j < 8 → cur[j]? = some (.int .u32 ((words st).getD j 0 : Nat))
/-- the first i words added -/
def mixW (s r : Sha.St) (i : Nat) : List Nat := (words (Sha.add s r)).take i ++ (words s).drop i
def mixCells (s r : Sha.St) (i : Nat) : Array Value := ((mixW s r i).map fun n : Nat => Value.int .u32 n).toArray
/-- a block of a text -/
def blkOf (l : List Nat) (k : Nat) : List Nat := (l.drop (64 * k)).take 64
/-- the reference's memory at the head of its loop -/
structure RefW (w : World) (gk : Nat) (ap : Option Addr) (cp : Nat) (P : List Int) (st : Sha.St) (wr : World) : Prop where
  ks : Blk wr (w.heap.size + 1) (stCells st).toArray 105
  kk : Blk wr gk (wordCells 64 Sha.keys) 105
  txt : TextAt wr ap P.length cp P
  res : Blk wr w.heap.size (byteCells 32 []) 23
  bel : Below w.heap.size w wr
  gkl : w.heap.size + 2 ≤ gk
  apl : ∀ p : Addr, ap = some p → w.heap.size + 2 ≤ p.block
/-- what a round reads -/
structure RndW (wd : World) (g : Nat) (cur : Array Value) (gw : Nat) (WS : List Nat) (gk : Nat) : Prop where
  v : Blk wd g cur 105
  w : Blk wd gw (wordCells 64 WS) 105
  k : Blk wd gk (wordCells 64 Sha.keys) 105
end Go.Proofs.YthaicocfbmpnmaaDoor
namespace Go.Proofs.YthaicocfbmpnmaaDoor
set_option maxRecDepth 100000
open Go.ChangeShapes Go.WideShapes Go.ChangeAt Go.RowKit
theorem eqD (xs ys : List Int) (hx : xs.length = 32) (hy : ys.length = 32) (w : World) : (binOp .eql 23 (.agg (xs.map (Value.int .u8)).toArray) (.agg (ys.map (Value.int .u8)).toArray)).run Tryd.prog w = .ok (.bool (decide (xs = ys))) w :=
  run_eql_ints (P := Tryd.prog) (t := 23) (e := 5) Tryd.underlying23 Tryd.underlying5 rfl (by kernel_rfl) xs ys hx hy w
theorem neD (xs ys : List Int) (hx : xs.length = 32) (hy : ys.length = 32) (w : World) : (binOp .neq 23 (.agg (xs.map (Value.int .u8)).toArray) (.agg (ys.map (Value.int .u8)).toArray)).run Tryd.prog w = .ok (.bool (!decide (xs = ys))) w :=
  run_neq_ints (P := Tryd.prog) (t := 23) (e := 5) Tryd.underlying23 Tryd.underlying5 rfl (by kernel_rfl) xs ys hx hy w
theorem eqD_self (xs : List Int) (hx : xs.length = 32) (w : World) : (binOp .eql 23 (.agg (xs.map (Value.int .u8)).toArray) (.agg (xs.map (Value.int .u8)).toArray)).run Tryd.prog w = .ok (.bool true) w := by
  rw [eqD xs xs hx hx w, decide_eq_true rfl]
theorem neD_self (xs : List Int) (hx : xs.length = 32) (w : World) : (binOp .neq 23 (.agg (xs.map (Value.int .u8)).toArray) (.agg (xs.map (Value.int .u8)).toArray)).run Tryd.prog w = .ok (.bool false) w := by
  rw [neD xs xs hx hx w, decide_eq_true rfl]; rfl
/-- the size of a digest's cells -/
theorem dsize {xs : List Int} (hx : xs.length = 32) : ((xs.map (Value.int .u8)).toArray).size = 32 := by simp [hx]
theorem zsize : (byteCells 32 []).size = 32 := byteCells_size 32 [] (by simp)
/-- texts, whose values lie in a block -/
theorem TextsAt.of_blk {w : World} {g n cap : Nat} {T : TypeId} {vs : Array Value} {ts : List (List Int)} (h : Blk w g vs T) (hl : ts.length = n) (hc : n ≤ cap) (hm : cap ≤ 9223372036854775807) (hv : ∀ j, j < n → ∃ a l c, vs[j]? = some (.slice a l c) ∧ TextAt w a l c (ts.getD j [])) : TextsAt w (some ⟨g, 0, none⟩) n cap ts :=
  ⟨hl, hc, hm, .inr ⟨g, 0, rfl, h.lt, fun j hj => by
    obtain ⟨a, l, c, h1, h2⟩ := hv j hj
    exact ⟨a, l, c, by rw [Nat.zero_add, h.cell]; exact h1, h2⟩⟩⟩
end Go.Proofs.YthaicocfbmpnmaaDoor
namespace Go.Proofs.YthaicocfbmpnmaaDoor
set_option maxRecDepth 100000
open Go.ChangeShapes Go.WideShapes Go.ChangeAt Go.RowKit
def xorZ (x y : Int) : Int := ((x.toNat ^^^ y.toNat : Nat) : Int)
@[irreducible] def blockZ (key : List Int) : List Int := if 64 < key.length then sumZ key ++ List.replicate 32 0 else key ++ List.replicate (64 - key.length) 0
def maskZ (b : List Int) (m : Int) : List Int := b.map fun x => xorZ x m
@[irreducible] def macZ (key text : List Int) : List Int := sumZ (maskZ (blockZ key) 92 ++ sumZ (maskZ (blockZ key) 54 ++ text))
/-- a slice of texts that is the call's own; the texts lie in older blocks -/
def OwnL (w : World) (base : Nat) (e : TypeId) (v : Value) (ts : List (List Int)) : Prop :=
  ∃ xs, w.ownsRow base e 1 v ts.length xs ∧ ∀ j, j < ts.length → ∃ a l c, xs[j]? = some (.slice a l c) ∧ TextAt w a l c (ts.getD j []) ∧ (0 < l → ∀ p : Addr, a = some p → p.block < base)
section
variable {P : Program} {w : World} {base : Nat} {t e : TypeId} {i : TypeInfo} {v : Value} {ts us : List (List Int)}
end
end Go.Proofs.YthaicocfbmpnmaaDoor
namespace Go.Proofs.YthaicocfbmpnmaaDoor
set_option maxRecDepth 100000
open Go.ChangeShapes Go.WideShapes Go.ChangeAt Go.RowKit
/-- a slice of texts that is the call's own; the texts lie in other blocks -/
def OwnM (w : World) (base : Nat) (e : TypeId) (v : Value) (ts : List (List Int)) : Prop :=
  ∃ xs, w.ownsRow base e 1 v ts.length xs ∧ ∀ j, j < ts.length → ∃ a l c, xs[j]? = some (.slice a l c) ∧ TextAt w a l c (ts.getD j []) ∧ (0 < l → ∀ p : Addr, a = some p → v.ownBlock ≠ some p.block)
section
variable {P : Program} {w : World} {base : Nat} {t e : TypeId} {i : TypeInfo} {v : Value} {ts us : List (List Int)}
end
end Go.Proofs.YthaicocfbmpnmaaDoor
namespace Go.Proofs.YthaicocfbmpnmaaDoor
set_option maxRecDepth 100000
open Go.ChangeShapes Go.WideShapes Go.ChangeAt Go.RowKit
end Go.Proofs.YthaicocfbmpnmaaDoor
namespace Go.Proofs.YthaicocfbmpnmaaDoor
set_option maxRecDepth 100000
open Go.ChangeShapes Go.WideShapes Go.ChangeAt Go.RowKit
theorem zsize64 : (byteCells 64 []).size = 64 := byteCells_size 64 [] (by simp)
end Go.Proofs.YthaicocfbmpnmaaDoor
namespace Go.Proofs.YthaicocfbmpnmaaDoor
set_option maxRecDepth 100000
open Go.ChangeShapes Go.WideShapes Go.ChangeAt Go.RowKit
end Go.Proofs.YthaicocfbmpnmaaDoor
namespace Go.Proofs.YthaicocfbmpnmaaDoor
set_option maxRecDepth 100000
open Go.ChangeShapes Go.WideShapes Go.ChangeAt Go.RowKit
/-- the bytes of words -/
def wordBytes (xs : List Int) : List Int := xs.flatMap (be 4)
end Go.Proofs.YthaicocfbmpnmaaDoor
namespace Go.Proofs.YthaicocfbmpnmaaDoor
set_option maxRecDepth 100000
open Go.ChangeShapes Go.WideShapes Go.ChangeAt Go.RowKit
end Go.Proofs.YthaicocfbmpnmaaDoor
namespace Go.Proofs.YthaicocfbmpnmaaDoor
set_option maxRecDepth 100000
open Go.ChangeShapes Go.WideShapes Go.ChangeAt Go.RowKit
end Go.Proofs.YthaicocfbmpnmaaDoor
namespace Go.Proofs.YthaicocfbmpnmaaDoor
set_option maxRecDepth 100000
open Go.ChangeShapes Go.WideShapes Go.ChangeAt Go.RowKit
end Go.Proofs.YthaicocfbmpnmaaDoor
namespace Go.Proofs.YthaicocfbmpnmaaDoor
set_option maxRecDepth 100000
open Go.ChangeShapes Go.WideShapes Go.ChangeAt Go.RowKit
/-- a digest's bytes -/
structure Dg (xs : List Int) : Prop where
  len : xs.length = 32
  small : ∀ x ∈ xs, 0 ≤ x ∧ x < 256
@[irreducible] def fZ (key m : List Int) : List Int := sumZ (be 32 0 ++ (key ++ m))
@[irreducible] def hZ (key a b : List Int) : List Int := sumZ (be 32 1 ++ (key ++ (a ++ b)))
@[irreducible] def prfZ (key m : List Int) : List Int := sumZ (be 32 3 ++ (key ++ m))
@[irreducible] def msgZ (r root : List Int) (index : Int) (m : List Int) : List Int := sumZ (be 32 2 ++ (r ++ (root ++ (be 32 index ++ m))))
theorem Dg.sum (bs : List Int) : Dg (sumZ bs) := ⟨sumZ_length _, sumZ_small _⟩
/-- what 'wide' hands back -/
def WideAt (n : Int) (v : Value) (w : World) : Prop := ∃ g, v = .slice (some ⟨g, 0, none⟩) 32 32 ∧ Blk w g ((be 32 n).map (Value.int .u8)).toArray 5
theorem Dg.text {xs : List Int} (h : Dg xs) {w : World} {g : Nat} {T : TypeId} (k : Blk w g (xs.map (Value.int .u8)).toArray T) : TextAt w (some ⟨g, 0, none⟩) 32 32 xs := TextAt.of_ints k h.len (by omega) h.small
theorem Dg.size {xs : List Int} (h : Dg xs) : ((xs.map (Value.int .u8)).toArray).size = 32 := dsize h.len
end Go.Proofs.YthaicocfbmpnmaaDoor
namespace Go.Proofs.YthaicocfbmpnmaaDoor
set_option maxRecDepth 100000
open Go.ChangeShapes Go.WideShapes Go.ChangeAt Go.RowKit
/-- an address's words -/
structure Aw (xs : List Int) : Prop where
  len : xs.length = 8
  small : ∀ x ∈ xs, 0 ≤ x ∧ x < 4294967296
@[irreducible] def atZ (key ad : List Int) : List Int := prfZ key (wordBytes ad)
/-- what 'adrs.Bytes' hands back -/
def BytesAt (ad : List Int) (v : Value) (w : World) : Prop := ∃ g cap, v = .slice (some ⟨g, 0, none⟩) 32 cap ∧ 32 ≤ cap ∧ cap ≤ 9223372036854775807 ∧ Row8 w g (wordBytes ad)
/-- byte by byte exclusive-ored -/
def xorD (a b : List Int) : List Int := a.zipWith xorZ b
end Go.Proofs.YthaicocfbmpnmaaDoor
namespace Go.Proofs.YthaicocfbmpnmaaDoor
set_option maxRecDepth 100000
open Go.ChangeShapes Go.WideShapes Go.ChangeAt Go.RowKit
end Go.Proofs.YthaicocfbmpnmaaDoor
namespace Go.Proofs.YthaicocfbmpnmaaDoor
set_option maxRecDepth 100000
open Go.ChangeShapes Go.WideShapes Go.ChangeAt Go.RowKit
end Go.Proofs.YthaicocfbmpnmaaDoor
namespace Go.Proofs.YthaicocfbmpnmaaDoor
set_option maxRecDepth 100000
open Go.ChangeShapes Go.WideShapes Go.ChangeAt Go.RowKit
/-- an empty slice of bytes that the call made -/
def EmptyAt (B : Nat) (v : Value) : Prop := ∃ g, v = .slice (some ⟨g, 0, none⟩) 0 0 ∧ B ≤ g
def EmptyIn (v : Value) (w : World) : Prop := ∀ g, v = .slice (some ⟨g, 0, none⟩) 0 0 → Blk w g #[] 5
end Go.Proofs.YthaicocfbmpnmaaDoor
namespace Go.Proofs.YthaicocfbmpnmaaDoor
set_option maxRecDepth 100000
open Go.ChangeShapes Go.WideShapes Go.ChangeAt Go.RowKit
def zD : List Int := List.replicate 32 0
theorem Dg.zero : Dg zD := ⟨by simp [zD], fun x hx => by have := List.eq_of_mem_replicate hx; omega⟩
end Go.Proofs.YthaicocfbmpnmaaDoor
namespace Go.Proofs.YthaicocfbmpnmaaDoor
set_option maxRecDepth 100000
open Go.ChangeShapes Go.WideShapes Go.ChangeAt Go.RowKit
/-- an address with its last three words -/
def setAd (ad : List Int) (f s p : Int) : List Int := ad.take 5 ++ [f, s, p]
/-- a step of a chain -/
@[irreducible] def stepZ (pub ad x : List Int) (j : Nat) : List Int := fZ (atZ pub (setAd ad (ad.getD 5 0) j 0)) (xorD x (atZ pub (setAd ad (ad.getD 5 0) j 1)))
def runZ (pub ad x : List Int) (frm : Nat) : Nat → List Int
  | 0 => x
  | n + 1 => stepZ pub ad (runZ pub ad x frm n) (frm + n)
end Go.Proofs.YthaicocfbmpnmaaDoor
namespace Go.Proofs.YthaicocfbmpnmaaDoor
set_option maxRecDepth 100000
open Go.ChangeShapes Go.WideShapes Go.ChangeAt Go.RowKit
end Go.Proofs.YthaicocfbmpnmaaDoor
namespace Go.Proofs.YthaicocfbmpnmaaDoor
set_option maxRecDepth 100000
open Go.ChangeShapes Go.WideShapes Go.ChangeAt Go.RowKit
end Go.Proofs.YthaicocfbmpnmaaDoor
namespace Go.Proofs.YthaicocfbmpnmaaDoor
set_option maxRecDepth 100000
open Go.ChangeShapes Go.WideShapes Go.ChangeAt Go.RowKit
section
variable {H : Type} {enc : TypeId × Value → H} {P : Program}
theorem trodAll_below (hl : laidOutB P = true) {W W' : World} (hb : Below W.heap.size W W') : ∀ (ts : List TypeId) (vs : List Value) (ds : List (DataW H)) (ps : List MemPlace),
    (ts.all fun t => P.readableRec t && decide (t < P.types.size)) = true → DataW.TrodAll enc P W 0 (fun _ => true) true ts vs ds ps →
    DataW.TrodAll enc P W' 0 (fun b => decide (b < W.heap.size)) true ts vs ds ps
  | [], _, _, _, _, h => by
    obtain ⟨rfl, rfl, rfl⟩ := trodAll_nil h
    exact trodAll_mk0
  | t :: ts, _, _, _, hall, h => by
    simp only [List.all_cons, Bool.and_eq_true, decide_eq_true_eq] at hall
    obtain ⟨⟨hr, ht⟩, hall⟩ := hall
    obtain ⟨v, vs, d, ds, p, q, rfl, rfl, rfl, h0, r0⟩ := trodAll_cons h
    have lt0 : ∀ x ∈ p, x.block < W.heap.size := by obtain ⟨m, hm⟩ := h0; exact DataW.trod_lt m _ _ _ hm
    exact trodAll_cons_mk (Below.trod hl hr ht h0 hb lt0) (trodAll_below hl hb ts vs ds q (by simpa using hall) r0)
theorem trodAll_length {W : World} {base : Nat} {sp : Nat → Bool} {hd : Bool} : ∀ (ts : List TypeId) (vs : List Value) (ds : List (DataW H)) (ps : List MemPlace), DataW.TrodAll enc P W base sp hd ts vs ds ps → ds.length = ts.length
  | [], _, _, _, h => by
    obtain ⟨rfl, rfl, rfl⟩ := trodAll_nil h
    rfl
  | t :: ts, _, _, _, h => by
    obtain ⟨v, vs, d, ds, p, q, rfl, rfl, rfl, _, r0⟩ := trodAll_cons h
    simp [trodAll_length ts vs ds q r0]
end
/-- From the walk to what the row's builder asks. -/
theorem lift_law {H : Type} {enc : TypeId × Value → H} {C : Checked} {os : Os} {f : FuncId} {fn : Func} {s : ChangeSpec} {conds : List PathCond} {tb : TypeId}
    (own : ownKnob C.prog.godebug = none) (started : os.Started) (noInit : C.prog.inits.idxOf? f = none) (hfn : C.prog.funcs[f]? = some fn)
    (hl : laidOutB C.prog = true) (hvars : s.vars = []) (hts : (fn.params.toList.all fun t => C.prog.readableRec t && decide (t < C.prog.types.size)) = true)
    (hrt : fn.resultTypes = #[tb]) (htb : C.prog.underlying tb = some .bool)
    (hs : ∀ ds : List (DataW H), ds.length = fn.params.toList.length → (s.fn H (ds ++ [])).results = [.lit (.bool true)] ∧ (s.fn H (ds ++ [])).args = ds ∧ (s.fn H (ds ++ [])).vars = [])
    (witness : ∃ (w : World) (tape : Tape) (i : Input), w.os = os ∧ (w.forCall tape i).Shaped C.prog ∧ i.vars = [] ∧ Input.okWide C.prog (w.forCall tape i) .any w.heap.size f i ∧
      s.pre6 enc C.prog fn conds false (w.forCall tape i).memory i.args ∧ Assume.holds {} C.prog (lone (Frame.enter C.prog f i.args .normal) [] (w.forCall tape i)))
    (walk : ∀ (W : World) (base : Nat) (args : Array Value) (ds : List (DataW H)) (p : List MemPlace),
      (∀ (j : Nat) t v, fn.params[j]? = some t → args[j]? = some v → Value.okWide C.prog W .any base t v) →
      DataW.TrodAll enc C.prog W 0 (fun _ => true) true fn.params.toList args.toList ds p →
      Calls C.prog f args W fun e W' => e = .returned (.bool true) ∧ Below W.heap.size W W') :
    ReturnsInHanded {} C os f .any (s.pre6 enc C.prog fn conds false) (s.post enc C.prog fn false true false false) := by
  refine returnsInHanded_of_change own started noInit hfn witness ?_
  intro W base args ds gs before hval hW _ _
  have hW' := hW
  obtain ⟨p, q, hA, hV, rfl, hfz, hnd⟩ := hW
  rw [hvars] at hV
  obtain ⟨rfl, rfl⟩ := trodVars_none hV
  refine (walk W base args ds p hval hA).mono fun e W' ⟨he, bel⟩ => ?_
  subst he
  obtain ⟨h1, h2, h3⟩ := hs ds (trodAll_length _ _ _ _ hA)
  refine ⟨_, rfl, ds, [], p ++ [], [], p, [], hW', ?_, ?_, ?_, bel.frame _, fun h => by cases h⟩
  · rw [h1, hrt]
    exact trodAll_mk1 (shut_bool htb _)
  · rw [h2]
    exact trodAll_below hl bel _ _ _ _ hts hA
  · rw [h3, hvars]
    exact rfl
end Go.Proofs.YthaicocfbmpnmaaDoor
namespace Go.Proofs.YthaicocfbmpnmaaDoor
set_option maxRecDepth 100000
open Go.ChangeShapes Go.WideShapes Go.ChangeAt Go.RowKit
end Go.Proofs.YthaicocfbmpnmaaDoor
namespace Go.Proofs.YthaicocfbmpnmaaDoor
set_option maxRecDepth 100000
open Go.ChangeShapes Go.WideShapes Go.ChangeAt Go.RowKit
theorem ownNone : ownKnob Tryd.prog.godebug = none := by kernel_rfl
theorem laidAll : laidOutB Tryd.prog = true := by kernel_rfl
theorem gStart : Tryd.prog.globalNamed "planchet/sha.start" = some 0 := by kernel_rfl
theorem gKeys : Tryd.prog.globalNamed "planchet/sha.constants" = some 1 := by kernel_rfl
theorem gtStart : (Tryd.prog.globals[0]?).map (·.type) = some 106 := by kernel_rfl
theorem gtKeys : (Tryd.prog.globals[1]?).map (·.type) = some 137 := by kernel_rfl
/-- what the rows list -/
abbrev laid2 : List (String × DataW Unit) := [("planchet/sha.start", Rows.laid_planchet_sha_start), ("planchet/sha.constants", Rows.laid_planchet_sha_constants)]
def startZ : List Int := [Sha.start.a, Sha.start.b, Sha.start.c, Sha.start.d, Sha.start.e, Sha.start.f, Sha.start.g, Sha.start.h].map fun x : Nat => (x : Int)
def keysZ : List Int := Sha.keys.map fun x : Nat => (x : Int)
theorem start_tab : (Rows.laid_planchet_sha_start : DataW Unit) = Lib.tabData .u32 startZ := by kernel_rfl
theorem keys_tab : (Rows.laid_planchet_sha_constants : DataW Unit) = Lib.tabData .u32 keysZ := by kernel_rfl
theorem tab_of_laid {W : World} (h : laidMetH Tryd.prog laid2 W) : ShaTab W := by
  rw [MakeChecks.laidMetH_plain _ _ _ (by kernel_rfl)] at h
  have h' : laidMet Tryd.prog (("planchet/sha.start", Lib.tabData .u32 startZ) :: [("planchet/sha.constants", Lib.tabData .u32 keysZ)]) W := by
    rw [← start_tab, ← keys_tab]
    exact h
  have hS := Lib.tabIs_of_head gStart gtStart Tryd.underlying106 Tryd.underlying105 (by kernel_rfl) (by kernel_rfl) h'
  have hK := Lib.tabIs_of_head gKeys gtKeys Tryd.underlying137 Tryd.underlying105 (by kernel_rfl) (by kernel_rfl) h'.tail
  have cS := fun i hi => hS.cell gStart i hi
  have cK := fun i hi => hK.cell gKeys i hi
  have hlS : startZ.length = 8 := rfl
  have hlK : keysZ.length = 64 := by simp [keysZ, Sha.keys]
  refine ⟨World.block_lt_of_cell? W _ (cK 0 (by omega)), World.block_lt_of_cell? W _ (cS 0 (by omega)), fun j hj => ?_, ?_⟩
  · rw [cK j (by omega)]
    have hj' : j < Sha.keys.length := by simpa [keysZ] using (show j < keysZ.length by omega)
    simp [keysZ, hj']
  · exact ⟨cS 0 (by omega), cS 1 (by omega), cS 2 (by omega), cS 3 (by omega), cS 4 (by omega), cS 5 (by omega), cS 6 (by omega), cS 7 (by omega)⟩
/-- the door's own heap meets the condition -/
theorem door_met (os : Os) (args : Array Value) : laidMetH Tryd.prog laid2 ((World.doorLaid Tryd.prog 19 os).forCall (fun _ _ => 0) ⟨#[], args, []⟩).memory :=
  laidMetH_of_parts3 (fuel := 8) (laidMet_of_run' 8 (by kernel_rfl) (by kernel_rfl)) (by kernel_rfl) (by kernel_rfl)
/-- From the walk to what the row's builder asks, with the form's reach and the tables. -/
theorem lift_tied {H : Type} {enc : TypeId × Value → H} {os : Os} {f : FuncId} {fn : Func} {s : ChangeSpec} {conds : List PathCond} {tb : TypeId}
    (started : os.Started) (noInit : Tryd.prog.inits.idxOf? f = none) (hfn : Tryd.prog.funcs[f]? = some fn)
    (hvars : s.vars = []) (hts : (fn.params.toList.all fun t => Tryd.prog.readableRec t && decide (t < Tryd.prog.types.size)) = true)
    (hrt : fn.resultTypes = #[tb]) (htb : Tryd.prog.underlying tb = some .bool)
    (hs : ∀ ds : List (DataW H), ds.length = fn.params.toList.length → (s.fn H (ds ++ [])).results = [.lit (.bool true)] ∧ (s.fn H (ds ++ [])).args = ds ∧ (s.fn H (ds ++ [])).vars = [])
    (witness : ∃ (w : World) (tape : Tape) (i : Input), w.os = os ∧ (w.forCall tape i).Shaped Tryd.checked.prog ∧ i.vars = [] ∧ Input.okWide Tryd.checked.prog (w.forCall tape i) .any w.heap.size f i ∧
      ((s.pre enc Tryd.checked.prog fn conds false (w.forCall tape i).memory i.args ∧ laidMetH Tryd.prog laid2 (w.forCall tape i).memory) ∧ sizedMet enc Tryd.checked.prog fn (OpenSpec.ofChange s) false (w.forCall tape i).memory i.args) ∧ Assume.holds {} Tryd.checked.prog (lone (Frame.enter Tryd.checked.prog f i.args .normal) [] (w.forCall tape i)))
    (walk : ∀ (W : World) (base : Nat) (args : Array Value) (ds : List (DataW H)) (p : List MemPlace),
      (∀ (j : Nat) t v, fn.params[j]? = some t → args[j]? = some v → Value.okWide Tryd.prog W .any base t v) →
      DataW.TrodAll enc Tryd.prog W 0 (fun _ => true) true fn.params.toList args.toList ds p →
      (DataW.weightsEach Tryd.prog fn.params.toList ds).all (· ≤ reachBytes) = true → ShaTab W →
      Calls Tryd.prog f args W fun e W' => e = .returned (.bool true) ∧ Below W.heap.size W W') :
    ReturnsInHanded {} Tryd.checked os f .any (fun w args => (s.pre enc Tryd.prog fn conds false w args ∧ laidMetH Tryd.prog laid2 w) ∧ sizedMet enc Tryd.prog fn (OpenSpec.ofChange s) false w args) (s.post enc Tryd.prog fn false true false false) := by
  refine returnsInHanded_of_change_and (C := Tryd.checked) (X := fun w _ => laidMetH Tryd.prog laid2 w) (fun _ _ _ hh h => h.of_heap hh) ownNone started noInit hfn witness ?_
  intro W base args ds gs before hval hW _ hsz hL _
  have hW' := hW
  obtain ⟨p, q, hA, hV, rfl, hfz, hnd⟩ := hW
  rw [hvars] at hV
  obtain ⟨rfl, rfl⟩ := trodVars_none hV
  have hsz : (DataW.weightsEach Tryd.prog fn.params.toList ds).all (· ≤ reachBytes) = true := by
    have e1 : s.plain.varTypes Tryd.checked.prog = [] := by
      simp [DataSpec.varTypes, ChangeSpec.plain, hvars]
    rw [e1, List.append_nil, List.append_nil] at hsz
    exact hsz
  refine (walk W base args ds p hval hA hsz (tab_of_laid hL)).mono fun e W' ⟨he, bel⟩ => ?_
  subst he
  obtain ⟨h1, h2, h3⟩ := hs ds (trodAll_length _ _ _ _ hA)
  refine ⟨_, rfl, ds, [], p ++ [], [], p, [], hW', ?_, ?_, ?_, bel.frame _, fun h => by cases h⟩
  · rw [h1, hrt]
    exact trodAll_mk1 (shut_bool htb _)
  · rw [h2]
    exact trodAll_below laidAll bel _ _ _ _ hts hA
  · rw [h3, hvars]
    exact rfl
end Go.Proofs.YthaicocfbmpnmaaDoor
namespace Go.Proofs.YthaicocfbmpnmaaDoor
set_option maxRecDepth 100000
open Go.ChangeShapes Go.WideShapes Go.ChangeAt Go.RowKit
/-- the digits of the bytes -/
def dig (ds : List Int) : List Int := ds.flatMap fun x => [x / 16, x % 16]
def rowOf (ds : List Int) (k : Nat) : List Int := dig (ds.take k) ++ List.replicate (67 - 2 * k) 0
def lacks (zs : List Int) : Int := zs.foldl (fun s x => wrap64 (s + wrap64 (15 - x))) 0
/-- what numbers from 0 to 15 lack, without a wrap -/
def short (zs : List Int) : Int := (zs.map (15 - ·)).sum
/-- the digits of a digest -/
def digits (ds : List Int) : List Int := dig ds ++ [short (dig ds) / 16 / 16 % 16, short (dig ds) / 16 % 16, short (dig ds) % 16]
end Go.Proofs.YthaicocfbmpnmaaDoor
namespace Go.Proofs.YthaicocfbmpnmaaDoor
set_option maxRecDepth 100000
open Go.ChangeShapes Go.WideShapes Go.ChangeAt Go.RowKit
end Go.Proofs.YthaicocfbmpnmaaDoor
namespace Go.Proofs.YthaicocfbmpnmaaDoor
set_option maxRecDepth 100000
open Go.ChangeShapes Go.WideShapes Go.ChangeAt Go.RowKit
/-- a row of 32 numbers each, laid flat -/
theorem flat_length {ds : List (List Int)} (h : ∀ d ∈ ds, d.length = 32) : ds.flatten.length = ds.length * 32 := by
  induction ds with
  | nil => rfl
  | cons d ds ih =>
    rw [List.flatten_cons, List.length_append, ih fun x hx => h x (List.mem_cons_of_mem _ hx), h d (List.mem_cons_self ..), List.length_cons]
    omega
theorem flat_at {ds : List (List Int)} (h : ∀ d ∈ ds, d.length = 32) : ∀ (j k : Nat), j < ds.length → k < 32 → ds.flatten[j * 32 + k]? = (ds.getD j [])[k]? := by
  induction ds with
  | nil => intro j k hj; simp at hj
  | cons d ds ih =>
    intro j k hj hk
    have hd := h d (List.mem_cons_self ..)
    rw [List.flatten_cons]
    cases j with
    | zero =>
      rw [List.getElem?_append_left (by omega)]
      simp
    | succ j =>
      rw [List.getElem?_append_right (by omega), hd, show (j + 1) * 32 + k - 32 = j * 32 + k by omega, ih (fun x hx => h x (List.mem_cons_of_mem _ hx)) j k (by simpa using hj) hk]
      simp
theorem flat_set {ds : List (List Int)} (h : ∀ d ∈ ds, d.length = 32) (x : List Int) (hx : x.length = 32) : ∀ (j : Nat), j < ds.length → splice ds.flatten (j * 32) x = (ds.set j x).flatten := by
  induction ds with
  | nil => intro j hj; simp at hj
  | cons d ds ih =>
    intro j hj
    have hd := h d (List.mem_cons_self ..)
    cases j with
    | zero =>
      unfold splice
      simp [hx, hd]
    | succ j =>
      have := ih (fun x hx => h x (List.mem_cons_of_mem _ hx)) j (by simpa using hj)
      unfold splice at this ⊢
      rw [List.set_cons_succ, List.flatten_cons, List.flatten_cons, ← this]
      rw [List.take_append, List.drop_append, hd, List.take_of_length_le (by omega), show (j + 1) * 32 - 32 = j * 32 by omega, List.drop_eq_nil_of_le (by omega), List.nil_append, show (j + 1) * 32 + x.length - 32 = j * 32 + x.length by omega, List.append_assoc]
/-- the cells of a row of digests -/
def dcs (ds : List (List Int)) : Array Value := (ds.flatten.map (Value.int .u8)).toArray
theorem dcs_size {ds : List (List Int)} (h : ∀ d ∈ ds, d.length = 32) : (dcs ds).size = ds.length * 32 := by
  unfold dcs
  rw [List.size_toArray, List.length_map, flat_length h]
theorem dcs_get (ds : List (List Int)) (j : Nat) : (dcs ds)[j]? = (ds.flatten[j]?).map (Value.int .u8) := by
  unfold dcs
  rw [List.getElem?_toArray, List.getElem?_map]
theorem Dg.lens {ds : List (List Int)} (h : ∀ d ∈ ds, Dg d) : ∀ d ∈ ds, d.length = 32 := fun d hd => (h d hd).len
theorem Dg.getD {ds : List (List Int)} (h : ∀ d ∈ ds, Dg d) {j : Nat} (hj : j < ds.length) : Dg (ds.getD j []) := by
  rw [List.getD_eq_getElem?_getD, List.getElem?_eq_getElem hj]
  exact h _ (List.getElem_mem hj)
/-- Digests, in memory that was there. -/
structure DigsAt (w : World) (a : Option Addr) (len cap : Nat) (ds : List (List Int)) : Prop where
  length : ds.length = len
  le : len ≤ cap
  max : cap ≤ 9223372036854775807
  each : ∀ d ∈ ds, Dg d
  mem : (a = none ∧ len = 0 ∧ cap = 0) ∨ ∃ x o s, a = some ⟨x, o, s⟩ ∧ ∀ j, j < len → s = none ∧ x < w.heap.size ∧ w.rangeAt x (o + j * 32) ((ds.getD j []).map (Value.int .u8))
theorem rangeAt_below {w w' : World} {x o : Nat} {cs : List Value} (h : w.rangeAt x o cs) (hx : x < w.heap.size) (hb : Below w.heap.size w w') : w'.rangeAt x o cs := fun j v hv => by
  rw [hb.cell (p := ⟨x, o + j, none⟩) hx]; exact h j v hv
theorem DigsAt.below {w w' : World} {a : Option Addr} {len cap : Nat} {ds : List (List Int)} (h : DigsAt w a len cap ds) (hb : Below w.heap.size w w') : DigsAt w' a len cap ds := by
  obtain ⟨h1, h2, h3, h4, h | ⟨x, o, s, rfl, hc⟩⟩ := h
  · exact ⟨h1, h2, h3, h4, .inl h⟩
  · refine ⟨h1, h2, h3, h4, .inr ⟨x, o, s, rfl, fun j hj => ?_⟩⟩
    obtain ⟨q0, q1, q2⟩ := hc j hj
    exact ⟨q0, Nat.lt_of_lt_of_le q1 hb.size, rangeAt_below q2 q1 hb⟩
theorem DigsAt.nil (w : World) : DigsAt w none 0 0 [] := ⟨rfl, Nat.le_refl _, by omega, by simp, .inl ⟨rfl, rfl, rfl⟩⟩
theorem DigsAt.at_ {w : World} {a : Option Addr} {len cap : Nat} {ds : List (List Int)} (h : DigsAt w a len cap ds) (h0 : 0 < len) : ∃ x o, a = some ⟨x, o, none⟩ ∧ x < w.heap.size ∧ ∀ j, j < len → w.rangeAt x (o + j * 32) ((ds.getD j []).map (Value.int .u8)) := by
  obtain ⟨h1, h2, h3, h4, ⟨_, h, _⟩ | ⟨x, o, s, rfl, hc⟩⟩ := h
  · omega
  · obtain ⟨rfl, hx, _⟩ := hc 0 h0
    exact ⟨x, o, rfl, hx, fun j hj => (hc j hj).2.2⟩
theorem DigsAt.get {w : World} {a : Option Addr} {len cap : Nat} {ds : List (List Int)} (h : DigsAt w a len cap ds) {j : Nat} (hj : j < len) : Dg (ds.getD j []) := Dg.getD h.each (by rw [h.length]; exact hj)
/-- A block of digests, laid flat. -/
theorem Blk.digs {w : World} {g : Nat} {ds : List (List Int)} {T : TypeId} (h : Blk w g (dcs ds) T) (hd : ∀ d ∈ ds, Dg d) : ∀ j, j < ds.length → w.rangeAt g (j * 32) ((ds.getD j []).map (Value.int .u8)) := fun j hj k v hv => by
  have hk : k < 32 := by
    have := (List.getElem?_eq_some_iff.1 hv).1
    simp only [List.length_map, (Dg.getD hd hj).len] at this
    exact this
  rw [h.cell, dcs_get, flat_at (Dg.lens hd) j k hj hk]
  rw [List.getElem?_map] at hv
  exact hv
/-- A digest is stored to a row. -/
theorem Blk.set_dig {w : World} {g : Nat} {ds : List (List Int)} {T : TypeId} (h : Blk w g (dcs ds) T) (hd : ∀ d ∈ ds, Dg d) {x : List Int} (hx : Dg x) {j : Nat} (hj : j < ds.length) :
    Blk (w.setCells g (j * 32) (x.map (Value.int .u8))) g (dcs (ds.set j x)) T := by
  have hl := flat_length (Dg.lens hd)
  unfold dcs at h ⊢
  have h0 : Blk w g (([] : List Value) ++ (ds.flatten.map (Value.int .u8) ++ [])).toArray T := by simpa using h
  have h1 := Blk.setCells [] (ds.flatten.map (Value.int .u8)) [] (j * 32) (x.map (Value.int .u8)) h0 (by simp only [List.length_map, hl, hx.len]; omega)
  have e : (([] : List Value) ++ (splice (ds.flatten.map (Value.int .u8)) (j * 32) (x.map (Value.int .u8)) ++ [])) = (ds.set j x).flatten.map (Value.int .u8) := by
    rw [← flat_set (Dg.lens hd) x hx.len j hj]
    simp [splice]
  rw [e] at h1
  simpa using h1
theorem digest_cells {H : Type} {enc : TypeId × Value → H} {P : Program} {W : World} {base : Nat} {spare : Nat → Bool} {held : Bool} {n : Nat} {e q : TypeId} {cs : List Value} {x : DataW H × List MemPlace} (he : P.underlying e = some (.array 32 q)) (hq : P.underlying q = some (.int .u8))
    (ce : P.cellsOf e = 32) (cq : P.cellsOf q = 1) (h : DataW.trod enc P W base spare held n e cs = some x) : ∃ d : List Int, Dg d ∧ cs = d.map (Value.int .u8) := by
  obtain ⟨ys, m, _, _, hl, hyl, hel⟩ := DataW.trod_array he h
  rw [ce] at hl
  have key : ∀ (j : Nat), j < 32 → ∃ x : Int, cs[j]? = some (.int .u8 x) ∧ (Lit.int .u8 x).wf = true := by
    intro j hj
    have h1 := hel j hj
    have hjl : j < cs.length := by omega
    rw [cq, Nat.mul_one] at h1
    obtain ⟨y, hy⟩ : ∃ y, ys[j]? = some y := ⟨_, List.getElem?_eq_getElem (by omega)⟩
    rw [hy] at h1
    have e1 : (cs.drop j).take 1 = [cs[j]] := by
      rw [List.drop_eq_getElem_cons hjl, List.take_succ_cons, List.take_zero]
    rw [e1] at h1
    obtain ⟨a, e0, _, wa⟩ := DataW.trod_int hq h1
    simp only [List.cons.injEq, and_true] at e0
    exact ⟨a, by rw [List.getElem?_eq_getElem hjl, e0], wa⟩
  refine ⟨cs.map fun v => match v with | .int _ x => x | _ => 0, ⟨by simp; omega, ?_⟩, ?_⟩
  · intro x hx
    simp only [List.mem_map] at hx
    obtain ⟨v, hv, rfl⟩ := hx
    obtain ⟨j, hj, rfl⟩ := List.getElem_of_mem hv
    obtain ⟨x, hx, hw⟩ := key j (by omega)
    rw [List.getElem?_eq_getElem hj] at hx
    rw [Option.some.inj hx]
    exact wf_u8 hw
  · apply List.ext_getElem?
    intro j
    rcases Nat.lt_or_ge j 32 with hj | hj
    · obtain ⟨x, hx, _⟩ := key j hj
      simp [hx]
    · rw [List.getElem?_eq_none (by omega), List.getElem?_eq_none (by simp; omega)]
/-- A row of digests of the call's own. -/
structure OwnD (w : World) (base : Nat) (e : TypeId) (v : Value) (ds : List (List Int)) : Prop where
  row : w.ownsRow base e 32 v ds.length (ds.flatten.map (Value.int .u8))
  each : ∀ d ∈ ds, Dg d
theorem OwnD.nil (w : World) (base : Nat) (e : TypeId) : OwnD w base e (.slice none 0 0) [] := ⟨World.ownsRow_nil w base e 32, by simp⟩
theorem OwnD.below {w w' : World} {base : Nat} {e : TypeId} {v : Value} {ds : List (List Int)} (h : OwnD w base e v ds) (hb : Below w.heap.size w w') : OwnD w' base e v ds := ⟨owns_below h.row hb, h.each⟩
theorem OwnD.lt {w : World} {base : Nat} {e : TypeId} {v : Value} {ds : List (List Int)} (h : OwnD w base e v ds) : ∀ k, v.ownBlock = some k → base ≤ k ∧ k < w.heap.size := h.row.lt
theorem OwnD.re {w : World} {base base' : Nat} {e : TypeId} {v : Value} {ds : List (List Int)} (h : OwnD w base e v ds) (hb : base' ≤ base) : OwnD w base' e v ds := by
  obtain ⟨⟨h1, h2⟩, h3⟩ := h
  refine ⟨⟨h1, h2.imp id ?_⟩, h3⟩
  rintro ⟨g, cap, cur, rfl, hg, hh⟩
  exact ⟨g, cap, cur, rfl, Nat.le_trans hb hg, hh⟩
theorem OwnD.digs {w : World} {base : Nat} {e : TypeId} {v : Value} {ds : List (List Int)} (h : OwnD w base e v ds) : ∃ a cap, v = .slice a ds.length cap ∧ DigsAt w a ds.length cap ds ∧ (a = none ∨ ∃ g, a = some ⟨g, 0, none⟩ ∧ base ≤ g) := by
  obtain ⟨⟨h1, ⟨rfl, h2⟩ | ⟨g, cap, cur, rfl, hg, hh, hle, hmx, hsz, htk⟩⟩, h3⟩ := h
  · obtain rfl := List.eq_nil_of_length_eq_zero h2
    exact ⟨none, 0, rfl, DigsAt.nil w, .inl rfl⟩
  · refine ⟨_, cap, rfl, ⟨rfl, hle, by unfold maxLen at hmx; omega, h3, .inr ⟨g, 0, none, rfl, fun j hj => ⟨rfl, (Array.getElem?_eq_some_iff.1 hh).1, fun k v hv => ?_⟩⟩⟩, .inr ⟨g, rfl, hg⟩⟩
    have hk : k < 32 := by
      have := (List.getElem?_eq_some_iff.1 hv).1
      simp only [List.length_map, (Dg.getD h3 hj).len] at this
      exact this
    have hb : Blk w g cur e := hh
    rw [Nat.zero_add, hb.cell]
    have : (cur.toList.take (ds.length * 32))[j * 32 + k]? = some v := by
      rw [htk, List.getElem?_map, flat_at (Dg.lens h3) j k hj hk, ← List.getElem?_map]
      exact hv
    rw [List.getElem?_take_of_lt (by omega)] at this
    simpa using this
section
variable {P : Program} {w : World} {base : Nat} {t e : TypeId} {i : TypeInfo} {v z : Value} {ds : List (List Int)}
/-- One digest more. -/
theorem run_append_dig (ty : TypeId) (ht : P.underlying t = some (.slice e)) (hi : P.info? e = some i) (hz : i.zero = some z) (hzs : z.cells.size = 32) (hsize : i.size = 32) (hby : i.bytes = 32) (hown : OwnD w base e v ds)
    {b : Nat} {x : List Int} {T : TypeId} (hk : Blk w b (x.map (Value.int .u8)).toArray T) (hx : Dg x) (hb : ds.length ≤ 4000000000000) (hbase : base ≤ w.heap.size) :
    ∃ v' w', (Builtin.append_ #[t, t] ty #[v, .slice (some ⟨b, 0, none⟩) 1 1]).run P w = .ok v' w' ∧ OwnD w' base e v' (ds ++ [x]) ∧ w.grownBy w' v.ownBlock ∧ Below base w w' := by
  have hbel : ∀ {w' : World}, w.grownBy w' v.ownBlock → Below base w w' := fun hg => ⟨hg.os, hg.tape, hg.output, hg.size, fun k hk => hg.block k (by omega) (fun e => by have := (hown.lt k e.symm).1; omega)⟩
  obtain ⟨v', w', h1, h2, h3, _⟩ := run_append_own (P := P) w base t ty e i z 32 32 ht hi hz hsize hby hzs (by omega) v ds.length _ hown.row ⟨b, 0, none⟩ 1 1 (x.map (Value.int .u8)) (by simp [hx.len]) (news_blk hk) (fun u hu => by
    simp only [List.mem_map] at hu
    obtain ⟨_, _, rfl⟩ := hu
    rfl) (by unfold maxLen; omega) (by omega) hbase
  refine ⟨v', w', h1, ⟨?_, ?_⟩, h3, ?_⟩
  · have : (ds ++ [x]).flatten.map (Value.int .u8) = ds.flatten.map (Value.int .u8) ++ x.map (Value.int .u8) := by simp
    rw [this, List.length_append]
    exact h2
  · intro d hd
    rcases List.mem_append.1 hd with h | h
    · exact hown.each d h
    · simp only [List.mem_singleton] at h
      rw [h]; exact hx
  · exact hbel h3
theorem wpList_append_dig {ops : Array Oper} {rest : List Oper} {o : Oper} {A : Act} {Q : Exit → Act → World → Prop} (hgd : o.guard = none) (s x : Operand) (ho : o.op = .call { callee := .builtin .append, args := #[s, x], argTypes := #[t, t] })
    (ht : P.underlying t = some (.slice e)) (hi : P.info? e = some i) (hz : i.zero = some z) (hzs : z.cells.size = 32) (hsize : i.size = 32) (hby : i.bytes = 32) (hs : A.eval s = v) (hown : OwnD w base e v ds)
    {b : Nat} {y : List Int} {T : TypeId} (hx : A.eval x = .slice (some ⟨b, 0, none⟩) 1 1) (hk : Blk w b (y.map (Value.int .u8)).toArray T) (hy : Dg y) (hb : ds.length ≤ 4000000000000) (hbase : base ≤ w.heap.size)
    (h : ∀ v' w', OwnD w' base e v' (ds ++ [y]) → w.grownBy w' v.ownBlock → Below base w w' → wpList P ops Q rest (A.put o.dst v') w') : wpList P ops Q (o :: rest) A w :=
  wpList_plain hgd fun K hK => by
    obtain ⟨v', w', hr, h2, h3, h4⟩ := run_append_dig o.type ht hi hz hzs hsize hby hown hk hy hb hbase
    unfold Oper.wp execOp
    simp only [ho, resolve, invoke, builtin, Sem.run_bind, Sem.run_pure, Result.andThen_ok, List.map_toArray, List.map_cons, List.map_nil, hs, hx, hr, Oper.upon_value]
    exact hK _ _ (h v' w' h2 h3 h4)
end
section
variable {P : Program} {ops : Array Oper} {rest : List Oper} {op : Oper} {a : Act} {w : World} {Q : Exit → Act → World → Prop} {t e : TypeId}
/-- An element's address. -/
theorem run_indexAt_digs (ht : P.underlying t = some (.slice e)) (hs : (P.info? e).map (·.size) = some 32) (b o len cap : Nat) (k : IntKind) (i : Int) (j : Nat) (hi : i = j) (hj : j < len) (w : World) :
    (Instr.indexAt t (.slice (some ⟨b, o, none⟩) len cap) (.int k i)).run P w = .ok (.pointer (some ⟨b, o + j * 32, none⟩)) w := by
  subst hi
  obtain ⟨i0, hi0, h32⟩ := Option.map_eq_some_iff.1 hs
  have hlt : (0 : Int) ≤ j ∧ (j : Int) < len := by omega
  unfold Instr.indexAt
  simp [asIntOf, Sem.run_bind, run_underlying ht, hlt, sizeOf, typeInfo, hi0, h32, hj, Addr.add_mid]
theorem wpList_index_digs (hgd : op.guard = none) (ty : TypeId) (x ix : Operand) (ho : op.op = .indexAddr ty x ix) (ht : P.underlying ty = some (.slice e)) (hs : (P.info? e).map (·.size) = some 32) (b o len cap : Nat) (hx : a.eval x = .slice (some ⟨b, o, none⟩) len cap)
    (k : IntKind) (i : Int) (hix : a.eval ix = .int k i) (j : Nat) (hi : i = j) (hj : j < len) (h : wpList P ops Q rest (a.put op.dst (.pointer (some ⟨b, o + j * 32, none⟩))) w) : wpList P ops Q (op :: rest) a w :=
  wpList_plain hgd fun K hK => by
    unfold Oper.wp execOp
    simp only [ho, hx, hix, Sem.run_bind, Sem.run_pure, Result.andThen_ok, run_indexAt_digs ht hs b o len cap k i j hi hj, Oper.upon_value]
    exact hK _ _ h
theorem quiet_index_digs {C : World → Prop} {K : Act → Prop} (ty : TypeId) (x ix : Operand) (ho : op.op = .indexAddr ty x ix) (ht : P.underlying ty = some (.slice e)) (hs : (P.info? e).map (·.size) = some 32) (b o len cap : Nat) (hx : a.eval x = .slice (some ⟨b, o, none⟩) len cap)
    (k : IntKind) (i : Int) (hix : a.eval ix = .int k i) (j : Nat) (hi : i = j) (hj : j < len) (h : K (a.put op.dst (.pointer (some ⟨b, o + j * 32, none⟩)))) : op.quiet P a C K :=
  ⟨.pointer (some ⟨b, o + j * 32, none⟩), fun w' hw' => by
    unfold Oper.quietAt execOp
    simp only [ho, hx, hix, Sem.run_bind, Sem.run_pure, Result.andThen_ok, run_indexAt_digs ht hs b o len cap k i j hi hj]
    simp [Oper.quietUpon], h⟩
theorem quiet_load_mid {C : World → Prop} {K : Act → Prop} (ty : TypeId) (x : Operand) (ho : op.op = .load ty x) (b o : Nat) (hx : a.eval x = .pointer (some ⟨b, o, none⟩)) (cs : List Value)
    (hk : ∀ w', C w' → w'.rangeAt b o cs) (d : TypeDesc) (hu : P.underlying ty = some d) (hd : d.isRow = true) (hi : (P.info? ty).map (·.size) = some cs.length)
    (h : K (a.put op.dst (.agg cs.toArray))) : op.quiet P a C K :=
  ⟨.agg cs.toArray, fun w' hw' => by
    unfold Oper.quietAt execOp
    simp only [ho, hx, Instr.loadAt, Instr.sureAddr, Sem.run_bind, Sem.run_pure, Result.andThen_ok, run_loadVar_mid w' b o ty cs d (hk w' hw') hu hd hi]
    simp [Oper.quietUpon], h⟩
end
end Go.Proofs.YthaicocfbmpnmaaDoor
namespace Go.Proofs.YthaicocfbmpnmaaDoor
set_option maxRecDepth 100000
open Go.ChangeShapes Go.WideShapes Go.ChangeAt Go.RowKit
/-- a text that a function hands back -/
def TextV (t : List Int) (v : Value) (w : World) : Prop := ∃ a n c, v = .slice a n c ∧ TextAt w a n c t
namespace FlowB
theorem store_skips {P : Program} {o : Oper} {A : Act} {w : World} (ty : TypeId) (x y : Operand) (ho : o.op = .store ty x y) (b : Nat) (cells : Array Value) (hx : A.eval x = .pointer (some ⟨b, 0, none⟩)) (hy : A.eval y = .agg cells)
    (cs : Array Value) (T : TypeId) (hk : Blk w b cs T) (n : Nat) (hi : (P.info? ty).map (·.size) = some n) (hs : cs.size = n) (hn : cells.size = n) (h1 : cells.all (·.oneCell') = true) {S : List Nat} {G : World → Prop} (hb : b ∈ S) (hG : ∀ w2, But b w w2 → Blk w2 b cells T → G w2) :
    ∃ w2, (execOp A.eval o).run P w = .ok .skip w2 ∧ ButIn S w w2 ∧ G w2 := by
  obtain ⟨w2, q1, q2, q3⟩ := exec_store_blk ty x y ho b cells hx hy cs T hk n hi hs hn h1
  exact ⟨w2, q1, ButIn.of_but q2 hb, hG w2 q2 q3⟩
end FlowB
end Go.Proofs.YthaicocfbmpnmaaDoor
namespace Go.Proofs.YthaicocfbmpnmaaDoor
set_option maxRecDepth 100000
open Go.ChangeShapes Go.WideShapes Go.ChangeAt Go.RowKit
/-- where a part of a row of digests begins -/
def cutD (a : Option Addr) (l cap : Nat) : Option Addr := if cap = l then a else a.map (·.add (l * 32))
theorem cutD_zero (a : Option Addr) (cap : Nat) : cutD a 0 cap = a := by
  unfold cutD
  split
  · rfl
  · cases a with
    | none => rfl
    | some a => obtain ⟨x, o, s⟩ := a; cases s <;> simp [Addr.add]
theorem DigsAt.cut {w : World} {a : Option Addr} {len cap : Nat} {ds : List (List Int)} (h : DigsAt w a len cap ds) (l hi : Nat) (hl : l ≤ hi) (hh : hi ≤ len) : DigsAt w (cutD a l cap) (hi - l) (cap - l) ((ds.drop l).take (hi - l)) := by
  obtain ⟨h1, h2, h3, h4, h5⟩ := h
  refine ⟨by simp; omega, by omega, by omega, fun x hx => h4 x (List.mem_of_mem_drop (List.mem_of_mem_take hx)), ?_⟩
  unfold cutD
  rcases h5 with ⟨rfl, rfl, rfl⟩ | ⟨x, o, s, rfl, hc⟩
  · left
    refine ⟨by split <;> rfl, by omega, by omega⟩
  · right
    split
    · exact ⟨x, o, s, rfl, fun j hj => by omega⟩
    · rcases Nat.eq_or_lt_of_le hl with rfl | hlt
      · rcases s with _ | s
        · exact ⟨x, o + l * 32, none, by rw [Option.map_some, Addr.add_mid], fun j hj => by omega⟩
        · cases ha : (⟨x, o, some s⟩ : Addr).add (l * 32) with
          | mk x' o' s' => exact ⟨x', o', s', by simp [ha], fun j hj => by omega⟩
      · obtain ⟨rfl, hx, _⟩ := hc l (by omega)
        refine ⟨x, o + l * 32, none, by rw [Option.map_some, Addr.add_mid], fun j hj => ⟨rfl, hx, ?_⟩⟩
        rw [show o + l * 32 + j * 32 = o + (l + j) * 32 by omega]
        have := (hc (l + j) (by omega)).2.2
        rw [show ((ds.drop l).take (hi - l)).getD j [] = ds.getD (l + j) [] by simp [List.getD_eq_getElem?_getD, show j < hi - l by omega]]
        exact this
section
variable {P : Program} {t e : TypeId}
theorem run_cutd_h (ht : P.underlying t = some (.slice e)) (hs : (P.info? e).map (·.size) = some 32) (a : Option Addr) (len cap : Nat) (hi : Int) (w : World) (h0 : 0 ≤ hi) (h2 : hi ≤ cap) :
    (Instr.slice t (.slice a len cap) none (some (.int .i64 hi)) none).run P w = .ok (.slice a hi.toNat cap) w := by
  have he : P.elem t = e := by simp [Program.elem, ht]
  rw [run_slice_h (w := w) t a len cap (by rw [he]; exact ht) _ hi h0 h2]
  obtain ⟨i, hi1, hi2⟩ := Option.map_eq_some_iff.1 hs
  have := cutD_zero a cap
  unfold cutD at this
  simp only [Nat.zero_mul] at this
  simp [sizeOf, typeInfo, he, hi1, hi2, sliced, this]
theorem run_cutd_l (ht : P.underlying t = some (.slice e)) (hs : (P.info? e).map (·.size) = some 32) (a : Option Addr) (len cap : Nat) (l : Int) (w : World) (h0 : 0 ≤ l) (h1 : l ≤ len) :
    (Instr.slice t (.slice a len cap) (some (.int .i64 l)) none none).run P w = .ok (.slice (cutD a l.toNat cap) (len - l.toNat) (cap - l.toNat)) w := by
  have he : P.elem t = e := by simp [Program.elem, ht]
  rw [run_slice_l (w := w) t a len cap (by rw [he]; exact ht) _ l h0 h1]
  obtain ⟨i, hi1, hi2⟩ := Option.map_eq_some_iff.1 hs
  simp [sizeOf, typeInfo, he, hi1, hi2, sliced, cutD]
end
theorem info_dig : (Tryd.prog.info? 23).map (fun i => (i.zero, i.size, i.bytes)) = some (some (.agg (zD.map (Value.int .u8)).toArray), 32, 32) := by kernel_rfl
theorem zD_rows (n : Nat) : madeCells (Value.agg (zD.map (Value.int .u8)).toArray).cells (n * 32) = (dcs (List.replicate n zD)) := by
  unfold dcs
  apply Array.ext'
  have hz : (List.replicate n zD).flatten = List.replicate (n * 32) 0 := by
    unfold zD
    rw [List.flatten_replicate_replicate]
  rw [hz]
  apply List.ext_getElem?
  intro j
  simp only [madeCells, Array.toList_map, Array.toList_range, List.map_replicate, List.getElem?_map, List.getElem?_replicate]
  rcases Nat.lt_or_ge j (n * 32) with hj | hj
  · rw [List.getElem?_range hj, if_pos hj]
    have hm : j % 32 < 32 := Nat.mod_lt _ (by omega)
    have hsz : (zD.map (Value.int .u8)).toArray.size = 32 := by rw [List.size_toArray, List.length_map, Dg.zero.len]
    have hc : (zD.map (Value.int .u8)).toArray[j % 32]! = Value.int .u8 0 := by
      rw [getElem!_pos _ _ (by rw [hsz]; exact hm)]
      simp only [zD, List.map_replicate, List.getElem_toArray, List.getElem_replicate]
    show some ((zD.map (Value.int .u8)).toArray[j % (zD.map (Value.int .u8)).toArray.size]!) = _
    rw [hsz, hc]
  · rw [List.getElem?_eq_none (by simpa using hj), if_neg (by omega)]
    rfl
/-- a row of digests is made -/
theorem make_digs (n : Nat) (i : Int) (hi : i = n) (hn : n ≤ 500000) (w0 : World) : (Instr.makeSlice 27 (.int .i64 i) (.int .i64 i)).run Tryd.prog w0 = .ok (.slice (some ⟨w0.heap.size, 0, none⟩) n n) (w0.alloc (.cells (dcs (List.replicate n zD)) 23)) := by
  subst hi
  obtain ⟨i0, hi, hz0, hz1, hz2⟩ := info_parts info_dig
  have hr := run_makeSlice (P := Tryd.prog) w0 27 23 i0 _ Tryd.underlying27 hi hz0 .i64 .i64 n n (by omega) (by omega) (by rw [hz1]; simp; omega) (by rw [hz2]; omega) (by omega)
  rw [hz1, Int.toNat_natCast, zD_rows] at hr
  exact hr
theorem zRow (n : Nat) : ∀ d ∈ List.replicate n zD, Dg d := fun d hd => by
  rw [List.eq_of_mem_replicate hd]; exact Dg.zero
theorem zD_cells32 : (Value.agg (zD.map (Value.int .u8)).toArray).cells.size = 32 := by
  show (zD.map (Value.int .u8)).toArray.size = 32
  rw [List.size_toArray, List.length_map, Dg.zero.len]
end Go.Proofs.YthaicocfbmpnmaaDoor
namespace Go.Proofs.YthaicocfbmpnmaaDoor
set_option maxRecDepth 100000
open Go.ChangeShapes Go.WideShapes Go.ChangeAt Go.RowKit
@[irreducible] def joinZ (a b pub ad : List Int) : List Int :=
  hZ (atZ pub (setAd ad (ad.getD 5 0) (ad.getD 6 0) 0)) (xorD a (atZ pub (setAd ad (ad.getD 5 0) (ad.getD 6 0) 1))) (xorD b (atZ pub (setAd ad (ad.getD 5 0) (ad.getD 6 0) 2)))
end Go.Proofs.YthaicocfbmpnmaaDoor
namespace Go.Proofs.YthaicocfbmpnmaaDoor
set_option maxRecDepth 100000
open Go.ChangeShapes Go.WideShapes Go.ChangeAt Go.RowKit
/-- a digest is stored to a row -/
theorem wpList_store_dig {P : Program} {ops : Array Oper} {rest : List Oper} {op : Oper} {a : Act} {w : World} {Q : Exit → Act → World → Prop} (hgd : op.guard = none) (ty : TypeId) (x y : Operand) (ho : op.op = .store ty x y) (b j : Nat) (d : List Int) (hx : a.eval x = .pointer (some ⟨b, 0 + j * 32, none⟩)) (hy : a.eval y = .agg (d.map (Value.int .u8)).toArray)
    (ds : List (List Int)) (T : TypeId) (hk : Blk w b (dcs ds) T) (hds : ∀ d ∈ ds, Dg d) (hd : Dg d) (hj : j < ds.length) (hi : (P.info? ty).map (·.size) = some 32)
    (h : ∀ w', But b w w' → Blk w' b (dcs (ds.set j d)) T → wpList P ops Q rest (a.put op.dst undef) w') : wpList P ops Q (op :: rest) a w := by
  refine wpList_store_mid hgd ty x y ho b (0 + j * 32) (d.map (Value.int .u8)).toArray hx hy (fun k hk' => ⟨?_, hk.free _⟩) (by rw [hi, hd.size]) (ints_one _ _) ?_
  · rw [hd.size] at hk'
    rw [hk.cell, Array.getElem?_eq_getElem (by rw [dcs_size (Dg.lens hds)]; omega)]; rfl
  · rw [Nat.zero_add]
    exact h _ (But.setCells _ _ _ (But.of (Below.refl _ _))) (hk.set_dig hds hd hj)
def aboveZ (pub ad : List Int) (lev : Int) (ds : List (List Int)) : List (List Int) :=
  ((List.range (ds.length / 2)).map fun (i : Nat) => joinZ (ds.getD (2 * i) []) (ds.getD (2 * i + 1) []) pub (setAd ad lev i 0)) ++ ds.drop (ds.length - ds.length % 2)
/-- the row, while it is filled -/
def fillZ (pub ad : List Int) (lev : Int) (ds : List (List Int)) (k : Nat) : List (List Int) :=
  ((List.range k).map fun (i : Nat) => joinZ (ds.getD (2 * i) []) (ds.getD (2 * i + 1) []) pub (setAd ad lev i 0)) ++ (List.replicate (ds.length / 2 - k) zD ++ ds.drop (ds.length - ds.length % 2))
end Go.Proofs.YthaicocfbmpnmaaDoor
namespace Go.Proofs.YthaicocfbmpnmaaDoor
set_option maxRecDepth 100000
open Go.ChangeShapes Go.WideShapes Go.ChangeAt Go.RowKit
def compZ (pub ad : List Int) : Nat → Nat → List (List Int) → List Int
  | 0, _, ds => ds.getD 0 []
  | f + 1, lev, ds => if ds.length ≤ 1 then ds.getD 0 [] else compZ pub ad f (lev + 1) (aboveZ pub ad lev ds)
end Go.Proofs.YthaicocfbmpnmaaDoor
namespace Go.Proofs.YthaicocfbmpnmaaDoor
set_option maxRecDepth 100000
open Go.ChangeShapes Go.WideShapes Go.ChangeAt Go.RowKit
theorem fold_set : ∀ (vs : List Value) (k off : Nat) (acc : Array Value), off + k + vs.length ≤ acc.size → ((vs.zipIdx k).foldl (fun cs (x : Value × Nat) => cs.setIfInBounds (off + x.2) x.1) acc).toList = splice acc.toList (off + k) vs
  | [], k, off, acc, h => by simp [splice]
  | v :: vs, k, off, acc, h => by
    simp only [List.length_cons] at h
    rw [List.zipIdx_cons, List.foldl_cons, fold_set vs (k + 1) off _ (by rw [Array.size_setIfInBounds]; omega)]
    unfold splice
    rw [Array.toList_setIfInBounds, show off + (k + 1) = (off + k) + 1 by omega, List.drop_set_of_lt (by omega), List.length_cons, show off + k + 1 + vs.length = off + k + (vs.length + 1) by omega]
    rw [List.take_succ_eq_append_getElem (by rw [List.length_set, Array.length_toList]; omega), List.take_set_of_le (Nat.le_refl _), List.getElem_set_self]
    simp
theorem fill_dig (cells : Array Value) (ds : List (List Int)) (hc : cells = dcs ds) (hds : ∀ d ∈ ds, Dg d) (x : List Int) (hx : Dg x) (j : Nat) (hj : j < ds.length) (rest : List (Nat × Value)) :
    Instr.fill (fun i => some (i * 32, 32)) cells ((j, .agg (x.map (Value.int .u8)).toArray) :: rest) = Instr.fill (fun i => some (i * 32, 32)) (dcs (ds.set j x)) rest := by
  subst hc
  have hs := dcs_size (Dg.lens hds)
  have hv : (Value.agg (x.map (Value.int .u8)).toArray).cells = (x.map (Value.int .u8)).toArray := rfl
  have hf := fold_set (x.map (Value.int .u8)) 0 (j * 32) (dcs ds) (by rw [List.length_map, hx.len, hs]; omega)
  have he : (((x.map (Value.int .u8)).zipIdx 0).foldl (fun cs (y : Value × Nat) => cs.setIfInBounds (j * 32 + y.2) y.1) (dcs ds)) = dcs (ds.set j x) := by
    apply Array.ext'
    rw [hf, Nat.add_zero]
    unfold dcs
    rw [← flat_set (Dg.lens hds) x hx.len j hj]
    unfold splice
    simp only [List.length_map, List.map_append, List.map_take, List.map_drop]
  rw [Instr.fill]
  simp only [hv, hx.size]
  rw [if_neg (by simp only [ne_eq, not_true_eq_false, decide_false, Bool.false_or, decide_eq_true_eq, hs]; omega)]
  congr 1
  have : ((x.map (Value.int .u8)).toArray).zipIdx = (((x.map (Value.int .u8)).zipIdx 0)).toArray := by simp
  rw [this, List.foldl_toArray']
  · exact he
  · simp
section
variable {P : Program}
/-- parts put in their places, one behind the other -/
theorem run_build_digs (n : Nat) (parts : List (Nat × Value)) (ds : List (List Int)) (hn : n ≤ 1000) (h0 : 0 < n) (h : Instr.fill (fun i => some (i * 32, 32)) (dcs (List.replicate n zD)) parts = some (dcs ds)) (w : World) :
    (Instr.buildSlice 27 n parts.toArray).run Tryd.prog w = .ok (.slice (some ⟨w.heap.size, 0, none⟩) n n) (w.alloc (.cells (dcs ds) 23 (0, 0))) := by
  obtain ⟨i, hi, _, hz1, _⟩ := info_parts info_dig
  have hm := zD_rows n
  unfold madeCells at hm
  unfold Instr.buildSlice
  have hne : ¬ (n * 32 = 0) := by omega
  have hle : ¬ (16777216 < n * 32) := by omega
  have hl : (zD.map (Value.int .u8)).toArray = #[Value.int .u8 0, Value.int .u8 0, Value.int .u8 0, Value.int .u8 0, Value.int .u8 0, Value.int .u8 0, Value.int .u8 0, Value.int .u8 0, Value.int .u8 0, Value.int .u8 0, Value.int .u8 0, Value.int .u8 0, Value.int .u8 0, Value.int .u8 0, Value.int .u8 0, Value.int .u8 0, Value.int .u8 0, Value.int .u8 0, Value.int .u8 0, Value.int .u8 0, Value.int .u8 0, Value.int .u8 0, Value.int .u8 0, Value.int .u8 0, Value.int .u8 0, Value.int .u8 0, Value.int .u8 0, Value.int .u8 0, Value.int .u8 0, Value.int .u8 0, Value.int .u8 0, Value.int .u8 0] := by kernel_rfl
  rw [hl] at hm
  simp [run_underlying Tryd.underlying27, sizeOf, typeInfo, hi, hz1, hne]
  rw [if_neg hle, hm, h]
  simp [newRow]
theorem dcs_one (x : List Int) : dcs [x] = (x.map (Value.int .u8)).toArray := by simp [dcs]
theorem run_build_one {x : List Int} (hx : Dg x) (w : World) : (Instr.buildSlice 27 1 #[(0, .agg (x.map (Value.int .u8)).toArray)]).run Tryd.prog w = .ok (.slice (some ⟨w.heap.size, 0, none⟩) 1 1) (w.alloc (.cells (x.map (Value.int .u8)).toArray 23 (0, 0))) := by
  have h := run_build_digs 1 [(0, .agg (x.map (Value.int .u8)).toArray)] [x] (by omega) (by omega) (by
    rw [fill_dig _ (List.replicate 1 zD) rfl (zRow 1) x hx 0 (by simp), show (List.replicate 1 zD).set 0 x = [x] from rfl, Instr.fill]) w
  rw [dcs_one] at h
  exact h
theorem exec_build_one {o : Oper} {A : Act} {w : World} {e : Operand} (ho : o.op = .buildSlice 27 1 #[(0, e)]) {x : List Int} (he : A.eval e = .agg (x.map (Value.int .u8)).toArray) (hx : Dg x) :
    (execOp A.eval o).run Tryd.prog w = .ok (.value (.slice (some ⟨w.heap.size, 0, none⟩) 1 1)) (w.alloc (.cells (x.map (Value.int .u8)).toArray 23 (0, 0))) := by
  unfold execOp
  simp only [ho, List.map_toArray, List.map_cons, List.map_nil, he, Sem.run_bind, run_build_one hx, Result.andThen_ok, Sem.run_pure]
theorem wpList_build_one {ops : Array Oper} {rest : List Oper} {o : Oper} {A : Act} {w : World} {Q : Exit → Act → World → Prop} (hgd : o.guard = none) (e : Operand) (ho : o.op = .buildSlice 27 1 #[(0, e)]) {x : List Int} (he : A.eval e = .agg (x.map (Value.int .u8)).toArray) (hx : Dg x)
    (h : wpList Tryd.prog ops Q rest (A.put o.dst (.slice (some ⟨w.heap.size, 0, none⟩) 1 1)) (w.alloc (.cells (x.map (Value.int .u8)).toArray 23 (0, 0)))) : wpList Tryd.prog ops Q (o :: rest) A w :=
  wpList_plain hgd fun K hK => by
    unfold Oper.wp
    rw [exec_build_one ho he hx, Oper.upon_value]
    exact hK _ _ h
end
theorem guard_dig : Tryd.prog.eqGuardType Tryd.prog.depth 23 = false := by kernel_rfl
/-- two digests are compared, and the outcome is known -/
theorem quiet_cmp {op : Oper} {a : Act} {C : World → Prop} {K : Act → Prop} {bop : BinOp} {tr : TypeId} (x y : Operand) (ho : op.op = .binOp bop 23 x y tr) (xs ys : Array Value) (v : Value) (hx : a.eval x = .agg xs) (hy : a.eval y = .agg ys)
    (hr : ∀ W : World, (binOp bop 23 (.agg xs) (.agg ys)).run Tryd.prog W = .ok v W) (h : K (a.put op.dst v)) : op.quiet Tryd.prog a C K :=
  ⟨v, fun w' _ => by
    unfold Oper.quietAt execOp
    simp only [ho, hx, hy, Sem.run_bind, Sem.run_pure, Result.andThen_ok, run_eqGuard_agg w' bop 23 x y xs ys guard_dig, hr w']
    simp [Oper.quietUpon], h⟩
end Go.Proofs.YthaicocfbmpnmaaDoor
namespace Go.Proofs.YthaicocfbmpnmaaDoor
set_option maxRecDepth 100000
open Go.ChangeShapes Go.WideShapes Go.ChangeAt Go.RowKit
namespace FlowB
end FlowB
theorem own_low {w : World} {B b : Nat} {e : TypeId} {v : Value} {ds : List (List Int)} (h : OwnD w B e v ds) (hb : b < B) : b ∉ v.ownBlock.toList := fun hm => by
  have := (h.lt b (by simpa using hm)).1
  omega
theorem own_from {w : World} {B : Nat} {e : TypeId} {v : Value} {ds : List (List Int)} (h : OwnD w B e v ds) : ∀ g ∈ v.ownBlock.toList, B ≤ g := fun g hm => (h.lt g (by simpa using hm)).1
end Go.Proofs.YthaicocfbmpnmaaDoor
namespace Go.Proofs.YthaicocfbmpnmaaDoor
set_option maxRecDepth 100000
open Go.ChangeShapes Go.WideShapes Go.ChangeAt Go.RowKit
def sD : List Int := 7 :: List.replicate 31 0
def zA : List Int := List.replicate 8 0
end Go.Proofs.YthaicocfbmpnmaaDoor
namespace Go.Proofs.YthaicocfbmpnmaaDoor
set_option maxRecDepth 100000
open Go.ChangeShapes Go.WideShapes Go.ChangeAt Go.RowKit
def rowW (P : Nat → List Int) : List (List Int) := (List.range 67).map P
def fillW (P : Nat → List Int) (k : Nat) : List (List Int) := (List.range k).map P ++ List.replicate (67 - k) zD
end Go.Proofs.YthaicocfbmpnmaaDoor
namespace Go.Proofs.YthaicocfbmpnmaaDoor
set_option maxRecDepth 100000
open Go.ChangeShapes Go.WideShapes Go.ChangeAt Go.RowKit
section
variable {P : Program} {ops : Array Oper} {rest : List Oper} {op : Oper} {a : Act} {w : World} {Q : Exit → Act → World → Prop}
theorem run_load_one {ty : TypeId} {ad : Addr} {v : Value} (w' : World) (hk : w'.cell? ad = some v) (d : TypeDesc) (hu : P.underlying ty = some d) (hd : d.isRow = false) : (loadVar ty ad).run P w' = .ok v w' := by
  have hagg : (isAgg ty).run P w' = .ok false w' := by
    unfold isAgg
    rw [Sem.run_bind, run_underlying hu w']
    cases d <;> simp_all
  simp [loadVar, Sem.run_bind, hagg, hk]
theorem quiet_load_one {C : World → Prop} {K : Act → Prop} (ty : TypeId) (x : Operand) (ho : op.op = .load ty x) (ad : Addr) (hx : a.eval x = .pointer (some ad)) (v : Value)
    (hk : ∀ w', C w' → w'.cell? ad = some v) (d : TypeDesc) (hu : P.underlying ty = some d) (hd : d.isRow = false)
    (h : K (a.put op.dst v)) : op.quiet P a C K :=
  ⟨v, fun w' hw' => by
    unfold Oper.quietAt execOp
    simp only [ho, hx, Instr.loadAt, Instr.sureAddr, Sem.run_bind, Sem.run_pure, Result.andThen_ok, run_load_one w' (hk w' hw') d hu hd]
    simp [Oper.quietUpon], h⟩
end
/-- The digit at a place. -/
def dgN (m : List Int) (i : Nat) : Nat := ((digits m).getD i 0).toNat
def partZ (seed ad : List Int) (i : Nat) : List Int := atZ seed (setAd ad i 0 0)
def pubP (seed pub ad : List Int) (i : Nat) : List Int := runZ pub (setAd ad i 0 0) (partZ seed ad i) 0 15
def sigP (m seed pub ad : List Int) (i : Nat) : List Int := runZ pub (setAd ad i 0 0) (partZ seed ad i) 0 (dgN m i)
def fromP (l : List (List Int)) (m pub ad : List Int) (i : Nat) : List Int := runZ pub (setAd ad i 0 0) (l.getD i zD) (dgN m i) (15 - dgN m i)
end Go.Proofs.YthaicocfbmpnmaaDoor
namespace Go.Proofs.YthaicocfbmpnmaaDoor
set_option maxRecDepth 100000
open Go.ChangeShapes Go.WideShapes Go.ChangeAt Go.RowKit
section
variable {P : Program} {ops : Array Oper} {rest : List Oper} {op : Oper} {a : Act} {w : World} {Q : Exit → Act → World → Prop}
end
end Go.Proofs.YthaicocfbmpnmaaDoor
namespace Go.Proofs.YthaicocfbmpnmaaDoor
set_option maxRecDepth 100000
open Go.ChangeShapes Go.WideShapes Go.ChangeAt Go.RowKit
def preW (P : Nat → List Int) (k : Nat) : List (List Int) := (List.range k).map P
/-- A row of digests, wherever it lies. -/
def RowV (n : Nat) (ds : List (List Int)) (v : Value) (w : World) : Prop := ∃ a cap, v = .slice a n cap ∧ DigsAt w a n cap ds
/-- 67 numbers, wherever they lie. -/
def IntV (F : Nat → Nat) (v : Value) (w : World) : Prop := ∃ g cap, v = .slice (some ⟨g, 0, none⟩) 67 cap ∧ g < w.heap.size ∧ ∀ i, i < 67 → w.cell? ⟨g, i, none⟩ = some (.int .i64 (F i : Int))
theorem FlowB.ButIn.cell {S : List Nat} {w w' : World} {g i : Nat} {v : Value} (h : FlowB.ButIn S w w') (hx : g < w.heap.size) (hb : g ∉ S) (k : w.cell? ⟨g, i, none⟩ = some v) : w'.cell? ⟨g, i, none⟩ = some v := by
  rw [← k]
  unfold World.cell?
  rw [h.block g hx hb]
end Go.Proofs.YthaicocfbmpnmaaDoor
namespace Go.Proofs.YthaicocfbmpnmaaDoor
set_option maxRecDepth 100000
open Go.ChangeShapes Go.WideShapes Go.ChangeAt Go.RowKit
set_option maxHeartbeats 4000000 in
theorem same_any (a1 a2 : Option Addr) (n c1 c2 : Nat) (ds : List (List Int)) (w : World) (h1 : DigsAt w a1 n c1 ds) (h2 : DigsAt w a2 n c2 ds) :
    Calls Tryd.prog 12 #[.slice a1 n c1, .slice a2 n c2] w fun e w' => e = .returned (.bool true) ∧ Below w.heap.size w w' := by
  have HN1 := hid h1
  have HN2 := hid h2
  have hle1 := h1.le
  have hmx1 := h1.max
  have hle2 := h2.le
  have hmx2 := h2.max
  clear h1 h2
  go_enter Tryd.func12, Tryd.ntmps12
  go_wp2_with fail
  go_loopw [5] (fun iv wr => ∃ k : Nat, k ≤ n ∧ iv = .int .i64 k ∧ Below w.heap.size w wr) (fun iv _ => n - (intOf iv).toNat)
  case atStart => exact ⟨0, Nat.zero_le _, rfl, Below.refl _ _⟩
  case round =>
    obtain ⟨k, hk, rfl, bel⟩ := hrel
    have HB := hid bel
    clear bel
    by_cases hlt : k < n
    · have hc0 : (k : Int) < n := by omega
      have HX := hid (HN1.out.get (j := k) hlt)
      obtain ⟨xs, xo, rfl, hxs, hcell⟩ := (HN1.out.below HB.out).at_ (by omega)
      obtain ⟨ys, yo, rfl, hys, hcell2⟩ := (HN2.out.below HB.out).at_ (by omega)
      have Hc := hid (hcell k hlt)
      have Hd := hid (hcell2 k hlt)
      clear hcell hcell2
      generalize ds.getD k [] = X at *
      have q1 := fun W => neD_self X HX.out.len W
      go_wp2_with fail
      refine wp_region_flow 9 (List.range 9) [] [] (by kernel_rfl) (by kernel_rfl) ?_
      apply Exists.intro
      refine ⟨fun w0 hb0 hF0 => ?_, ?_⟩
      · skip
        have x0 : ∀ w', (∃ x : Ext w0, w' = x.at_) → w'.rangeAt xs (xo + k * 32) (X.map (Value.int .u8)) := fun w' ⟨x, hx⟩ => hx ▸ rangeAt_below (rangeAt_below Hc.out hxs hb0) (Nat.lt_of_lt_of_le hxs hb0.size) x.same
        have x1 : ∀ w', (∃ x : Ext w0, w' = x.at_) → w'.rangeAt ys (yo + k * 32) (X.map (Value.int .u8)) := fun w' ⟨x, hx⟩ => hx ▸ rangeAt_below (rangeAt_below Hd.out hys hb0) (Nat.lt_of_lt_of_le hys hb0.size) x.same
        simp only [pick, List.range, List.range.loop, List.getElem?_toArray, List.getElem?_cons_succ, List.getElem?_cons_zero, Option.toList_some, List.cons_append, List.nil_append]
        repeat (first | (go_big_quiet_want; refine quiet_index_digs 27 _ _ rfl Tryd.underlying27 size_digest xs xo n c1 rfl _ _ rfl k (by omega) (by omega) ?_; go_big_quiet_on; simp only [Act.put, List.setIfInBounds_toArray, List.set_cons_zero, List.set_cons_succ]) | (go_big_quiet_want; refine quiet_index_digs 27 _ _ rfl Tryd.underlying27 size_digest ys yo n c2 rfl _ _ rfl k (by omega) (by omega) ?_; go_big_quiet_on; simp only [Act.put, List.setIfInBounds_toArray, List.set_cons_zero, List.set_cons_succ]) | (go_big_quiet_want; refine quiet_load_mid 23 _ rfl xs (xo + k * 32) rfl _ x0 _ Tryd.underlying23 rfl (by rw [List.length_map, HX.out.len]; exact size_digest) ?_; go_big_quiet_on; simp only [Act.put, List.setIfInBounds_toArray, List.set_cons_zero, List.set_cons_succ]) | (go_big_quiet_want; refine quiet_load_mid 23 _ rfl ys (yo + k * 32) rfl _ x1 _ Tryd.underlying23 rfl (by rw [List.length_map, HX.out.len]; exact size_digest) ?_; go_big_quiet_on; simp only [Act.put, List.setIfInBounds_toArray, List.set_cons_zero, List.set_cons_succ]) | (go_big_quiet_want; refine quiet_cmp _ _ rfl _ _ _ rfl rfl q1 ?_; go_big_quiet_on; simp only [Act.put, List.setIfInBounds_toArray, List.set_cons_zero, List.set_cons_succ]) | go_big_quiet_step (fail))
        exact wpQuiet_nil rfl
      refine AlChk.nil ?_
      refine Walk.fin fun w5 h5 _ _ => ?_
      simp only [List.drop_succ_cons, List.drop_zero]
      have HB5 := hid (Below.on HB.out h5)
      clear h5
      go_wp2_with fail
      exact ⟨⟨k + 1, by omega, by go_num, HB5.out⟩, by simp [intOf]; omega⟩
    · have hkn : k = n := by omega
      subst hkn
      go_wp2_with fail
      go_returns
      exact ⟨rfl, HB.out⟩
end Go.Proofs.YthaicocfbmpnmaaDoor
namespace Go.Proofs.YthaicocfbmpnmaaDoor
set_option maxRecDepth 100000
open Go.ChangeShapes Go.WideShapes Go.ChangeAt Go.RowKit
/-- The greatest power of two below a number. -/
def halfN (n : Nat) : Nat := 2 ^ Nat.log2 (n - 1)
/-- What a text's leaf is. -/
@[irreducible] def leafL (m : List Int) : List Int := sumZ (0 :: m)
/-- What the node above two is. -/
@[irreducible] def nodeL (a b : List Int) : List Int := sumZ (1 :: (a ++ b))
theorem Dg.nodeL (a b : List Int) : Dg (nodeL a b) := by unfold Go.Proofs.YthaicocfbmpnmaaDoor.nodeL; exact Dg.sum _
/-- A log's root: so many calls are enough. -/
def rootL : Nat → List (List Int) → List Int
  | 0, _ => zD
  | f + 1, ts => if ts.length = 0 then zD else if ts.length = 1 then leafL (ts.getD 0 []) else nodeL (rootL f (ts.take (halfN ts.length))) (rootL f (ts.drop (halfN ts.length)))
/-- where a part of a row of texts begins -/
def cutS (a : Option Addr) (l cap : Nat) : Option Addr := if cap = l then a else a.map (·.add (l * 1))
set_option maxHeartbeats 4000000 in
theorem lonode_any (a b : List Int) (w : World) (ha : Dg a) (hb_ : Dg b) (tab : ShaTab w) :
    Calls Tryd.prog 17 #[.agg (a.map (Value.int .u8)).toArray, .agg (b.map (Value.int .u8)).toArray] w fun e w' => e = .returned (.agg ((nodeL a b).map (Value.int .u8)).toArray) ∧ Below w.heap.size w w' := by
  have CS := hid (fun (W : World) (g g0 : Nat) (h : Blk W g #[.slice (some ⟨g0, 0, none⟩) 1 1, .slice (some ⟨w.heap.size, 0, none⟩) 32 32, .slice (some ⟨w.heap.size + 1, 0, none⟩) 32 32] 67) (h0 : Blk W g0 (([1] : List Int).map (Value.int .u8)).toArray 5) (ka : Blk W w.heap.size (a.map (Value.int .u8)).toArray 23) (kb : Blk W (w.heap.size + 1) (b.map (Value.int .u8)).toArray 23) (t : ShaTab W) => sum_any (some ⟨g, 0, none⟩) 3 3 [[1], a, b] W (TextsAt.of_blk h rfl (Nat.le_refl _) (by omega) fun j hj => by
    match j, hj with
    | 0, _ => exact ⟨_, _, _, rfl, TextAt.of_ints h0 rfl (by omega) (by simp)⟩
    | 1, _ => exact ⟨_, _, _, rfl, ha.text ka⟩
    | 2, _ => exact ⟨_, _, _, rfl, hb_.text kb⟩) (by simp only [sumLen, List.map_cons, List.map_nil, List.sum_cons, List.sum_nil, List.length_cons, List.length_nil, ha.len, hb_.len]; omega) t)
  have HX := hid (Dg.nodeL a b)
  rw [show ([[1], a, b] : List (List Int)).flatten = 1 :: (a ++ b) by simp, show sumZ (1 :: (a ++ b)) = nodeL a b by unfold nodeL; rfl] at CS
  generalize nodeL a b = X at *
  have b1 := (Below.refl w.heap.size w).alloc (Nat.le_refl _) (.cells (a.map (Value.int .u8)).toArray 23 (0, 0))
  have b2 := b1.alloc b1.size (.cells (b.map (Value.int .u8)).toArray 23 (0, 0))
  have b3 := b2.alloc b2.size (.cells (byteCells 32 []) 23 (0, 0))
  have Ka := hid (((Blk.new (w := w) (n := w.heap.size) rfl (a.map (Value.int .u8)).toArray 23).old (.cells (b.map (Value.int .u8)).toArray 23 (0, 0))).old (.cells (byteCells 32 []) 23 (0, 0)))
  have Kb := hid ((Blk.new (w := (w.alloc (.cells (a.map (Value.int .u8)).toArray 23 (0, 0)))) (n := w.heap.size + 1) (by simp only [World.size_alloc]) (b.map (Value.int .u8)).toArray 23).old (.cells (byteCells 32 []) 23 (0, 0)))
  have Kr := hid (Blk.new (w := ((w.alloc (.cells (a.map (Value.int .u8)).toArray 23 (0, 0))).alloc (.cells (b.map (Value.int .u8)).toArray 23 (0, 0)))) (n := w.heap.size + 1 + 1) (by simp only [World.size_alloc]) (byteCells 32 []) 23)
  have Hb := hid b3
  have hbz := b3.size
  have Hbs := hid (show w.heap.size + 1 + 1 + 1 = (((w.alloc (.cells (a.map (Value.int .u8)).toArray 23 (0, 0))).alloc (.cells (b.map (Value.int .u8)).toArray 23 (0, 0))).alloc (.cells (byteCells 32 []) 23 (0, 0))).heap.size by simp only [World.size_alloc])
  have Htab := hid tab
  clear b1 b2 b3 tab 
  go_enter Tryd.func17, Tryd.ntmps17
  go_wp2_with fail
  refine wp_region_flow 5 [1, 2] [0] [(.b 0, [], [3]), (.b 3, [4], [])] (by kernel_rfl) (by kernel_rfl) ?_
  apply Exists.intro
  refine ⟨fun w0 hb0 hF0 => ?_, ?_⟩
  · skip
    simp only [pick, List.getElem?_toArray, List.getElem?_cons_succ, List.getElem?_cons_zero, Option.toList_some, List.cons_append, List.nil_append]
    repeat (first | go_big_quiet_step (fail))
    exact wpQuiet_nil rfl
  refine AlChk.one rfl (fun b => .slice (some ⟨b, 0, none⟩) 1 1) (.cells #[.int .u8 1] 5 (0, 0)) rfl (fun w3 hb3 hF3 => by go_simp) ?_
  refine AlChk.nil ?_
  refine Walk.blk rfl (fun b => .slice (some ⟨b, 0, none⟩) 1 1) (.cells #[.int .u8 1] 5 (0, 0)) (by simp) ?_
  intro b8 w1 hb1 hF1 hge1 _
  apply Exists.intro
  refine ⟨fun w2 hb2 hF2 => wpQuiet_nil rfl, ?_⟩
  refine AlChk.one rfl (fun b => .slice (some ⟨b, 0, none⟩) 3 3) (.cells #[.slice (some ⟨b8, 0, none⟩) 1 1, .slice (some ⟨w.heap.size, 0, none⟩) 32 32, .slice (some ⟨w.heap.size + 1, 0, none⟩) 32 32] 67 (0, 0)) rfl (fun w3 hb3 hF3 => by go_simp) ?_
  refine AlChk.nil ?_
  refine Walk.blk rfl (fun b => .slice (some ⟨b, 0, none⟩) 3 3) (.cells #[.slice (some ⟨b8, 0, none⟩) 1 1, .slice (some ⟨w.heap.size, 0, none⟩) 32 32, .slice (some ⟨w.heap.size + 1, 0, none⟩) 32 32] 67 (0, 0)) (by simp) ?_
  intro b9 w2 hb2 hF2 hge2 _
  apply Exists.intro
  refine ⟨fun w0 hb0 hF0 => ?_, ?_⟩
  · have k9 : Blk w0 b9 #[.slice (some ⟨b8, 0, none⟩) 1 1, .slice (some ⟨w.heap.size, 0, none⟩) 32 32, .slice (some ⟨w.heap.size + 1, 0, none⟩) 32 32] 67 := hF0.2
    have k8 : Blk w0 b8 (([1] : List Int).map (Value.int .u8)).toArray 5 := hF0.1.2
    have hs := fun e : Ext w0 => CS.out e.at_ b9 b8 (k9.below e.same) (k8.below e.same) ((Ka.out.below hb0).below e.same) ((Kb.out.below hb0).below e.same) ((Htab.out.below (Below.on Hb.out hb0)).below e.same)
    simp only [pick, List.getElem?_toArray, List.getElem?_cons_succ, List.getElem?_cons_zero, Option.toList_some, List.cons_append, List.nil_append, Act.put, List.setIfInBounds_toArray, List.set_cons_zero, List.set_cons_succ]
    repeat (go_big_quiet_step (first | (go_at_call 46; exact Calls.ext (hs _))))
    exact wpQuiet_nil rfl
  refine AlChk.nil ?_
  refine Walk.fin fun w4 h4 _ _ => ?_
  simp only [List.drop_succ_cons, List.drop_zero]
  have HBw4 := hid (Below.on Hb.out h4)
  have hsw4 := HBw4.out.size
  have Kaw4 := hid (Ka.out.below h4)
  have Kbw4 := hid (Kb.out.below h4)
  have Krw4 := hid (Kr.out.below h4)
  clear h4
  go_wp2_with (
      refine wpList_store_blk rfl 23 _ _ rfl (w.heap.size + 1 + 1) (X.map (Value.int .u8)).toArray rfl rfl _ 23 Krw4.out 32 size_digest zsize HX.out.size (ints_one _ _) ?_
      intro w9 hb9 hk9
      have HB9 := hid (hb9.below HBw4.out HBw4.out.size (by omega))
      have HK9 := hid hk9
      clear hb9 hk9)
  exact bodyPost_ret (v := .agg (X.map (Value.int .u8)).toArray) (results_blk Tryd.results17 _ (w.heap.size + 1 + 1) rfl _ 23 HK9.out _ Tryd.underlying23 rfl 32 size_digest HX.out.size) rfl ⟨rfl, HB9.out⟩
end Go.Proofs.YthaicocfbmpnmaaDoor
namespace Go.Proofs.YthaicocfbmpnmaaDoor
set_option maxRecDepth 100000
open Go.ChangeShapes Go.WideShapes Go.ChangeAt Go.RowKit
section
variable {P : Program} {ops : Array Oper} {rest : List Oper} {op : Oper} {a : Act} {w : World} {Q : Exit → Act → World → Prop} {t e : TypeId}
/-- An element's address, of elements of s cells. -/
theorem run_indexAt_s (s : Nat) (ht : P.underlying t = some (.slice e)) (hs : (P.info? e).map (·.size) = some s) (b o len cap : Nat) (k : IntKind) (i : Int) (j : Nat) (hi : i = j) (hj : j < len) (w : World) :
    (Instr.indexAt t (.slice (some ⟨b, o, none⟩) len cap) (.int k i)).run P w = .ok (.pointer (some ⟨b, o + j * s, none⟩)) w := by
  subst hi
  obtain ⟨i0, hi0, h32⟩ := Option.map_eq_some_iff.1 hs
  have hlt : (0 : Int) ≤ j ∧ (j : Int) < len := by omega
  unfold Instr.indexAt
  simp [asIntOf, Sem.run_bind, run_underlying ht, hlt, sizeOf, typeInfo, hi0, h32, hj, Addr.add_mid]
theorem wpList_index_s (s : Nat) (hw : Region.wanted op (yielded ops a.tmps) = true) (ty : TypeId) (x ix : Operand) (ho : op.op = .indexAddr ty x ix) (ht : P.underlying ty = some (.slice e)) (hs : (P.info? e).map (·.size) = some s) (b o len cap : Nat) (hx : a.eval x = .slice (some ⟨b, o, none⟩) len cap)
    (k : IntKind) (i : Int) (hix : a.eval ix = .int k i) (j : Nat) (hi : i = j) (hj : j < len) (h : wpList P ops Q rest (a.put op.dst (.pointer (some ⟨b, o + j * s, none⟩))) w) : wpList P ops Q (op :: rest) a w := by
  unfold wpList
  rw [if_pos hw]
  refine .inl ?_
  unfold Oper.wp execOp
  simp only [ho, hx, hix, Sem.run_bind, Sem.run_pure, Result.andThen_ok, run_indexAt_s s ht hs b o len cap k i j hi hj, Oper.upon_value]
  exact h
end
/-- The way of a place. -/
def pathL : Nat → List (List Int) → Nat → List (List Int)
  | 0, _, _ => []
  | f + 1, ts, i => if ts.length = 1 then [] else if i < halfN ts.length then pathL f (ts.take (halfN ts.length)) i ++ [rootL f (ts.drop (halfN ts.length))] else pathL f (ts.drop (halfN ts.length)) (i - halfN ts.length) ++ [rootL f (ts.take (halfN ts.length))]
/-- The way from a beginning. -/
def growL : Nat → List (List Int) → Nat → Bool → List (List Int)
  | 0, _, _, _ => []
  | f + 1, ts, m, cut => if m = ts.length then (if cut then [rootL (f + 1) ts] else []) else if m ≤ halfN ts.length then growL f (ts.take (halfN ts.length)) m cut ++ [rootL f (ts.drop (halfN ts.length))] else growL f (ts.drop (halfN ts.length)) (m - halfN ts.length) true ++ [rootL f (ts.take (halfN ts.length))]
section
variable {P : Program} {ops : Array Oper} {rest : List Oper} {op : Oper} {a : Act} {w : World} {Q : Exit → Act → World → Prop}
theorem wpList_index_len8 (hgd : op.guard = none) (t : TypeId) (s : ByteArray) (x : Operand) (ho : op.op = .index t (.const (.string s)) x) (hs : s = Lib.len8tab) (ht : P.underlying t = some .string) (k : IntKind) (i : Int) (hx : a.eval x = .int k i) (h0 : 0 ≤ i) (h1 : i ≤ 255)
    (h : wpList P ops Q rest (a.put op.dst (.int .u8 (Lib.len8 i))) w) : wpList P ops Q (op :: rest) a w :=
  wpList_plain hgd fun K hK => by
    subst hs
    unfold Oper.wp execOp
    have hc : a.eval (.const (.string Lib.len8tab)) = .string Lib.len8tab := rfl
    simp only [ho, hx, hc, Sem.run_bind, Sem.run_pure, Result.andThen_ok, Lib.run_index_len8tab w t k i ht h0 h1, Oper.upon_value]
    exact hK _ _ h
end
theorem len8_log (x : Nat) (hx : x < 256) : Lib.len8 (x : Int) = (if x = 0 then 0 else (Nat.log2 x : Int) + 1) :=
  (by decide +kernel : ∀ i : Fin 256, Lib.len8 ((i.val : Nat) : Int) = (if i.val = 0 then 0 else (Nat.log2 i.val : Int) + 1)) ⟨x, hx⟩
set_option maxHeartbeats 4000000 in
theorem len64_any (x : Int) (w : World) (h0 : 0 ≤ x) (h1 : x ≤ 255) : Calls Tryd.prog 96 #[.int .u64 x] w fun e w' => e = .returned (.int .i64 (Lib.len8 x)) ∧ w' = w := by
  have h2 : ¬ (4294967296 ≤ x) := by omega
  have h3 : ¬ (65536 ≤ x) := by omega
  have h4 : ¬ (256 ≤ x) := by omega
  have h5 : x % 256 = x := by omega
  have h6 : wrap64 (Lib.len8 x) = Lib.len8 x := by
    obtain ⟨n, rfl⟩ := Int.eq_ofNat_of_zero_le h0
    have hn : n < 256 := by omega
    have hl : Nat.log2 n ≤ 7 := (by decide +kernel : ∀ i : Fin 256, Nat.log2 i.val ≤ 7) ⟨n, hn⟩
    rw [len8_log n hn]
    unfold wrap64
    split <;> omega
  go_enter Tryd.func96, Tryd.ntmps96
  go_wp2_with (refine wpList_index_len8 rfl _ _ _ rfl (by kernel_rfl) Tryd.underlying9 .u8 x rfl (by omega) (by omega) ?_)
  go_ret
  exact ⟨by first | rfl | (rw [h6]; rfl) | (rw [h6, h6]; rfl), rfl⟩
set_option maxHeartbeats 4000000 in
theorem len_any (x : Int) (w : World) (h0 : 0 ≤ x) (h1 : x ≤ 255) : Calls Tryd.prog 89 #[.int .u64 x] w fun e w' => e = .returned (.int .i64 (Lib.len8 x)) ∧ w' = w := by
  go_enter Tryd.func89, Tryd.ntmps89
  go_wp2_with (go_at_call 96; refine (len64_any x _ h0 h1).mono ?_; rintro e w' ⟨rfl, rfl⟩)
  go_ret
  exact ⟨rfl, rfl⟩
end Go.Proofs.YthaicocfbmpnmaaDoor
namespace Go.Proofs.YthaicocfbmpnmaaDoor
set_option maxRecDepth 100000
open Go.ChangeShapes Go.WideShapes Go.ChangeAt Go.RowKit
section
variable {P : Program} {ops : Array Oper} {rest : List Oper} {op : Oper} {a : Act} {w : World} {Q : Exit → Act → World → Prop}
/-- One cell is stored. -/
theorem run_store_one {ty : TypeId} {b o : Nat} {v : Value} {cs : Array Value} {T : TypeId} (w : World) (hk : Blk w b cs T) (ho : o < cs.size) (hi : (P.info? ty).map (·.size) = some 1) (h1 : v.oneCell' = true) (hc : v.cells = #[v]) :
    (storeVar ty ⟨b, o, none⟩ v).run P w = .ok () (w.setCells b o [v]) := by
  have h := run_storeVar_mid (P := P) w b o ty #[v] (fun j hj => ⟨by
    simp only [List.size_toArray, List.length_cons, List.length_nil] at hj
    rw [hk.cell, Array.getElem?_eq_getElem (by omega)]; rfl, hk.free _⟩) (by rw [hi]; rfl) (by simp [h1])
  unfold storeVar at *
  rw [hc]
  exact h
theorem wpList_store_cell (hgd : op.guard = none) (ty : TypeId) (x y : Operand) (ho : op.op = .store ty x y) (b o : Nat) (v : Value) (hx : a.eval x = .pointer (some ⟨b, o, none⟩)) (hy : a.eval y = v) (h1 : v.oneCell' = true) (hc : v.cells = #[v])
    (cs : Array Value) (T : TypeId) (hk : Blk w b cs T) (hlt : o < cs.size) (hi : (P.info? ty).map (·.size) = some 1)
    (h : ∀ w', But b w w' → Blk w' b (cs.setIfInBounds o v) T → wpList P ops Q rest (a.put op.dst undef) w') : wpList P ops Q (op :: rest) a w :=
  wpList_plain hgd fun K hK => by
    unfold Oper.wp execOp
    simp only [ho, hx, hy, Instr.storeAt, Instr.sureAddr, Sem.run_bind, Sem.run_pure, Result.andThen_ok, run_store_one w hk hlt hi h1 hc, Oper.upon_skip]
    exact hK _ _ (h _ (But.setCells [v] o w (But.of (Below.refl _ _))) (hk.set o v))
end
/-- What is taken, where so many are left. -/
def takeZ (ds : List (List Int)) (left : Int) : List Int := if left - 1 < 0 then zD else ds.getD (left - 1).toNat []
/-- What lies around while a way is climbed. -/
structure HEnv (w : World) (bb bt ba bl bw : Nat) (ta : Option Addr) (tn tc : Nat) (m : List Int) (ya : Option Addr) (yn yc : Nat) (ds : List (List Int)) : Prop where
  kb : Blk w bb #[.slice ta tn tc] 67
  kt : Blk w bt #[.func (.func 87) #[] #[.pointer (some ⟨bl, 0, none⟩), .pointer (some ⟨bw, 0, none⟩)]] 96
  ka : Blk w ba #[.func (.func 68) #[] #[.pointer (some ⟨bb, 0, none⟩), .pointer (some ⟨bt, 0, none⟩), .pointer (some ⟨ba, 0, none⟩)]] 99
  kw : Blk w bw #[.slice ya yn yc] 27
  text : TextAt w ta tn tc m
  way : DigsAt w ya yn yc ds
  tab : ShaTab w
  nb : bb ≠ bl
  nt : bt ≠ bl
  na : ba ≠ bl
  nw : bw ≠ bl
/-- What climbing from a leaf comes to, and how many digests are left then. -/
def upZ : Nat → List Int → Nat → Int → List (List Int) → Int → List Int × Int
  | 0, X, _, _, _, left => (X, left)
  | f + 1, X, n, i, ds, left => if n = 1 then (X, left) else if i < halfN n then
      (nodeL (upZ f X (halfN n) i ds (left - 1)).1 (takeZ ds left), (upZ f X (halfN n) i ds (left - 1)).2)
    else (nodeL (takeZ ds left) (upZ f X (n - halfN n) (i - halfN n) ds (left - 1)).1, (upZ f X (n - halfN n) (i - halfN n) ds (left - 1)).2)
end Go.Proofs.YthaicocfbmpnmaaDoor
namespace Go.Proofs.YthaicocfbmpnmaaDoor
set_option maxRecDepth 100000
open Go.ChangeShapes Go.WideShapes Go.ChangeAt Go.RowKit
/-- The empty node of a level. -/
def emptyL : Nat → List Int
  | 0 => sumZ [2]
  | k + 1 => nodeL (emptyL k) (emptyL k)
theorem Dg.emptyL (k : Nat) : Dg (emptyL k) := by
  cases k with
  | zero => exact Dg.sum _
  | succ k => exact Dg.nodeL _ _
/-- The first empty nodes. -/
def empN (n : Nat) : List (List Int) := (List.range n).map emptyL
theorem empN_length (n : Nat) : (empN n).length = n := by simp [empN]
theorem empN_each (n : Nat) : ∀ d ∈ empN n, Dg d := fun d hd => by
  obtain ⟨i, _, rfl⟩ := List.mem_map.1 hd
  exact Dg.emptyL i
theorem empN_succ (n : Nat) : empN (n + 1) = empN n ++ [emptyL n] := by simp [empN, List.range_succ]
theorem empN_get {n k : Nat} (h : k < n) : (empN n).getD k [] = emptyL k := by simp [empN, h]
/-- The row, while it is filled. -/
@[irreducible] def fillE (m k : Nat) : List (List Int) := empN k ++ List.replicate (m - k) zD
theorem fillE_length {m k : Nat} (h : k ≤ m) : (fillE m k).length = m := by
  simp only [fillE, List.length_append, empN_length, List.length_replicate]
  omega
theorem fillE_each (m k : Nat) : ∀ d ∈ fillE m k, Dg d := fun d hd => by
  unfold fillE at hd
  rcases List.mem_append.1 hd with hd | hd
  · exact empN_each k d hd
  · exact zRow _ d hd
theorem fillE_set {m k : Nat} (h : k < m) : (fillE m k).set k (emptyL k) = fillE m (k + 1) := by
  unfold fillE
  rw [List.set_append_right _ _ (by rw [empN_length]; exact Nat.le_refl _), empN_length, Nat.sub_self, show m - k = (m - (k + 1)) + 1 by omega, List.replicate_succ, List.set_cons_zero, empN_succ, List.append_assoc]
  rfl
theorem fillE_zero (m : Nat) : fillE m 0 = List.replicate m zD := by simp [fillE, empN]
theorem fillE_done (m : Nat) : fillE m m = empN m := by simp [fillE]
theorem fillE_get {m k j : Nat} (h : j < k) : (fillE m k).getD j [] = emptyL j := by
  unfold fillE
  rw [List.getD_eq_getElem?_getD, List.getElem?_append_left (by rw [empN_length]; exact h), ← List.getD_eq_getElem?_getD, empN_get h]
theorem dig_rng {w : World} {g : Nat} {ds : List (List Int)} {T : TypeId} (hk : Blk w g (dcs ds) T) (hds : ∀ d ∈ ds, Dg d) {j : Nat} (hj : j < ds.length) : w.rangeAt g (0 + j * 32) ((ds.getD j []).map (Value.int .u8)) := by
  rw [Nat.zero_add]
  exact hk.digs hds j hj
set_option maxHeartbeats 4000000 in
theorem empty_any (w : World) (tab : ShaTab w) :
    Calls Tryd.prog 13 #[] w fun e w' => e = .returned (.slice (some ⟨w.heap.size, 0, none⟩) 257 257) ∧ Below w.heap.size w w' ∧ Blk w' w.heap.size (dcs (empN 257)) 23 := by
  have hmk := fun W : World => make_digs 257 257 rfl (by omega) W
  rw [← fillE_zero 257] at hmk
  have CS := hid (fun (W : World) (g g0 : Nat) (h : Blk W g #[.slice (some ⟨g0, 0, none⟩) 1 1] 67) (h0 : Blk W g0 (([2] : List Int).map (Value.int .u8)).toArray 5) (t : ShaTab W) => sum_any (some ⟨g, 0, none⟩) 1 1 [[2]] W (TextsAt.of_blk h rfl (Nat.le_refl _) (by omega) fun j hj => by
    match j, hj with
    | 0, _ => exact ⟨_, _, _, rfl, TextAt.of_ints h0 rfl (by omega) (by simp)⟩) (by simp only [sumLen, List.map_cons, List.map_nil, List.sum_cons, List.sum_nil, List.length_cons, List.length_nil]; omega) t)
  rw [show ([[2]] : List (List Int)).flatten = [2] by simp, show sumZ [2] = emptyL 0 from rfl] at CS
  have Htab := hid tab
  go_enter Tryd.func13, Tryd.ntmps13
  go_wp2_with fail
  have c0 := (Below.refl w.heap.size w).alloc (Nat.le_refl _) (.cells (dcs (fillE 257 0)) 23 (0, 0))
  have c1 := c0.alloc c0.size (.cells #[.int .u8 2] 5 (0, 0))
  have c2 := c1.alloc c1.size (.cells #[.slice (some ⟨w.heap.size + 1, 0, none⟩) 1 1] 67 (0, 0))
  have k1 : Blk (((w.alloc (.cells (dcs (fillE 257 0)) 23 (0, 0))).alloc (.cells #[.int .u8 2] 5 (0, 0))).alloc (.cells #[.slice (some ⟨w.heap.size + 1, 0, none⟩) 1 1] 67 (0, 0))) (w.heap.size + 1) (([2] : List Int).map (Value.int .u8)).toArray 5 := (Blk.new (w := w.alloc (.cells (dcs (fillE 257 0)) 23 (0, 0))) (n := w.heap.size + 1) (by simp only [World.size_alloc]) #[.int .u8 2] 5).old (.cells #[.slice (some ⟨w.heap.size + 1, 0, none⟩) 1 1] 67 (0, 0))
  have k2 : Blk (((w.alloc (.cells (dcs (fillE 257 0)) 23 (0, 0))).alloc (.cells #[.int .u8 2] 5 (0, 0))).alloc (.cells #[.slice (some ⟨w.heap.size + 1, 0, none⟩) 1 1] 67 (0, 0))) (w.heap.size + 1 + 1) #[.slice (some ⟨w.heap.size + 1, 0, none⟩) 1 1] 67 := Blk.new (w := (w.alloc (.cells (dcs (fillE 257 0)) 23 (0, 0))).alloc (.cells #[.int .u8 2] 5 (0, 0))) (n := w.heap.size + 1 + 1) (by simp only [World.size_alloc]) _ _
  have k0 : Blk (((w.alloc (.cells (dcs (fillE 257 0)) 23 (0, 0))).alloc (.cells #[.int .u8 2] 5 (0, 0))).alloc (.cells #[.slice (some ⟨w.heap.size + 1, 0, none⟩) 1 1] 67 (0, 0))) w.heap.size (dcs (fillE 257 0)) 23 := ((Blk.new rfl _ _).old (.cells #[.int .u8 2] 5 (0, 0))).old (.cells #[.slice (some ⟨w.heap.size + 1, 0, none⟩) 1 1] 67 (0, 0))
  refine (CS.out _ _ _ k2 k1 (Htab.out.below c2)).mono ?_
  rintro e w5 ⟨rfl, b5⟩
  have Hb5 := hid (Below.on c2 b5)
  have Kg5 := hid (k0.below b5)
  have hs5 := Hb5.out.size
  have hg5 := Kg5.out.lt
  clear c0 c1 c2 k0 k1 k2 b5
  go_wp2_with (first
     | (refine wpList_index_digs rfl 27 _ _ rfl Tryd.underlying27 size_digest w.heap.size 0 257 257 rfl _ _ rfl 0 rfl (by omega) ?_)
     | (
        refine wpList_store_dig rfl _ _ _ rfl w.heap.size 0 (emptyL 0) rfl rfl _ 23 Kg5.out (fillE_each 257 0) (Dg.emptyL 0) (by rw [fillE_length (by omega)]; omega) size_digest ?_
        intro w6 hb6 hk6
        rw [fillE_set (by omega)] at hk6
        have Kg6 := hid hk6
        have Hb6 := hid (hb6.below Hb5.out hs5 (Nat.le_refl _))
        clear hb6 hk6))
  go_loopw [9] (fun v wr => ∃ k : Nat, k ≤ 256 ∧ v = .int .i64 k ∧ Blk wr w.heap.size (dcs (fillE 257 (k + 1))) 23 ∧ Below w.heap.size w wr) (fun v _ => 256 - (intOf v).toNat)
  case atStart => exact ⟨0, Nat.zero_le _, rfl, Kg6.out, Hb6.out⟩
  case round =>
    clear Kg6 Hb6 Kg5 Hb5
    obtain ⟨k, hk, rfl, kg, bel⟩ := hrel
    have Kgwr := hid kg
    have HBwr := hid bel
    have hswr := bel.size
    have hgwr := kg.lt
    clear kg bel
    by_cases hlt : k < 256
    · skip
      have hc0 : (k : Int) < 256 := by omega
      go_wp2_with fail
      have HE := hid (Dg.emptyL k)
      have Hrg := hid (dig_rng Kgwr.out (fillE_each 257 (k + 1)) (j := k) (by rw [fillE_length (by omega)]; omega))
      rw [fillE_get (by omega)] at Hrg
      have HNX := hid (show emptyL (k + 1) = nodeL (emptyL k) (emptyL k) from rfl)
      have CN := hid (fun (W : World) (t : ShaTab W) => lonode_any (emptyL k) (emptyL k) W HE.out HE.out t)
      rw [← HNX.out] at CN
      have HX := hid (Dg.emptyL (k + 1))
      generalize hX1 : emptyL (k + 1) = X at *
      generalize emptyL k = E at *
      refine wp_region_flow 12 (List.range 12) [] [] (by kernel_rfl) (by kernel_rfl) ?_
      apply Exists.intro
      refine ⟨fun w0 hb0 hF0 => ?_, ?_⟩
      · skip
        have c0 := fun e : Ext w0 => CN.out e.at_ (Htab.out.below (Below.on (Below.on HBwr.out hb0) e.same))
        have yr : ∀ w', (∃ x : Ext w0, w' = x.at_) → w'.rangeAt w.heap.size (0 + k * 32) (E.map (Value.int .u8)) := fun w' ⟨x, hx⟩ j v hv => by rw [hx]; exact ((Below.on hb0 x.same).cell (p := ⟨w.heap.size, 0 + k * 32 + j, none⟩) hgwr).trans (Hrg.out j v hv)
        simp only [pick, List.range, List.range.loop, List.getElem?_toArray, List.getElem?_cons_succ, List.getElem?_cons_zero, Option.toList_some, List.cons_append, List.nil_append]
        repeat (first | (go_big_quiet_want; refine quiet_index_digs 27 _ _ rfl Tryd.underlying27 size_digest w.heap.size 0 257 257 rfl _ _ rfl k rfl (by omega) ?_; go_big_quiet_on; simp only [Act.put, List.setIfInBounds_toArray, List.set_cons_zero, List.set_cons_succ]) | (go_big_quiet_want; refine quiet_load_mid 23 _ rfl w.heap.size (0 + k * 32) rfl _ yr _ Tryd.underlying23 rfl (by rw [List.length_map, HE.out.len]; exact size_digest) ?_; go_big_quiet_on; simp only [Act.put, List.setIfInBounds_toArray, List.set_cons_zero, List.set_cons_succ]) | go_big_quiet_step (first | (go_at_call 17; with_reducible exact Calls.ext (c0 _))))
        exact wpQuiet_nil rfl
      refine AlChk.nil ?_
      refine Walk.fin fun w21 hw21 _ _ => ?_
      simp only [List.drop_succ_cons, List.drop_zero]
      have HBw21 := hid (Below.on HBwr.out hw21)
      have hsw21 := HBw21.out.size
      have Hw21 := hw21
      clear hw21
      go_wp2_with (first
         | (refine wpList_index_digs rfl 27 _ _ rfl Tryd.underlying27 size_digest w.heap.size 0 257 257 rfl _ _ rfl (k + 1) rfl (by omega) ?_)
         | (
            refine wpList_store_dig rfl _ _ _ rfl w.heap.size (k + 1) X rfl rfl _ 23 (Kgwr.out.below Hw21) (fillE_each 257 (k + 1)) HX.out (by rw [fillE_length (by omega)]; omega) size_digest ?_
            intro w9 hb9 hk9
            rw [← hX1, fillE_set (by omega)] at hk9
            have Kg9 := hid hk9
            have Hb9 := hid (hb9.below HBw21.out HBw21.out.size (Nat.le_refl _))
            clear hb9 hk9))
      exact ⟨⟨k + 1, by omega, by first | rfl | simp, Kg9.out, Hb9.out⟩, by simp [intOf]; omega⟩
    · skip
      have hk7 : k = 256 := by omega
      subst hk7
      have hc0 : ¬ ((256 : Int) < 256) := by omega
      go_wp2_with fail
      go_returns
      rw [show 256 + 1 = 257 from rfl, fillE_done] at Kgwr
      exact ⟨rfl, HBwr.out, Kgwr.out⟩
end Go.Proofs.YthaicocfbmpnmaaDoor
namespace Go.Proofs.YthaicocfbmpnmaaDoor
set_option maxRecDepth 100000
open Go.ChangeShapes Go.WideShapes Go.ChangeAt Go.RowKit
theorem size_entry : (Tryd.prog.info? 25).map (·.size) = some 64 := by kernel_rfl
/-- What an entry's node is. -/
@[irreducible] def leafE (a b : List Int) : List Int := sumZ (0 :: (a ++ b))
theorem Dg.leafE (a b : List Int) : Dg (leafE a b) := by unfold Go.Proofs.YthaicocfbmpnmaaDoor.leafE; exact Dg.sum _
/-- An entry's bytes. -/
def entL (a b : List Int) : List Int := a ++ b
theorem two_front {a b : List Int} (ha : Dg a) {w : World} {g : Nat} {T : TypeId} (h : Blk w g ((entL a b).map (Value.int .u8)).toArray T) : TextAt w (some ⟨g, 0, none⟩) 32 32 a :=
  TextAt.of_blk h ha.len (Nat.le_refl _) (by omega) ha.small fun j hj => by
    rw [List.getElem?_toArray, Nat.zero_add, entL, List.map_append, List.getElem?_append_left (by rw [List.length_map, ha.len]; exact hj), List.getElem?_map, List.getD_eq_getElem?_getD, List.getElem?_eq_getElem (by rw [ha.len]; exact hj)]
    rfl
theorem two_back {a b : List Int} (ha : Dg a) (hb : Dg b) {w : World} {g : Nat} {T : TypeId} (h : Blk w g ((entL a b).map (Value.int .u8)).toArray T) : TextAt w (some ⟨g, 32, none⟩) 32 32 b :=
  TextAt.of_blk h hb.len (Nat.le_refl _) (by omega) hb.small fun j hj => by
    rw [List.getElem?_toArray, entL, List.map_append, List.getElem?_append_right (by rw [List.length_map, ha.len]; omega), List.length_map, ha.len, show 32 + j - 32 = j by omega, List.getElem?_map, List.getD_eq_getElem?_getD, List.getElem?_eq_getElem (by rw [hb.len]; exact hj)]
    rfl
theorem two_size {a b : List Int} (ha : Dg a) (hb : Dg b) : ((entL a b).map (Value.int .u8)).toArray.size = 64 := by simp [entL, ha.len, hb.len]
set_option maxHeartbeats 4000000 in
theorem leaf_any (a b : List Int) (w : World) (ha : Dg a) (hb_ : Dg b) (tab : ShaTab w) :
    Calls Tryd.prog 15 #[.agg ((entL a b).map (Value.int .u8)).toArray] w fun e w' => e = .returned (.agg ((leafE a b).map (Value.int .u8)).toArray) ∧ Below w.heap.size w w' := by
  have CS := hid (fun (W : World) (g g0 : Nat) (h : Blk W g #[.slice (some ⟨g0, 0, none⟩) 1 1, .slice (some ⟨w.heap.size, 0, none⟩) 32 32, .slice (some ⟨w.heap.size, 32, none⟩) 32 32] 67) (h0 : Blk W g0 (([0] : List Int).map (Value.int .u8)).toArray 5) (ka : Blk W w.heap.size ((entL a b).map (Value.int .u8)).toArray 25) (t : ShaTab W) => sum_any (some ⟨g, 0, none⟩) 3 3 [[0], a, b] W (TextsAt.of_blk h rfl (Nat.le_refl _) (by omega) fun j hj => by
    match j, hj with
    | 0, _ => exact ⟨_, _, _, rfl, TextAt.of_ints h0 rfl (by omega) (by simp)⟩
    | 1, _ => exact ⟨_, _, _, rfl, two_front ha ka⟩
    | 2, _ => exact ⟨_, _, _, rfl, two_back ha hb_ ka⟩) (by simp only [sumLen, List.map_cons, List.map_nil, List.sum_cons, List.sum_nil, List.length_cons, List.length_nil, ha.len, hb_.len]; omega) t)
  have HX := hid (Dg.leafE a b)
  rw [show ([[0], a, b] : List (List Int)).flatten = 0 :: (a ++ b) by simp, show sumZ (0 :: (a ++ b)) = leafE a b by unfold leafE; rfl] at CS
  generalize leafE a b = X at *
  have b1 := (Below.refl w.heap.size w).alloc (Nat.le_refl _) (.cells ((entL a b).map (Value.int .u8)).toArray 25 (0, 0))
  have b2 := b1.alloc b1.size (.cells (byteCells 32 []) 23 (0, 0))
  have Kx := hid ((Blk.new (w := w) (n := w.heap.size) rfl ((entL a b).map (Value.int .u8)).toArray 25).old (.cells (byteCells 32 []) 23 (0, 0)))
  have Kr := hid (Blk.new (w := (w.alloc (.cells ((entL a b).map (Value.int .u8)).toArray 25 (0, 0)))) (n := w.heap.size + 1) (by simp only [World.size_alloc]) (byteCells 32 []) 23)
  have Hb := hid b2
  have hbz := b2.size
  have Hbs := hid (show w.heap.size + 1 + 1 = ((w.alloc (.cells ((entL a b).map (Value.int .u8)).toArray 25 (0, 0))).alloc (.cells (byteCells 32 []) 23 (0, 0))).heap.size by simp only [World.size_alloc])
  have Htab := hid tab
  clear b1 b2 tab 
  go_enter Tryd.func15, Tryd.ntmps15
  go_wp2_with fail
  refine wp_region_flow 7 [1, 2, 3, 4] [0] [(.b 0, [], [5]), (.b 5, [6], [])] (by kernel_rfl) (by kernel_rfl) ?_
  apply Exists.intro
  refine ⟨fun w0 hb0 hF0 => ?_, ?_⟩
  · skip
    simp only [pick, List.getElem?_toArray, List.getElem?_cons_succ, List.getElem?_cons_zero, Option.toList_some, List.cons_append, List.nil_append]
    repeat (first | go_big_quiet_step (fail))
    exact wpQuiet_nil rfl
  refine AlChk.one rfl (fun b => .slice (some ⟨b, 0, none⟩) 1 1) (.cells #[.int .u8 0] 5 (0, 0)) rfl (fun w3 hb3 hF3 => by go_simp) ?_
  refine AlChk.nil ?_
  refine Walk.blk rfl (fun b => .slice (some ⟨b, 0, none⟩) 1 1) (.cells #[.int .u8 0] 5 (0, 0)) (by simp) ?_
  intro b8 w1 hb1 hF1 hge1 _
  apply Exists.intro
  refine ⟨fun w2 hb2 hF2 => wpQuiet_nil rfl, ?_⟩
  refine AlChk.one rfl (fun b => .slice (some ⟨b, 0, none⟩) 3 3) (.cells #[.slice (some ⟨b8, 0, none⟩) 1 1, .slice (some ⟨w.heap.size, 0, none⟩) 32 32, .slice (some ⟨w.heap.size, 32, none⟩) 32 32] 67 (0, 0)) rfl (fun w3 hb3 hF3 => by go_simp) ?_
  refine AlChk.nil ?_
  refine Walk.blk rfl (fun b => .slice (some ⟨b, 0, none⟩) 3 3) (.cells #[.slice (some ⟨b8, 0, none⟩) 1 1, .slice (some ⟨w.heap.size, 0, none⟩) 32 32, .slice (some ⟨w.heap.size, 32, none⟩) 32 32] 67 (0, 0)) (by simp) ?_
  intro b9 w2 hb2 hF2 hge2 _
  apply Exists.intro
  refine ⟨fun w0 hb0 hF0 => ?_, ?_⟩
  · have k9 : Blk w0 b9 #[.slice (some ⟨b8, 0, none⟩) 1 1, .slice (some ⟨w.heap.size, 0, none⟩) 32 32, .slice (some ⟨w.heap.size, 32, none⟩) 32 32] 67 := hF0.2
    have k8 : Blk w0 b8 (([0] : List Int).map (Value.int .u8)).toArray 5 := hF0.1.2
    have hs := fun e : Ext w0 => CS.out e.at_ b9 b8 (k9.below e.same) (k8.below e.same) ((Kx.out.below hb0).below e.same) ((Htab.out.below (Below.on Hb.out hb0)).below e.same)
    simp only [pick, List.getElem?_toArray, List.getElem?_cons_succ, List.getElem?_cons_zero, Option.toList_some, List.cons_append, List.nil_append, Act.put, List.setIfInBounds_toArray, List.set_cons_zero, List.set_cons_succ]
    repeat (go_big_quiet_step (first | (go_at_call 46; exact Calls.ext (hs _))))
    exact wpQuiet_nil rfl
  refine AlChk.nil ?_
  refine Walk.fin fun w4 h4 _ _ => ?_
  simp only [List.drop_succ_cons, List.drop_zero]
  have HBw4 := hid (Below.on Hb.out h4)
  have hsw4 := HBw4.out.size
  have Kxw4 := hid (Kx.out.below h4)
  have Krw4 := hid (Kr.out.below h4)
  clear h4
  go_wp2_with (
      refine wpList_store_blk rfl 23 _ _ rfl (w.heap.size + 1) (X.map (Value.int .u8)).toArray rfl rfl _ 23 Krw4.out 32 size_digest zsize HX.out.size (ints_one _ _) ?_
      intro w9 hb9 hk9
      have HB9 := hid (hb9.below HBw4.out HBw4.out.size (by omega))
      have HK9 := hid hk9
      clear hb9 hk9)
  exact bodyPost_ret (v := .agg (X.map (Value.int .u8)).toArray) (results_blk Tryd.results15 _ (w.heap.size + 1) rfl _ 23 HK9.out _ Tryd.underlying23 rfl 32 size_digest HX.out.size) rfl ⟨rfl, HB9.out⟩
end Go.Proofs.YthaicocfbmpnmaaDoor
namespace Go.Proofs.YthaicocfbmpnmaaDoor
set_option maxRecDepth 100000
open Go.ChangeShapes Go.WideShapes Go.ChangeAt Go.RowKit
/-- On which side the node of a level is. -/
def bitL (d : List Int) (k : Nat) : Int := d.getD (31 - k / 8) 0 / 2 ^ (k % 8) % 2
/-- A byte of an index, turned down by a bit. -/
def halfB (d : List Int) (i : Nat) : Int := d.getD i 0 / 2 + (if i = 0 then 0 else d.getD (i - 1) 0 % 2 * 128)
def halfL (d : List Int) : List Int := (List.range 32).map (halfB d)
def halfP (d : List Int) (k : Nat) : List Int := (List.range k).map (halfB d) ++ List.replicate (32 - k) 0
theorem dg_at {d : List Int} (h : Dg d) (i : Nat) : 0 ≤ d.getD i 0 ∧ d.getD i 0 < 256 := by
  rw [List.getD_eq_getElem?_getD]
  by_cases hi : i < d.length
  · rw [List.getElem?_eq_getElem hi]
    exact h.small _ (List.getElem_mem hi)
  · rw [List.getElem?_eq_none (by omega)]
    simp
def halfK : Nat → List Int → List Int
  | 0, d => d
  | k + 1, d => halfL (halfK k d)
theorem and_one : ∀ x : Fin 256, bits .and .u8 ((x.val : Nat) : Int) 1 = ((x.val % 2 : Nat) : Int) := by decide +kernel
theorem and_one' {x : Int} (h : 0 ≤ x ∧ x < 256) : bits .and .u8 x 1 = x % 2 := by
  have := and_one ⟨x.toNat, by omega⟩
  simp only at this
  rw [show ((x.toNat : Nat) : Int) = x by omega] at this
  rw [this]
  omega
set_option maxHeartbeats 4000000 in
theorem bit_in (d : List Int) (k : Nat) (w : World) (hd : Dg d) (hk : k < 256) :
    Calls Tryd.prog 19 #[.agg (d.map (Value.int .u8)).toArray, .int .i64 k] w fun e w' => e = .returned (.int .i64 (bitL d k)) ∧ Below w.heap.size w w' := by
  have hI0 : ¬ (k : Int) < 0 := by omega
  have hI1 : ¬ (256 : Int) ≤ (k : Int) := by omega
  have hxx := dg_at hd (31 - k / 8)
  have hlen := hd.len
  have hxe : d[31 - k / 8]? = some (d.getD (31 - k / 8) 0) := by rw [List.getD_eq_getElem?_getD, List.getElem?_eq_getElem (by omega)]; rfl
  unfold bitL
  generalize d.getD (31 - k / 8) 0 = x at *
  have b1 := (Below.refl w.heap.size w).alloc (Nat.le_refl _) (.cells (d.map (Value.int .u8)).toArray 23 (0, 0))
  have Kd := hid (Blk.new (w := w) (n := w.heap.size) rfl (d.map (Value.int .u8)).toArray 23)
  have Hb := hid b1
  have hbz := b1.size
  have Hbs := hid (show w.heap.size + 1 = (w.alloc (.cells (d.map (Value.int .u8)).toArray 23 (0, 0))).heap.size by simp only [World.size_alloc])
  clear b1 
  go_enter Tryd.func19, Tryd.ntmps19
  go_wp2_with fail
  go_returns
  refine ⟨?_, Hb.out⟩
  have h2 : 0 ≤ x / 2 ^ (k % 8) ∧ x / 2 ^ (k % 8) < 256 := ⟨Int.ediv_nonneg hxx.1 (Int.le_of_lt (Int.pow_pos (by omega))), Int.lt_of_le_of_lt (Int.ediv_le_self _ hxx.1) hxx.2⟩
  show Ending.returned (.int .i64 (wrap64 (bits .and .u8 (x / 2 ^ (k % 8)) 1))) = _
  rw [and_one' h2]
  generalize x / 2 ^ (k % 8) = y at *
  rw [show wrap64 (y % 2) = y % 2 by unfold wrap64; omega]
end Go.Proofs.YthaicocfbmpnmaaDoor
namespace Go.Proofs.YthaicocfbmpnmaaDoor
set_option maxRecDepth 100000
open Go.ChangeShapes Go.WideShapes Go.ChangeAt Go.RowKit Go.Shelf
attribute [local go_sem] Oper.semAt_some
set_option maxHeartbeats 4000000 in
theorem values_none (l b : Nat) (W : World) (T : TypeId) (hk : Blk W b #[.slice none 0 0] T) :
    Calls Tryd.prog 93 #[.func (.yield l) #[] #[], .pointer (some ⟨b, 0, none⟩)] W fun e w' => e = .returned (.tuple #[]) ∧ w' = W := by
  have cb : W.cell? ⟨b, 0, none⟩ = some (.slice none 0 0) := by rw [hk.cell]; rfl
  go_enter Tryd.func93, Tryd.ntmps93
  go_wp2_with fail
  go_loopw [7] (fun iv wr => iv = .int .i64 0 ∧ wr = W) (fun _ _ => 0)
  case atStart => exact ⟨rfl, rfl⟩
  case round =>
    obtain ⟨rfl, rfl⟩ := hrel
    go_wp2_with fail
    go_returns; exact ⟨rfl, rfl⟩
set_option maxHeartbeats 4000000 in
theorem appendSeq_in (b : Nat) (w : World) (T : TypeId) (hk : Blk w b #[.slice none 0 0] T) :
    CallsIn Fence.wide 5 Tryd.prog 99 #[.slice none 0 0, .func (.func 93) #[] #[.pointer (some ⟨b, 0, none⟩)]] w fun e w' => e = .returned (.slice none 0 0) ∧ Below w.heap.size w w' := by
  refine callsIn_of_wp_marks Tryd.func99 rfl trivial ?_ rfl
  simp only [Tryd.ntmps99, List.size_toArray, List.length_cons, List.length_nil, Nat.reduceAdd, Nat.reduceSub, Array.replicate_succ, Array.replicate_zero, List.push_toArray, List.append_toArray, List.nil_append, List.cons_append]
  gi_wp2
  have hkn := Blk.new (w := w) rfl #[.slice none 0 0] 36
  have hs : (w.alloc (.cells #[.slice none 0 0] 36)).cell? ⟨w.heap.size, 0, none⟩ = some (.slice none 0 0) ∧ (w.alloc (.cells #[.slice none 0 0] 36)).frozen? ⟨w.heap.size, 0, none⟩ = false := ⟨by rw [hkn.cell]; rfl, hkn.free _⟩
  have hB0 : Below w.heap.size w (w.alloc (.cells #[.slice none 0 0] 36)) := (Below.refl _ w).alloc (Nat.le_refl _) _
  have hkb := hk.below hB0
  refine wpIn_rangeFunc_ownF (α := Empty) rfl (by omega) (gf := 93) (lb := #[.pointer (some ⟨b, 0, none⟩)]) rfl trivial (enters_of Tryd.func93 (by kernel_rfl) rfl)
    (encs := fun x => x.elim) (Kp := Below w.heap.size) (S := fun xs => xs = []) (Sp := fun _ => False) (N := 0) (w0 := w.alloc (.cells #[.slice none 0 0] 36))
    (fun l J Jx W hW _ _ _ h0 => callsIn_wide.2 ((values_none l b W T (hkb.below hW)).mono fun e w' h => ⟨⟨_, h.1⟩, .inl ⟨[], rfl, by rw [h.2]; exact h0⟩⟩)) belowK_t (belowK_b (by simp)) (Below.refl _ _) (fun x => x.elim)
    (fun _ W => (W.cell? ⟨w.heap.size, 0, none⟩ = some (.slice none 0 0) ∧ W.frozen? ⟨w.heap.size, 0, none⟩ = false) ∧ Below w.heap.size w W)
    (fun _ _ _ => False)
    (OwnFrom.and (Own.from (fun s A B row hs hg hr => ⟨cell_kept hs.1 hg hr, (frozen_kept hs.1 hg hr).trans hs.2⟩) _) (ownFrom_below (Nat.le_refl _) (by simp)))
    (fun _ _ _ _ _ hs _ _ => hs)
    ⟨⟨hs.1, hs.2⟩, hB0⟩
    (fun x => x.elim) ?assign ?body ?done ?stop
  case assign => intro l x; exact x.elim
  case body => intro l pre x; exact x.elim
  case done =>
    rintro D ys W hD rfl ⟨⟨hc, _⟩, hB⟩ hK
    gi_wp2
    refine ⟨by simp, .inl ⟨_, _, rfl, run_takeDeferred hK, ?_⟩⟩
    exact ⟨_, results_tmp rfl _ _ _, rfl, hB.trans (belowK_b (w := w) (Nat.le_refl _) W D _ _ (by simp at hD; omega) hK rfl rfl)⟩
  case stop =>
    rintro D c pre W _ h
    exact h.elim
set_option maxHeartbeats 4000000 in
theorem insert_none (f : Value) (w : World) :
    Calls Tryd.prog 101 #[.slice none 0 0, .int .i64 0, .int .i64 0, f] w fun e w' => e = .returned (.tuple #[]) ∧ w' = w := by
  go_enter Tryd.func101, Tryd.ntmps101
  go_wp2_with fail
  go_loopw [8] (fun iv wr => iv = .int .i64 1 ∧ wr = w) (fun _ _ => 0)
  case atStart => exact ⟨rfl, rfl⟩
  case round =>
    obtain ⟨rfl, rfl⟩ := hrel
    go_wp2_with fail
    go_returns
    exact ⟨rfl, rfl⟩
set_option maxHeartbeats 4000000 in
theorem pdq_none (f : Value) (w : World) (lim : Int) :
    Calls Tryd.prog 100 #[.slice none 0 0, .int .i64 0, .int .i64 0, .int .i64 lim, f] w fun e w' => e = .returned (.tuple #[]) ∧ w' = w := by
  go_enter Tryd.func100, Tryd.ntmps100
  go_wp2_with fail
  go_loopw [1, 2, 3, 10, 11] (fun av bv cv dv ev wr => av = .int .i64 0 ∧ bv = .int .i64 0 ∧ cv = .int .i64 lim ∧ dv = .bool true ∧ ev = .bool true ∧ wr = w) (fun _ _ _ _ _ _ => 0)
  case atStart => exact ⟨rfl, rfl, rfl, rfl, rfl, rfl⟩
  case round =>
    obtain ⟨rfl, rfl, rfl, rfl, rfl, rfl⟩ := hrel
    go_wp2_with fail
    refine (insert_none f _).mono ?_
    rintro e w1 ⟨rfl, rfl⟩
    go_wp2_with fail
    go_returns
    exact ⟨rfl, rfl⟩
set_option maxHeartbeats 4000000 in
theorem sort_none (f : Value) (w : World) :
    Calls Tryd.prog 92 #[.slice none 0 0, f] w fun e w' => e = .returned (.tuple #[]) ∧ w' = w := by
  go_enter Tryd.func92, Tryd.ntmps92
  go_wp2_with fail
  refine (len_any 0 _ (by omega) (by omega)).mono ?_
  rintro e w1 ⟨rfl, hw1⟩
  have hw1 := hw1.symm
  subst hw1
  go_wp2_with fail
  refine (pdq_none f _ _).mono ?_
  rintro e w1 ⟨rfl, rfl⟩
  go_wp2_with fail
  go_returns
  exact ⟨rfl, rfl⟩
set_option maxHeartbeats 4000000 in
theorem collect_none (b : Nat) (w : World) (T : TypeId) (hk : Blk w b #[.slice none 0 0] T) :
    Calls Tryd.prog 91 #[.func (.func 93) #[] #[.pointer (some ⟨b, 0, none⟩)]] w fun e w' => e = .returned (.slice none 0 0) ∧ Below w.heap.size w w' := by
  go_enter Tryd.func91, Tryd.ntmps91
  go_wp2_with fail
  refine (callsIn_wide.1 (appendSeq_in b w T hk)).mono ?_
  rintro e w1 ⟨rfl, b1⟩
  go_wp2_with fail
  go_returns
  exact ⟨rfl, b1⟩
set_option maxHeartbeats 4000000 in
theorem sorted_none (b : Nat) (f : Value) (w : World) (T : TypeId) (hk : Blk w b #[.slice none 0 0] T) :
    Calls Tryd.prog 79 #[.func (.func 93) #[] #[.pointer (some ⟨b, 0, none⟩)], f] w fun e w' => e = .returned (.slice none 0 0) ∧ Below w.heap.size w w' := by
  go_enter Tryd.func79, Tryd.ntmps79
  go_wp2_with fail
  refine (collect_none b w T hk).mono ?_
  rintro e w1 ⟨rfl, b1⟩
  go_wp2_with fail
  refine (sort_none f _).mono ?_
  rintro e w2 ⟨rfl, rfl⟩
  go_wp2_with fail
  go_returns
  exact ⟨rfl, b1⟩
set_option maxHeartbeats 4000000 in
theorem valuesf_nil (w : World) :
    Calls Tryd.prog 80 #[.slice none 0 0] w fun e w' => e = .returned (.func (.func 93) #[] #[.pointer (some ⟨w.heap.size, 0, none⟩)]) ∧ Below w.heap.size w w' ∧ Blk w' w.heap.size #[.slice none 0 0] 36 := by
  go_enter Tryd.func80, Tryd.ntmps80
  go_wp2_with fail
  go_returns
  exact ⟨rfl, (Below.refl _ _).alloc (Nat.le_refl _) _, Blk.new rfl _ _⟩
end Go.Proofs.YthaicocfbmpnmaaDoor
namespace Go.Proofs.YthaicocfbmpnmaaDoor
set_option maxRecDepth 100000
open Go.ChangeShapes Go.WideShapes Go.ChangeAt Go.RowKit
theorem size_forest : (Tryd.prog.info? 76).map (·.size) = some 2 := by kernel_rfl
set_option maxHeartbeats 4000000 in
theorem grow_none (w : World) (tab : ShaTab w) :
    Calls Tryd.prog 49 #[.slice none 0 0] w fun e w' => ∃ g, e = .returned (.tuple #[.agg #[.slice none 0 0, .slice (some ⟨g, 0, none⟩) 257 257], .int .i64 0]) ∧ w.heap.size ≤ g ∧ Below w.heap.size w w' ∧ Blk w' g (dcs (empN 257)) 23 := by
  have b1 := (Below.refl w.heap.size w).alloc (Nat.le_refl _) (.cells #[.slice none 0 0, .slice none 0 0] 76 (0, 0))
  have Kf := hid (Blk.new (w := w) (n := w.heap.size) rfl #[.slice none 0 0, .slice none 0 0] 76)
  have Hb := hid b1
  have hbz := b1.size
  have Hbs := hid (show w.heap.size + 1 = (w.alloc (.cells #[.slice none 0 0, .slice none 0 0] 76 (0, 0))).heap.size by simp only [World.size_alloc])
  have Htab := hid tab
  clear b1 tab 
  have hmm : ∀ W : World, (Instr.makeMap 117 none).run Tryd.prog W = .ok (.map (some W.heap.size)) (W.alloc (.map #[] 0)) := fun W => run_makeMap _ W
  go_enter Tryd.func49, Tryd.ntmps49
  go_wp2_with fail
  have b1 := Hb.out.alloc Hb.out.size (.map #[] 0)
  have Kf1 := hid (Kf.out.old (.map #[] 0))
  have Hb1 := hid b1
  clear b1
  generalize hW1 : (w.alloc (.cells #[.slice none 0 0, .slice none 0 0] 76 (0, 0))).alloc (.map #[] 0) = w1 at *
  have hs1 := Hb1.out.size
  have hf1 := Kf1.out.lt
  go_loopw [15] (fun iv wr => iv = .int .i64 0 ∧ wr = w1) (fun _ _ => 0)
  case atStart => exact ⟨rfl, rfl⟩
  case round =>
    obtain ⟨rfl, rfl⟩ := hrel
    go_wp2_with fail
    refine (valuesf_nil _).mono ?_
    rintro e w2 ⟨rfl, b2, k2⟩
    have Hb2 := hid (Below.on Hb1.out b2)
    have Kf2 := hid (Kf1.out.below b2)
    have Kv2 := hid k2
    have hs2 := Hb2.out.size
    clear b2 k2
    go_wp2_with fail
    refine (sorted_none _ _ _ _ Kv2.out).mono ?_
    rintro e w3 ⟨rfl, b3⟩
    have Hb3 := hid (Below.on Hb2.out b3)
    have Kf3 := hid (Kf2.out.below b3)
    have hs3 := Hb3.out.size
    clear b3
    go_wp2_with fail
    refine (empty_any _ (Htab.out.below Hb3.out)).mono ?_
    rintro e w4 ⟨rfl, b4, k4⟩
    have Hb4 := hid (Below.on Hb3.out b4)
    have Kf4 := hid (Kf3.out.below b4)
    have Kg4 := hid k4
    have hs4 := Hb4.out.size
    have hf3 := Kf3.out.lt
    clear b4 k4
    have Kgw21 : Hid (Blk ((w4.setCell ⟨w.heap.size, 0, none⟩ (.slice none 0 0)).setCell ⟨w.heap.size, 1, none⟩ (.slice (some ⟨w3.heap.size, 0, none⟩) 257 257)) (w3.heap.size) (dcs (empN 257)) 23) := hid (Blk.setAll_other (b := w.heap.size) (by have := Kg4.out.lt; omega) [.slice none 0 0, .slice (some ⟨w3.heap.size, 0, none⟩) 257 257] 0 _ Kg4.out)
    have q0w21 := (Kf4.out.cell 0).trans (show _ = some _ from rfl)
    have r0w21 := Kf4.out.free 0
    have q1w21 := (Kf4.out.cell 1).trans (show _ = some _ from rfl)
    have r1w21 := Kf4.out.free 1
    have Kfw21 : Hid (Blk ((w4.setCell ⟨w.heap.size, 0, none⟩ (.slice none 0 0)).setCell ⟨w.heap.size, 1, none⟩ (.slice (some ⟨w3.heap.size, 0, none⟩) 257 257)) (w.heap.size) #[.slice none 0 0, .slice (some ⟨w3.heap.size, 0, none⟩) 257 257] 76) := hid (Blk.setAll_self Kf4.out [.slice none 0 0, .slice (some ⟨w3.heap.size, 0, none⟩) 257 257] rfl)
    have HBw21 : Hid (Below w.heap.size w ((w4.setCell ⟨w.heap.size, 0, none⟩ (.slice none 0 0)).setCell ⟨w.heap.size, 1, none⟩ (.slice (some ⟨w3.heap.size, 0, none⟩) 257 257))) := hid (Below.setAll (by omega) [.slice none 0 0, .slice (some ⟨w3.heap.size, 0, none⟩) 257 257] 0 _ Hb4.out)
    have hsw21 := HBw21.out.size
    go_wp2_with fail
    exact bodyPost_ret (v := .tuple #[.agg #[.slice none 0 0, .slice (some ⟨w3.heap.size, 0, none⟩) 257 257], .int .i64 0]) (results_blk_tmp Tryd.results49 _ (w.heap.size) rfl _ rfl _ 76 Kfw21.out _ Tryd.underlying76 rfl 2 size_forest rfl) rfl ⟨_, rfl, hs3, HBw21.out, Kgw21.out⟩
set_option maxHeartbeats 4000000 in
theorem grow_many (a : Option Addr) (n c : Nat) (hn : 256 < n) (w : World) :
    Calls Tryd.prog 49 #[.slice a n c] w fun e w' => e = .returned (.tuple #[.agg #[.slice none 0 0, .slice none 0 0], .int .i64 3]) ∧ Below w.heap.size w w' := by
  have hI : (256 : Int) < n := by omega
  have b1 := (Below.refl w.heap.size w).alloc (Nat.le_refl _) (.cells #[.slice none 0 0, .slice none 0 0] 76 (0, 0))
  have Kf := hid (Blk.new (w := w) (n := w.heap.size) rfl #[.slice none 0 0, .slice none 0 0] 76)
  have Hb := hid b1
  have hbz := b1.size
  have Hbs := hid (show w.heap.size + 1 = (w.alloc (.cells #[.slice none 0 0, .slice none 0 0] 76 (0, 0))).heap.size by simp only [World.size_alloc])
  clear b1 
  go_enter Tryd.func49, Tryd.ntmps49
  go_wp2_with fail
  exact bodyPost_ret (v := .tuple #[.agg #[.slice none 0 0, .slice none 0 0], .int .i64 3]) (results_blk_tmp Tryd.results49 _ (w.heap.size) rfl _ rfl _ 76 Kf.out _ Tryd.underlying76 rfl 2 size_forest rfl) rfl ⟨rfl, Hb.out⟩
end Go.Proofs.YthaicocfbmpnmaaDoor
namespace Go.Proofs.YthaicocfbmpnmaaDoor
set_option maxRecDepth 100000
open Go.ChangeShapes Go.WideShapes Go.ChangeAt Go.RowKit
open Go.WideMaps (KeyLaw)
open Go.ChangeMaps (setBlock)
theorem dig_laid : laidOutB Tryd.prog = true := by kernel_rfl
theorem dig_row : (23 : TypeId) < Tryd.prog.types.size := of_decide_eq_true (by kernel_rfl)
theorem dig_wide : (match Tryd.prog.underlying 23 with | some (.array _ _) | some (.struct _) => true | _ => false) = true := by rw [Tryd.underlying23]
theorem dig_typed : Tryd.prog.keyTypeAt 2 23 = true := by kernel_rfl
theorem digLaw : KeyLaw Tryd.prog 23 := deep_law_laid dig_laid (m := 2) (by omega) dig_row dig_typed dig_wide
/-- An index was counted so often. -/
def MapN (r : Nat) (kv : Value) (n : Nat) (w : World) : Prop := (n = 0 ∧ w.heap[r]? = some (.map #[] 0)) ∨ w.heap[r]? = some (.map #[⟨kv, .int .i64 n, 0⟩] 1)
theorem MapN.at_ {r : Nat} {kv : Value} {n : Nat} {w w' : World} (h : MapN r kv n w) (he : w'.heap[r]? = w.heap[r]?) : MapN r kv n w' := by
  unfold MapN at *
  rw [he]
  exact h
theorem MapN.lt {r : Nat} {kv : Value} {n : Nat} {w : World} (h : MapN r kv n w) : r < w.heap.size := by
  rcases h with ⟨_, h⟩ | h <;> exact (Array.getElem?_eq_some_iff.1 h).1
theorem MapN.below {r : Nat} {kv : Value} {n : Nat} {w w' : World} (h : MapN r kv n w) (hb : Below w.heap.size w w') : MapN r kv n w' := h.at_ (hb.block r h.lt)
theorem int_zero (w : World) : (zeroValue 3).run Tryd.prog w = .ok (.int .i64 0) w := by kernel_rfl
theorem run_lookup_n {r : Nat} {kv : Value} {kl : Lit} {n : Nat} {w : World} (hkey : keyOf Tryd.prog 23 kv = some kl) (h : MapN r kv n w) :
    (Instr.lookup 117 (.map (some r)) kv false).run Tryd.prog w = .ok (.int .i64 n) w := by
  rcases h with ⟨rfl, hb⟩ | hb
  · rcases digLaw.find w hkey [] (by simp) with ⟨h1, _⟩ | ⟨j, e0, _, h2, _⟩
    · simp [Instr.lookup, run_underlying Tryd.underlying117, MapKept.run_getObj_map hb, digLaw.check w true hkey, h1]
    · simp at h2
  · rcases digLaw.find w hkey [⟨kv, .int .i64 n, 0⟩] (by simp [hkey]) with ⟨_, h2⟩ | ⟨j, e0, h1, h2, _⟩
    · exact absurd rfl (h2 ⟨kv, .int .i64 n, 0⟩ (by simp))
    · obtain rfl : j = 0 := by
        have := (List.getElem?_eq_some_iff.1 h2).1
        simp at this; omega
      simp only [List.getElem?_cons_zero, Option.some.injEq] at h2
      subst h2
      simp [Instr.lookup, run_underlying Tryd.underlying117, MapKept.run_getObj_map hb, digLaw.check w false hkey, h1, Result.andThen]
theorem run_mapEntry_n {r : Nat} {kv : Value} {kl : Lit} {n : Nat} {w : World} (hkey : keyOf Tryd.prog 23 kv = some kl) (h : MapN r kv n w) :
    (Instr.mapEntry 117 (.map (some r)) kv).run Tryd.prog w = .ok (.tuple #[.int .i64 n, .int .i64 0]) (setBlock w r (.map #[⟨kv, .int .i64 n, 0⟩] 1)) := by
  rcases h with ⟨rfl, hb⟩ | hb
  · rcases digLaw.find w hkey [] (by simp) with ⟨h1, _⟩ | ⟨j, e0, _, h2, _⟩
    · simp [Instr.mapEntry, run_underlying Tryd.underlying117, MapKept.run_getObj_map hb, digLaw.check w false hkey, h1, MapKept.run_setObj_map _ hb, Result.andThen, setBlock, goInt]
    · simp at h2
  · rcases digLaw.find w hkey [⟨kv, .int .i64 n, 0⟩] (by simp [hkey]) with ⟨_, h2⟩ | ⟨j, e0, h1, h2, _⟩
    · exact absurd rfl (h2 ⟨kv, .int .i64 n, 0⟩ (by simp))
    · obtain rfl : j = 0 := by
        have := (List.getElem?_eq_some_iff.1 h2).1
        simp at this; omega
      simp only [List.getElem?_cons_zero, Option.some.injEq] at h2
      subst h2
      simp [Instr.mapEntry, run_underlying Tryd.underlying117, MapKept.run_getObj_map hb, digLaw.check w false hkey, h1, digLaw.stays w hkey, MapKept.run_setObj_map _ hb, Result.andThen, setBlock, goInt]
theorem run_entryStore_n {r : Nat} {kv v val : Value} {w : World} (hb : w.heap[r]? = some (.map #[⟨kv, v, 0⟩] 1)) :
    (Instr.entryStore 117 (.map (some r)) (.int .i64 0) val).run Tryd.prog w = .ok () (setBlock w r (.map #[⟨kv, val, 0⟩] 1)) := by
  have hidx : (#[⟨kv, v, 0⟩] : Array MapEntry).findIdx? (fun e => ((e.born : Nat) : Int) == (0 : Int)) = some 0 := by
    rw [Go.WideElems.findIdx_arr]
    simp [List.findIdx?_cons]
  have hmod : (#[⟨kv, v, 0⟩] : Array MapEntry).modify 0 (fun e => { e with val := val }) = #[⟨kv, val, 0⟩] := by
    apply Array.ext'
    simp
  simp [Instr.entryStore, MapKept.run_getObj_map hb, asInt, asIntOf, hidx, hmod, MapKept.run_setObj_map _ hb, Result.andThen, setBlock]
theorem setBlock_in (w : World) (r : Nat) (o : Obj) : FlowB.ButIn [r] w (setBlock w r o) :=
  ⟨rfl, rfl, rfl, by simp [setBlock], fun k hk hn => by
    show (w.heap.setIfInBounds r o)[k]? = _
    rw [Array.getElem?_setIfInBounds, if_neg (fun e => hn (by simp [e]))]⟩
theorem setBlock_at {w : World} {r : Nat} (h : r < w.heap.size) (o : Obj) : (setBlock w r o).heap[r]? = some o := by
  show (w.heap.setIfInBounds r o)[r]? = _
  rw [Array.getElem?_setIfInBounds, if_pos rfl, if_pos h]
/-- The entries of a row. -/
structure EntsAt (w : World) (a : Option Addr) (len cap : Nat) (es : List (List Int × List Int)) : Prop where
  length : es.length = len
  le : len ≤ cap
  each : ∀ x ∈ es, Dg x.1 ∧ Dg x.2
  mem : len = 0 ∨ ∃ x o, a = some ⟨x, o, none⟩ ∧ x < w.heap.size ∧ ∀ j, j < len → w.rangeAt x (o + j * 64) ((entL (es.getD j ([], [])).1 (es.getD j ([], [])).2).map (Value.int .u8))
theorem EntsAt.below {w w' : World} {a : Option Addr} {len cap : Nat} {es : List (List Int × List Int)} (h : EntsAt w a len cap es) (hb : Below w.heap.size w w') : EntsAt w' a len cap es := by
  obtain ⟨h1, h2, h3, h4 | ⟨x, o, rfl, hx, hc⟩⟩ := h
  · exact ⟨h1, h2, h3, .inl h4⟩
  · exact ⟨h1, h2, h3, .inr ⟨x, o, rfl, Nat.lt_of_lt_of_le hx hb.size, fun j hj => rangeAt_below (hc j hj) hx hb⟩⟩
/-- The world goes on, and the map keeps its number. -/
def MapR (r : Nat) (kv : Value) (n : Nat) (a b : World) : Prop := FlowB.ButIn [r] a b ∧ (MapN r kv n a → MapN r kv n b)
theorem mapR_rel (r : Nat) (kv : Value) (n : Nat) : Rel (MapR r kv n) :=
  ⟨fun h => ⟨(FlowB.rel_butIn [r]).of h, fun hm => hm.below h⟩, fun h k => ⟨(FlowB.rel_butIn [r]).trans h.1 k.1, fun hm => k.2 (h.2 hm)⟩⟩
theorem quiet_lookup {r : Nat} {kv : Value} {kl : Lit} {n : Nat} {op : Oper} {a : Act} {C : World → Prop} {K : Act → Prop} (x y : Operand) (ho : op.op = .lookup 117 x y false) (hx : a.eval x = .map (some r)) (hy : a.eval y = kv) (hkey : keyOf Tryd.prog 23 kv = some kl) (hC : ∀ w', C w' → MapN r kv n w')
    (h : K (a.put op.dst (.int .i64 n))) : op.quiet Tryd.prog a C K :=
  ⟨.int .i64 n, fun w' hw' => by
    unfold Oper.quietAt execOp
    simp only [ho, hx, hy, Sem.run_bind, Sem.run_pure, Result.andThen_ok, run_lookup_n hkey (hC w' hw')]
    simp [Oper.quietUpon], h⟩
theorem ent_front {a b : List Int} (_ha : Dg a) {w : World} {g : Nat} {T : TypeId} (h : Blk w g ((entL a b).map (Value.int .u8)).toArray T) : w.rangeAt g 0 (a.map (Value.int .u8)) := fun j v hv => by
  have hj : j < a.length := by have := (List.getElem?_eq_some_iff.1 hv).1; simpa using this
  rw [Nat.zero_add, h.cell, List.getElem?_toArray, entL, List.map_append, List.getElem?_append_left (by rw [List.length_map]; exact hj)]
  exact hv
theorem exec_mapEntry {o : Oper} {A : Act} {w w' : World} {x y : Operand} {vx vy v : Value} (ho : o.op = .mapEntry 117 x y) (hx : A.eval x = vx) (hy : A.eval y = vy) (hr : (Instr.mapEntry 117 vx vy).run Tryd.prog w = .ok v w') : (execOp A.eval o).run Tryd.prog w = .ok (.value v) w' := by
  unfold execOp
  simp only [ho, hx, hy, Sem.run_bind, hr, Result.andThen_ok, Sem.run_pure]
theorem wpList_entryStore {ops : Array Oper} {rest : List Oper} {o : Oper} {A : Act} {w : World} {Q : Exit → Act → World → Prop} {r : Nat} {kv v val : Value} (hgd : o.guard = none) (x s y : Operand) (ho : o.op = .entryStore 117 x s y) (hx : A.eval x = .map (some r)) (hs : A.eval s = .int .i64 0) (hy : A.eval y = val) (hb : w.heap[r]? = some (.map #[⟨kv, v, 0⟩] 1))
    (h : ∀ w', FlowB.ButIn [r] w w' → w'.heap[r]? = some (.map #[⟨kv, val, 0⟩] 1) → wpList Tryd.prog ops Q rest (A.put o.dst undef) w') : wpList Tryd.prog ops Q (o :: rest) A w :=
  wpList_plain hgd fun K hK => by
    unfold Oper.wp execOp
    simp only [ho, hx, hs, hy, Sem.run_bind, Sem.run_pure, Result.andThen_ok, run_entryStore_n hb, Oper.upon_skip]
    exact hK _ _ (h _ (setBlock_in _ _ _) (setBlock_at (Array.getElem?_eq_some_iff.1 hb).1 _))
theorem ent_size64 {a b : List Int} (ha : Dg a) (hb : Dg b) : (Tryd.prog.info? 25).map (·.size) = some (entL a b).length := by
  rw [show (entL a b).length = 64 by simp [entL, ha.len, hb.len]]; exact size_entry
set_option maxHeartbeats 4000000 in
theorem grow_twice (a : Option Addr) (cap : Nat) (es : List (List Int × List Int)) (d : List Int) (kl : Lit) (w : World) (hkey : keyOf Tryd.prog 23 (.agg (d.map (Value.int .u8)).toArray) = some kl) (hE : EntsAt w a 2 cap es) (hd : Dg d) (hs : ∀ j, j < 2 → (es.getD j ([], [])).1 = d) :
    Calls Tryd.prog 49 #[.slice a 2 cap] w fun e w' => e = .returned (.tuple #[.agg #[.slice none 0 0, .slice none 0 0], .int .i64 5]) ∧ Below w.heap.size w w' := by
  have HE := hid hE
  have HD := hid hd
  have Hsame := hid hs
  clear hE hs
  have b1 := (Below.refl w.heap.size w).alloc (Nat.le_refl _) (.cells #[.slice none 0 0, .slice none 0 0] 76 (0, 0))
  have Kf := hid (Blk.new (w := w) (n := w.heap.size) rfl #[.slice none 0 0, .slice none 0 0] 76)
  have Hb := hid b1
  have hbz := b1.size
  have Hbs := hid (show w.heap.size + 1 = (w.alloc (.cells #[.slice none 0 0, .slice none 0 0] 76 (0, 0))).heap.size by simp only [World.size_alloc])
  clear b1 
  have hmm : ∀ W : World, (Instr.makeMap 117 none).run Tryd.prog W = .ok (.map (some W.heap.size)) (W.alloc (.map #[] 0)) := fun W => run_makeMap _ W
  go_enter Tryd.func49, Tryd.ntmps49
  go_wp2_with fail
  have b1 := Hb.out.alloc Hb.out.size (.map #[] 0)
  have Kf1 := hid (Kf.out.old (.map #[] 0))
  have Hb1 := hid b1
  have hr1 : ((w.alloc (.cells #[.slice none 0 0, .slice none 0 0] 76 (0, 0))).alloc (.map #[] 0)).heap[w.heap.size + 1]? = some (.map #[] 0) := by
    rw [Hbs.out]
    exact World.alloc_heap_new _ _
  have HM1 := hid (show MapN (w.heap.size + 1) (.agg (d.map (Value.int .u8)).toArray) 0 ((w.alloc (.cells #[.slice none 0 0, .slice none 0 0] 76 (0, 0))).alloc (.map #[] 0)) from .inl ⟨rfl, hr1⟩)
  clear b1 hr1
  generalize hW1 : (w.alloc (.cells #[.slice none 0 0, .slice none 0 0] 76 (0, 0))).alloc (.map #[] 0) = w1 at *
  have hs1 := Hb1.out.size
  have hf1 := Kf1.out.lt
  go_loopw [15] (fun iv wr => ∃ j : Nat, j ≤ 1 ∧ iv = .int .i64 j ∧ Below w.heap.size w wr ∧ Blk wr w.heap.size #[.slice none 0 0, .slice none 0 0] 76 ∧ MapN (w.heap.size + 1) (.agg (d.map (Value.int .u8)).toArray) j wr) (fun iv _ => 2 - (intOf iv).toNat)
  case atStart => exact ⟨0, by omega, rfl, Hb1.out, Kf1.out, HM1.out⟩
  case round =>
    clear HM1 Kf1 Hb1
    obtain ⟨j, hj, rfl, bel, kf, mp⟩ := hrel
    have HBwr := hid bel
    have Kfwr := hid kf
    have HMwr := hid mp
    have hswr := bel.size
    have hrlt := mp.lt
    have hE := HE.out.below bel
    clear bel kf mp
    have hcI : (j : Int) < 2 := by omega
    obtain ⟨hE1, hE2, hE3, hE4 | ⟨x, o, rfl, hx, hc⟩⟩ := hE
    · omega
    have hRg := hid (hc j (by omega))
    rw [Hsame.out j (by omega)] at hRg
    have HCJ := hid (hE3 (es.getD j ([], [])) (by rw [List.getD_eq_getElem?_getD, List.getElem?_eq_getElem (by omega)]; exact List.getElem_mem _)).2
    generalize (es.getD j ([], [])).2 = c at *
    clear hc hE1 hE2 hE3
    go_wp2_with (first
       | (refine wpList_index_s 64 rfl 36 _ _ rfl Tryd.underlying36 size_entry x o 2 cap rfl _ _ rfl j rfl (by omega) ?_)
       | (refine wpList_load_mid rfl 25 _ rfl x (o + j * 64) rfl _ _ hRg.out Tryd.underlying25 rfl (by rw [List.length_map]; exact ent_size64 HD.out HCJ.out) ?_)
       | (
          refine wpList_store_blk rfl 25 _ _ rfl (wr.heap.size) ((entL d c).map (Value.int .u8)).toArray rfl rfl _ 25 (Blk.new rfl (byteCells 64 []) _) 64 size_entry zsize64 (two_size HD.out HCJ.out) (ints_one _ _) ?_
          intro w21 hbw21 hkw21
          have hw21 := hbw21.below ((Below.refl wr.heap.size wr).alloc (Nat.le_refl _) _) (by simp only [World.size_alloc]; omega) (Nat.le_refl _)
          have HBw21 := hid (Below.on HBwr.out hw21)
          have hsw21 := HBw21.out.size
          have Kfw21 := hid (Kfwr.out.below hw21)
          have hlfw21 := Kfwr.out.lt
          have Ktw21 := hid hkw21
          have hfw21 : w.heap.size ≤ wr.heap.size := HBwr.out.size
          have HM21 := hid (HMwr.out.below hw21)
          clear hbw21 hkw21 hw21))
    simp only [Act.put]
    have HF21 := hid (ent_front HD.out (b := c) Ktw21.out)
    have hrl := HM21.out.lt
    have hrt : ¬ wr.heap.size = w.heap.size + 1 := by omega
    refine FlowB.wp_region_flow_in (mapR_rel (w.heap.size + 1) (.agg (d.map (Value.int .u8)).toArray) j) (fun wz => MapN (w.heap.size + 1) (.agg (d.map (Value.int .u8)).toArray) j wz) 7 [0, 1, 2, 3, 4] [] [(.c 5, [6], [])] (by kernel_rfl) (by kernel_rfl) (fun _ h => h.1.size) HM21.out (fun _ _ h hb => h.below hb) ?_
    apply Exists.intro
    refine ⟨fun w0 hb0 hF0 => ?_, ?_⟩
    · skip
      have ml : ∀ w', (∃ x : Ext w0, w' = x.at_) → MapN (w.heap.size + 1) (.agg (d.map (Value.int .u8)).toArray) j w' := fun w' ⟨x, hx⟩ => hx ▸ (hb0.2 HM21.out).below x.same
      have zl : ∀ w', (∃ x : Ext w0, w' = x.at_) → w'.rangeAt wr.heap.size 0 (d.map (Value.int .u8)) := fun w' ⟨x, hx⟩ k v hv => by
        rw [hx]
        exact (x.same.cell (p := ⟨wr.heap.size, 0 + k, none⟩) (Nat.lt_of_lt_of_le Ktw21.out.lt hb0.1.size)).trans (hb0.1.cell Ktw21.out.lt (by simp only [List.mem_singleton]; exact hrt) (HF21.out k v hv))
      simp only [pick, List.getElem?_toArray, List.getElem?_cons_succ, List.getElem?_cons_zero, Option.toList_some, List.cons_append, List.nil_append]
      repeat (first | (go_big_quiet_want; refine quiet_load_mid 23 _ rfl wr.heap.size 0 rfl _ zl _ Tryd.underlying23 rfl (by rw [List.length_map, HD.out.len]; exact size_digest) ?_; go_big_quiet_on; simp only [Act.put, List.setIfInBounds_toArray, List.set_cons_zero, List.set_cons_succ]) | (go_big_quiet_want; refine quiet_lookup _ _ rfl rfl rfl hkey ml ?_; go_big_quiet_on; simp only [Act.put, List.setIfInBounds_toArray, List.set_cons_zero, List.set_cons_succ]) | go_big_quiet_step (fail))
      exact wpQuiet_nil rfl
    refine FlowB.AlChk.nil ?_
    refine FlowB.Walk.does rfl (fun v _ => v = .tuple #[.int .i64 j, .int .i64 0]) (fun _ w' => w'.heap[w.heap.size + 1]? = some (.map #[⟨.agg (d.map (Value.int .u8)).toArray, .int .i64 j, 0⟩] 1)) (fun v w' w'' _ h _ => h) (fun v w' w'' h k => by rw [k.block _ (Array.getElem?_eq_some_iff.1 h).1]; exact h) rfl (fun w1 hb1 hF1 hG1 => ?_) ?_
    · refine ⟨_, _, exec_mapEntry rfl rfl rfl (run_mapEntry_n hkey hG1), ⟨setBlock_in _ _ _, fun _ => .inr (setBlock_at hG1.lt _)⟩, rfl, setBlock_at hG1.lt _⟩
    rintro v1 w1 hb1 hF1 rfl
    apply Exists.intro
    refine ⟨fun w0 hb0 hF0 => ?_, ?_⟩
    · skip
      simp only [pick, List.getElem?_toArray, List.getElem?_cons_succ, List.getElem?_cons_zero, Option.toList_some, List.cons_append, List.nil_append, Act.put, List.setIfInBounds_toArray, List.set_cons_zero, List.set_cons_succ]
      repeat (go_big_quiet_step (fail))
      exact wpQuiet_nil rfl
    refine FlowB.AlChk.nil ?_
    refine FlowB.Walk.fin fun w30 h30 hF30 hG30 => ?_
    simp only [List.drop_succ_cons, List.drop_zero]
    have HB30 := hid (h30.1.below HBw21.out hsw21 (by simp only [List.mem_singleton, forall_eq]; omega))
    have Kf30 := hid (h30.1.blk Kfw21.out (by simp only [List.mem_singleton]; omega))
    have Kt30 := hid (h30.1.blk Ktw21.out (by simp only [List.mem_singleton]; exact hrt))
    have HG30 := hid hG30
    clear h30 hF30 hG30
    rcases (show j = 0 ∨ j = 1 by omega) with rfl | rfl
    · skip
      go_wp2_with (first
         | (
            refine wpList_entryStore rfl _ _ _ rfl rfl rfl rfl HG30.out ?_
            intro w40 hb40 hg40
            have HB40 := hid (hb40.below HB30.out HB30.out.size (by simp only [List.mem_singleton, forall_eq]; omega))
            have Kf40 := hid (hb40.blk Kf30.out (by simp only [List.mem_singleton]; omega))
            have Kt40 := hid (hb40.blk Kt30.out (by simp only [List.mem_singleton]; exact hrt))
            have HM40 := hid (show MapN (w.heap.size + 1) (.agg (d.map (Value.int .u8)).toArray) (0 + 1) w40 from .inr hg40)
            have HF40 := hid (ent_front HD.out (b := c) Kt40.out)
            have hlk := run_lookup_n hkey HM40.out
            clear hb40 hg40)
         | (refine wpList_load_mid rfl 23 _ rfl wr.heap.size 0 rfl _ _ HF40.out Tryd.underlying23 rfl (by rw [List.length_map, HD.out.len]; exact size_digest) ?_))
      exact ⟨⟨1, by omega, by first | rfl | simp, HB40.out, Kf40.out, HM40.out⟩, by simp [intOf]⟩
    · skip
      go_wp2_with (first
         | (
            refine wpList_entryStore rfl _ _ _ rfl rfl rfl rfl HG30.out ?_
            intro w40 hb40 hg40
            have HB40 := hid (hb40.below HB30.out HB30.out.size (by simp only [List.mem_singleton, forall_eq]; omega))
            have Kf40 := hid (hb40.blk Kf30.out (by simp only [List.mem_singleton]; omega))
            have Kt40 := hid (hb40.blk Kt30.out (by simp only [List.mem_singleton]; exact hrt))
            have HM40 := hid (show MapN (w.heap.size + 1) (.agg (d.map (Value.int .u8)).toArray) (1 + 1) w40 from .inr hg40)
            have HF40 := hid (ent_front HD.out (b := c) Kt40.out)
            have hlk := run_lookup_n hkey HM40.out
            have q0w61 := (Kf40.out.cell 0).trans (show _ = some _ from rfl)
            have r0w61 := Kf40.out.free 0
            have q1w61 := (Kf40.out.cell 1).trans (show _ = some _ from rfl)
            have r1w61 := Kf40.out.free 1
            have Kfw61 : Hid (Blk ((w40.setCell ⟨w.heap.size, 0, none⟩ (.slice none 0 0)).setCell ⟨w.heap.size, 1, none⟩ (.slice none 0 0)) (w.heap.size) #[.slice none 0 0, .slice none 0 0] 76) := hid (Blk.setAll_self Kf40.out [.slice none 0 0, .slice none 0 0] rfl)
            have HBw61 : Hid (Below w.heap.size w ((w40.setCell ⟨w.heap.size, 0, none⟩ (.slice none 0 0)).setCell ⟨w.heap.size, 1, none⟩ (.slice none 0 0))) := hid (Below.setAll (by omega) [.slice none 0 0, .slice none 0 0] 0 _ HB40.out)
            have hsw61 := HBw61.out.size
            clear hb40 hg40)
         | (refine wpList_load_mid rfl 23 _ rfl wr.heap.size 0 rfl _ _ HF40.out Tryd.underlying23 rfl (by rw [List.length_map, HD.out.len]; exact size_digest) ?_))
      exact bodyPost_ret (v := .tuple #[.agg #[.slice none 0 0, .slice none 0 0], .int .i64 5]) (results_blk_tmp Tryd.results49 _ (w.heap.size) rfl _ rfl _ 76 Kfw61.out _ Tryd.underlying76 rfl 2 size_forest rfl) rfl ⟨rfl, HBw61.out⟩
end Go.Proofs.YthaicocfbmpnmaaDoor
