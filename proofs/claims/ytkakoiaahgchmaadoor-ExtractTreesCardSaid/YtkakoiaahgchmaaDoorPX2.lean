/-
  Put together, as far as wanted: ELNShaAdd ELMShaP ELNShaFin ELMShaB ELMShaC ELNShaRefSum ELMDig ELMMac ELMAdrs ELMKeyed ELMKeyedRef ELMChain ELMFrame ELMDigits ELNDigs ELPLt ELPWots ELLogA ELLogB ELLogH ELLogI ELLogK ELLogM EPtA EPtB EPtC EPtF EPtH EPrA EPrC EPrD EPrE EPrF EPrG.
-/
import Derived.Test.YtkakoiaahgchmaaDoorPX1
namespace Go.Proofs.YtkakoiaahgchmaaDoor
set_option maxRecDepth 100000
open Go.ChangeShapes Go.WideShapes Go.ChangeAt Go.RowKit
/-- Cells that are written into the middle of a block. -/
theorem Blk.setCells {w : World} {b : Nat} {T : TypeId} (A L B : List Value) (o : Nat) (cs : List Value) (h : Blk w b (A ++ (L ++ B)).toArray T) (hl : o + cs.length ≤ L.length) :
    Blk (w.setCells b (A.length + o) cs) b (A ++ (splice L o cs ++ B)).toArray T := by
  rw [setCells_is]
  obtain ⟨cs', h1, h2, h3, h4, h5⟩ := Blk.setAll_at cs (A.length + o) w _ h (by simp; omega)
  have : cs' = (A ++ (splice L o cs ++ B)).toArray := by
    apply Array.ext_getElem?
    intro j
    rcases Nat.lt_or_ge j (A.length + o) with hj | hj
    · rw [h3 j hj]
      simp only [List.getElem?_toArray]
      rcases Nat.lt_or_ge j A.length with hja | hja
      · rw [List.getElem?_append_left hja, List.getElem?_append_left hja]
      · rw [List.getElem?_append_right hja, List.getElem?_append_right hja, List.getElem?_append_left (by omega), List.getElem?_append_left (by rw [length_splice _ _ _ hl]; omega)]
        unfold splice
        rw [List.getElem?_append_left (by simp; omega), List.getElem?_take_of_lt (by omega)]
    · rcases Nat.lt_or_ge j (A.length + o + cs.length) with hj2 | hj2
      · have := h5 (j - (A.length + o)) (by omega)
        rw [show A.length + o + (j - (A.length + o)) = j by omega] at this
        rw [this, List.getElem?_toArray, List.getElem?_append_right (by omega), List.getElem?_append_left (by rw [length_splice _ _ _ hl]; omega)]
        unfold splice
        rw [List.getElem?_append_right (by simp; omega), List.getElem?_append_left (by simp; omega)]
        congr 1
        simp; omega
      · rw [h4 j hj2, List.getElem?_toArray, List.getElem?_toArray, List.getElem?_append_right (show A.length ≤ j by omega), List.getElem?_append_right (show A.length ≤ j by omega)]
        rcases Nat.lt_or_ge (j - A.length) L.length with hj3 | hj3
        · rw [List.getElem?_append_left hj3, List.getElem?_append_left (by rw [length_splice _ _ _ hl]; omega)]
          unfold splice
          rw [List.getElem?_append_right (by simp; omega), List.getElem?_append_right (by simp; omega), List.getElem?_drop]
          congr 1
          simp; omega
        · rw [List.getElem?_append_right hj3, List.getElem?_append_right (by rw [length_splice _ _ _ hl]; omega), length_splice _ _ _ hl]
  rw [← this]; exact h1
section
variable {P : Program}
/-- copy, a text into a part of a block -/
theorem run_copy_text (w : World) (dT sT ty elem : TypeId) (hu : P.underlying dT = some (.slice elem)) (hs : (P.info? elem).map (·.size) = some 1) {b : Nat} {cs : Array Value} {T : TypeId} (hk : Blk w b cs T) (off dLen dCap : Nat) {a : Option Addr} {len cap : Nat} {t : List Int} (hT : TextAt w a len cap t)
    (hfit : off + dLen ≤ cs.size) : (Builtin.copy_ #[dT, sT] ty #[.slice (some ⟨b, off, none⟩) dLen dCap, .slice a len cap]).run P w = .ok (.int .i64 (Nat.min len dLen : Nat)) (w.setCells b off ((t.take (Nat.min len dLen)).map (Value.int .u8))) := by
  rcases Nat.eq_zero_or_pos (Nat.min len dLen) with h0 | h0
  · rw [run_copy_none w dT sT ty elem _ a dLen dCap len cap hu hs h0, h0]
    simp [World.setCells, goInt]
  · have hle : Nat.min len dLen ≤ len := Nat.min_le_left _ _
    have hle2 : Nat.min len dLen ≤ dLen := Nat.min_le_right _ _
    obtain ⟨x, o, rfl, hx, hc⟩ := hT.at_ (by omega)
    have hl : ((t.take (Nat.min len dLen)).map (Value.int .u8)).length = Nat.min len dLen := by rw [List.length_map, List.length_take, hT.length]; omega
    have := run_copy_cells (P := P) w dT sT ty elem b off dLen dCap ⟨x, o, none⟩ len cap ((t.take (Nat.min len dLen)).map (Value.int .u8)) hu hs hl (fun j v hv => by
      have hj : j < Nat.min len dLen := by
        have := (List.getElem?_eq_some_iff.1 hv).1
        omega
      rw [Addr.add_mid, hc j (by omega)]
      rw [List.getElem?_map, List.getElem?_take_of_lt hj, List.getElem?_eq_getElem (by rw [hT.length]; omega)] at hv
      rw [List.getD_eq_getElem?_getD, List.getElem?_eq_getElem (by rw [hT.length]; omega)]
      exact hv) (fun j hj => by rw [hk.cell, Array.getElem?_eq_getElem (by omega)]; rfl) (fun j _ => hk.free _) (fun v hv => by
      obtain ⟨y, _, rfl⟩ := List.mem_map.1 hv
      rfl)
    rw [this, hl]
    rfl
/-- clear, of a part of a block of bytes -/
theorem run_clear_blk (w : World) (t e ty : TypeId) (ht : P.underlying t = some (.slice e)) (hv : ∀ w, (zeroValue e).run P w = .ok (.int .u8 0) w) {b : Nat} {cs : Array Value} {T : TypeId} (hk : Blk w b cs T) (off n c : Nat) (d : Option Addr) (hd : 0 < n → d = some ⟨b, off, none⟩) (hfit : off + n ≤ cs.size) :
    (Builtin.clear_ #[t] ty #[.slice d n c]).run P w = .ok (.tuple #[]) (w.setCells b off (List.replicate n (.int .u8 0))) := by
  rcases Nat.eq_zero_or_pos n with rfl | h0
  · cases d <;> simp [Builtin.clear_, run_underlying ht, World.setCells]
  · obtain rfl := hd h0
    exact Lib.run_clear_slice w t e ty (.int .u8 0) ht hv rfl rfl b off n c h0 (fun j hj => by rw [hk.cell, Array.getElem?_eq_getElem (by omega)]; rfl) (fun j _ => hk.free _)
end
/-- .. as operations of a walk -/
theorem wpList_copy_text {P : Program} {ops : Array Oper} {rest : List Oper} {op : Oper} {act : Act} {w : World} {Q : Exit → Act → World → Prop} (hgd : op.guard = none) (d s : Operand) (dT sT : TypeId)
    (ho : op.op = .call { callee := .builtin .copy, args := #[d, s], argTypes := #[dT, sT] }) (elem : TypeId) (hu : P.underlying dT = some (.slice elem)) (hs : (P.info? elem).map (·.size) = some 1)
    (b off dLen dCap : Nat) (hd : act.eval d = .slice (some ⟨b, off, none⟩) dLen dCap) (a : Option Addr) (len cap : Nat) (hse : act.eval s = .slice a len cap) (cs : Array Value) (T : TypeId) (hk : Blk w b cs T) (t : List Int) (hT : TextAt w a len cap t) (hfit : off + dLen ≤ cs.size) (n : Nat) (hn : n = Nat.min len dLen)
    (h : wpList P ops Q rest (act.put op.dst (.int .i64 (n : Nat))) (w.setCells b off ((t.take n).map (Value.int .u8)))) : wpList P ops Q (op :: rest) act w := by
  subst hn
  refine wpList_plain hgd fun K hK => ?_
  have hrun := run_copy_text (P := P) w dT sT op.type elem hu hs hk off dLen dCap hT hfit
  unfold Oper.wp execOp
  simp only [ho, resolve, invoke, builtin, Sem.run_bind, Sem.run_pure, Result.andThen_ok, List.map_toArray, List.map_cons, List.map_nil, hd, hse, hrun]
  exact hK _ _ h
theorem wpList_clear_blk {P : Program} {ops : Array Oper} {rest : List Oper} {op : Oper} {act : Act} {w : World} {Q : Exit → Act → World → Prop} (hgd : op.guard = none) (s : Operand) (t : TypeId)
    (ho : op.op = .call { callee := .builtin .clear, args := #[s], argTypes := #[t] }) (e : TypeId) (ht : P.underlying t = some (.slice e)) (hv : ∀ w, (zeroValue e).run P w = .ok (.int .u8 0) w)
    (b off n c : Nat) (d : Option Addr) (hse : act.eval s = .slice d n c) (hd : 0 < n → d = some ⟨b, off, none⟩) (cs : Array Value) (T : TypeId) (hk : Blk w b cs T) (hfit : off + n ≤ cs.size)
    (h : wpList P ops Q rest (act.put op.dst (.tuple #[])) (w.setCells b off (List.replicate n (.int .u8 0)))) : wpList P ops Q (op :: rest) act w := by
  refine wpList_plain hgd fun K hK => ?_
  have hrun := run_clear_blk (P := P) w t e op.type ht hv hk off n c d hd hfit
  unfold Oper.wp execOp
  simp only [ho, resolve, invoke, builtin, Sem.run_bind, Sem.run_pure, Result.andThen_ok, List.map_toArray, List.map_cons, List.map_nil, hse, hrun]
  exact hK _ _ h
/-- the cells of a hash -/
def hashCells (st : Sha.St) (R : List Int) (n : Nat) : List Value := stCells st ++ (R.map (Value.int .u8) ++ [.int .u64 n])
theorem hashCells_size (st : Sha.St) (R : List Int) (n : Nat) (hR : R.length = 64) : (hashCells st R n).toArray.size = 73 := by simp [hashCells, stCells, hR]
theorem hashCells_len (st : Sha.St) (R : List Int) (n : Nat) (hR : R.length = 64) : (hashCells st R n).toArray[72]? = some (.int .u64 n) := by
  simp [hashCells, stCells, hR]
theorem hashCells_set (st : Sha.St) (R : List Int) (n m : Nat) (hR : R.length = 64) : (hashCells st R n).toArray.setIfInBounds 72 (.int .u64 m) = (hashCells st R m).toArray := by
  simp [hashCells, stCells, hR]
theorem hashCells_rest (st : Sha.St) (R : List Int) (n j : Nat) (hR : R.length = 64) (hj : j < 64) : (hashCells st R n).toArray[8 + j]? = some (.int .u8 (R.getD j 0)) := by
  simp only [hashCells, stCells, List.getElem?_toArray]
  rw [List.getElem?_append_right (by simp)]
  simp only [List.length_cons, List.length_nil, show 8 + j - (0 + 1 + 1 + 1 + 1 + 1 + 1 + 1 + 1) = j by omega]
  rw [List.getElem?_append_left (by simp; omega), List.getElem?_map, List.getElem?_eq_getElem (by omega), List.getD_eq_getElem?_getD, List.getElem?_eq_getElem (by omega)]
  rfl
theorem Blk.hash_put {w : World} {ph : Nat} {T : TypeId} {st : Sha.St} {R : List Int} {n : Nat} (h : Blk w ph (hashCells st R n).toArray T) (hR : R.length = 64) (o : Nat) (cs : List Int) (ho : o + cs.length ≤ 64) :
    Blk (w.setCells ph (8 + o) (cs.map (Value.int .u8))) ph (hashCells st (splice R o cs) n).toArray T := by
  have := Blk.setCells (stCells st) (R.map (Value.int .u8)) [.int .u64 n] o (cs.map (Value.int .u8)) h (by simp; omega)
  have e : splice (R.map (Value.int .u8)) o (cs.map (Value.int .u8)) = (splice R o cs).map (Value.int .u8) := by simp [splice]
  rw [e] at this
  exact this
theorem Blk.hash_rest {w : World} {ph : Nat} {T : TypeId} {st : Sha.St} {R : List Int} {n : Nat} (h : Blk w ph (hashCells st R n).toArray T) (hR : R.length = 64) (hs : ∀ x ∈ R, 0 ≤ x ∧ x < 256) : TextAt w (some ⟨ph, 8, none⟩) 64 64 R :=
  TextAt.of_blk h hR (Nat.le_refl _) (by omega) hs fun j hj => hashCells_rest st R n j hR hj
theorem splice_small {R cs : List Int} {o : Nat} (h : ∀ x ∈ R, 0 ≤ x ∧ x < 256) (hc : ∀ x ∈ cs, 0 ≤ x ∧ x < 256) : ∀ x ∈ splice R o cs, 0 ≤ x ∧ x < 256 := by
  intro x hx
  unfold splice at hx
  rcases List.mem_append.1 hx with hx | hx
  · exact h x (List.mem_of_mem_take hx)
  · rcases List.mem_append.1 hx with hx | hx
    · exact hc x hx
    · exact h x (List.mem_of_mem_drop hx)
theorem run_append (s : Sha.St) (bs t : List Nat) : ∀ n, 64 * n ≤ bs.length → Sha.run s (bs ++ t) n = Sha.run s bs n
  | 0, _ => rfl
  | n + 1, h => by
    rw [Sha.run, Sha.run, run_append s bs t n (by omega)]
    congr 1
    rw [List.drop_append_of_le_length (by omega), List.take_append_of_le_length (by simp; omega)]
/-- A hash that was written these bytes. -/
def HashAt (w : World) (ph : Nat) (T : TypeId) (bs : List Int) : Prop :=
  (∀ x ∈ bs, 0 ≤ x ∧ x < 256) ∧ ∃ R : List Int, R.length = 64 ∧ (∀ x ∈ R, 0 ≤ x ∧ x < 256) ∧ R.take (bs.length % 64) = bs.drop (64 * (bs.length / 64)) ∧ Blk w ph (hashCells (Sha.run Sha.start (natB bs) (bs.length / 64)) R bs.length).toArray T
theorem size_byte8 : (Tryd.prog.info? 5).map (·.size) = some 1 := by kernel_rfl
theorem TextAt.but {w w' : World} {b : Nat} {a : Option Addr} {len cap : Nat} {t : List Int} (h : TextAt w a len cap t) (hb : But b w w') (hne : 0 < len → ∀ p : Addr, a = some p → p.block ≠ b) : TextAt w' a len cap t := by
  obtain ⟨h1, h2, h3, h4, h | ⟨x, o, s, rfl, hc⟩⟩ := h
  · exact ⟨h1, h2, h3, h4, .inl h⟩
  · refine ⟨h1, h2, h3, h4, .inr ⟨x, o, s, rfl, fun j hj => ?_⟩⟩
    obtain ⟨e1, e2, e3⟩ := hc j hj
    exact ⟨e1, Nat.lt_of_lt_of_le e2 hb.size, (hb.cell e2 (hne (by omega) _ rfl)).trans e3⟩
theorem TextAt.ne {w : World} {b : Nat} {a : Option Addr} {len cap : Nat} {t : List Int} (h : TextAt w a len cap t) (hb : w.heap.size ≤ b) : 0 < len → ∀ p : Addr, a = some p → p.block ≠ b := fun h0 p hp => by
  obtain ⟨x, o, rfl, hx, _⟩ := h.at_ h0
  cases hp
  exact fun e => by simp only at e; omega
theorem cutA_ne {a : Option Addr} {l cap b : Nat} (h : ∀ p : Addr, a = some p → p.block ≠ b) : ∀ p : Addr, cutA a l cap = some p → p.block ≠ b := by
  intro p hp
  unfold cutA at hp
  split at hp
  · exact h p hp
  · cases a with
    | none => simp at hp
    | some q =>
      cases hp
      have := h _ rfl
      unfold Addr.add
      split <;> exact this
theorem TextAt.from {w : World} {a : Option Addr} {len cap : Nat} {t : List Int} (h : TextAt w a len cap t) (l : Nat) (hl : l ≤ len) : TextAt w (cutA a l cap) (len - l) (cap - l) (t.drop l) := by
  have := h.cut l len hl (Nat.le_refl _)
  rwa [List.take_of_length_le (by simp [h.length])] at this
theorem TextAt.to {w : World} {a : Option Addr} {len cap : Nat} {t : List Int} (h : TextAt w a len cap t) (l : Nat) (hl : l ≤ len) : TextAt w a l cap (t.take l) := by
  have := h.cut 0 l (Nat.zero_le _) hl
  rwa [cutA_zero, Nat.sub_zero, Nat.sub_zero, List.drop_zero] at this
theorem natB_drop_take (bs t : List Int) (k j : Nat) (h : 64 * k = bs.length + j) : ((natB (bs ++ t)).drop (64 * k)).take 64 = natB ((t.drop j).take 64) := by
  unfold natB
  rw [h, List.map_append, ← List.drop_drop, List.drop_append_of_le_length (by simp), show (bs.map Int.toNat).drop bs.length = [] from by simp, List.nil_append, List.map_take, List.map_drop]
def sliceLen : Value → Nat
  | .slice _ n _ => n
  | _ => 0
/-- The loop's state: k blocks are taken in, j bytes of the text too. -/
def AddInv (ph : Nat) (T : TypeId) (bs t : List Int) (len : Nat) (w : World) (v : Value) (wr : World) : Prop :=
  ∃ k j a cap, 64 * k = bs.length + j ∧ j ≤ len ∧ v = .slice a (len - j) cap ∧ TextAt wr a (len - j) cap (t.drop j) ∧ (0 < len - j → ∀ p : Addr, a = some p → p.block ≠ ph) ∧
    (∃ R : List Int, R.length = 64 ∧ (∀ x ∈ R, 0 ≤ x ∧ x < 256) ∧ Blk wr ph (hashCells (Sha.run Sha.start (natB (bs ++ t)) k) R (bs.length + len)).toArray T) ∧ ShaTab wr ∧ But ph w wr
set_option maxHeartbeats 8000000 in
theorem add_any (ph : Nat) (T : TypeId) (bs : List Int) (a : Option Addr) (len cap : Nat) (t : List Int) (w : World) (hH : HashAt w ph T bs) (hT : TextAt w a len cap t) (hbnd : bs.length + len < 1152921504606846976) (hne : 0 < len → ∀ p : Addr, a = some p → p.block ≠ ph) (tab : ShaTab w) (hp1 : ph ≠ 1) (hp0 : ph ≠ 0) :
    Calls Tryd.prog 79 #[.pointer (some ⟨ph, 0, none⟩), .slice a len cap] w fun e w' => e = .returned (.tuple #[]) ∧ But ph w w' ∧ HashAt w' ph T (bs ++ t) := by
  obtain ⟨hbs, R, hR, hRs, hRt, hk⟩ := hH
  have qS : w.cell? ⟨ph, 72, none⟩ = some (.int .u64 (bs.length : Nat)) := (hk.cell 72).trans (hashCells_len _ _ _ hR)
  have f1 := hk.free
  have hlt := hk.lt
  have hmx := hT.max
  have hle := hT.le
  have Hk := hid hk
  have HT := hid hT
  have Htab := hid tab
  have Hne := hid hne
  have HRt := hid hRt
  obtain ⟨m, hm⟩ : ∃ m : Nat, (bs.length : Int) % 64 = m := ⟨bs.length % 64, by omega⟩
  have hm64 : m < 64 := by omega
  have HM := hid hm
  clear hk hT tab hne hRt
  by_cases h0 : m = 0
  · subst h0
    have hk2 := (Hk.out.set 72 (.int .u64 ((bs.length + len : Nat) : Int)))
    rw [hashCells_set _ _ _ _ hR] at hk2
    have but2 := (But.of (b := ph) (Below.refl w.heap.size w)).set (p := ⟨ph, 72, none⟩) (.inl rfl) (.int .u64 ((bs.length + len : Nat) : Int))
    have hc2 : (((bs.length + len : Nat) : Int)) = (bs.length : Int) + len := by omega
    rw [hc2] at hk2 but2
    have Hk2 := hid hk2
    have Hbut2 := hid but2
    clear hk2 but2 hc2
    have hm0 : (bs.length : Int) % 64 = 0 := hm
    clear hm
    have Hinv : Hid (AddInv ph T bs t len w (.slice a len cap) (w.setCell ⟨ph, 72, none⟩ (.int .u64 ((bs.length : Int) + len)))) := hid (by
      have tabb := Htab.out.but Hbut2.out hp1 hp0
      have h64 : 64 * (bs.length / 64) = bs.length := by omega
      refine ⟨bs.length / 64, 0, a, cap, h64, Nat.zero_le _, rfl, HT.out.but Hbut2.out Hne.out, Hne.out, ⟨R, hR, hRs, ?_⟩, tabb, Hbut2.out⟩
      have e : natB (bs ++ t) = natB bs ++ natB t := by simp [natB]
      rw [e, run_append _ _ _ _ (by simp [natB]; omega)]
      exact Hk2.out)
    clear Hk2 Hbut2
    go_enter Tryd.func79, Tryd.ntmps79
    go_wp2_with fail
    try simp only [hm0]
    go_loopw [1] (AddInv ph T bs t len w) (fun v _ => sliceLen v)
    case atStart => exact Hinv.out
    case round =>
      obtain ⟨k, j, a1, cap1, hkj, hj, rfl, hT1, hne1, ⟨R1, hR1, hRs1, hk1⟩, tab1, but1⟩ := hrel
      have hle1 := hT1.le
      have hmx1 := hT1.max
      have HT1 := hid hT1
      have Htab1 := hid tab1
      have Hne1 := hid hne1
      have Hk1 := hid hk1
      have Hbut1 := hid but1
      clear hT1 tab1 hne1 hk1 but1
      by_cases hge : 64 ≤ len - j
      · have hs1 : ∀ W : World, (Instr.slice 29 (.slice a1 (len - j) cap1) none (some (.int .i64 64)) none).run Tryd.prog W = .ok (.slice a1 64 cap1) W := fun W => run_cut_h Tryd.underlying29 size_byte8 a1 (len - j) cap1 64 W (by omega) (by omega)
        have hs2 : ∀ W : World, (Instr.slice 29 (.slice a1 (len - j) cap1) (some (.int .i64 64)) none none).run Tryd.prog W = .ok (.slice (cutA a1 64 cap1) (len - j - 64) (cap1 - 64)) W := fun W => run_cut_l Tryd.underlying29 size_byte8 a1 (len - j) cap1 64 W (by omega) (by omega)
        go_wp2_with fail
        refine wp_region_flow 5 [0, 1, 2, 3, 4] [] [] (by kernel_rfl) (by kernel_rfl) ?_
        apply Exists.intro
        refine ⟨fun w0 hb0 hF0 => ?_, ?_⟩
        · simp only [pick, List.getElem?_toArray, List.getElem?_cons_succ, List.getElem?_cons_zero, Option.toList_some, List.cons_append, List.nil_append]
          repeat (go_big_quiet_step (fail))
          exact wpQuiet_nil rfl
        refine AlChk.nil ?_
        refine Walk.fin fun w3 h3 _ _ => ?_
        simp only [List.drop_succ_cons, List.drop_zero]
        go_wp2_with fail
        refine (process_any ph T _ (R1.map (Value.int .u8) ++ [.int .u64 ((bs.length + len : Nat) : Int)]) a1 cap1 ((t.drop j).take 64) w3 (Ok.run Ok.start _ _) (Hk1.out.below h3) ((HT1.out.to 64 hge).below h3) (Htab1.out.below h3) hp1).mono ?_
        rintro e w4 ⟨rfl, b4, k4⟩
        rw [← natB_drop_take bs t k j hkj] at k4
        have k4' : Blk w4 ph (hashCells (Sha.run Sha.start (natB (bs ++ t)) (k + 1)) R1 (bs.length + len)).toArray T := k4
        have Hinv2 : Hid (AddInv ph T bs t len w (.slice (cutA a1 64 cap1) (len - j - 64) (cap1 - 64)) w4) := hid (by
          refine ⟨k + 1, j + 64, cutA a1 64 cap1, cap1 - 64, by omega, by omega, ?_, ?_, fun _ => cutA_ne (Hne1.out (by omega)), ⟨R1, hR1, hRs1, k4'⟩, (Htab1.out.below h3).but b4 hp1 hp0, (Hbut1.out.ext h3).trans b4⟩
          · rw [Nat.sub_sub]
          · have := ((HT1.out.below h3).but b4 Hne1.out).from 64 hge
            rwa [Nat.sub_sub, List.drop_drop] at this)
        clear k4 k4' b4 h3
        go_wp2_with fail
        exact ⟨Hinv2.out, by simp only [sliceLen]; omega⟩
      · have Hdone : Hid (HashAt (wr.setCells ph 8 (((t.drop j).take (len - j)).map (Value.int .u8))) ph T (bs ++ t) ∧ But ph w (wr.setCells ph 8 (((t.drop j).take (len - j)).map (Value.int .u8)))) := hid (by
          have hl : (t.drop j).length = len - j := HT1.out.length
          have htl : t.length = len := HT.out.length
          have et : (t.drop j).take (len - j) = t.drop j := List.take_of_length_le (by omega)
          rw [et]
          refine ⟨⟨?_, splice R1 0 (t.drop j), ?_, splice_small hRs1 HT1.out.small, ?_, ?_⟩, But.setCells _ _ _ Hbut1.out⟩
          · intro x hx
            rcases List.mem_append.1 hx with h | h
            · exact hbs x h
            · exact HT.out.small x h
          · rw [length_splice _ _ _ (by omega)]; exact hR1
          · rw [List.length_append, show (bs.length + t.length) % 64 = len - j by omega, show 64 * ((bs.length + t.length) / 64) = bs.length + j by omega, ← List.drop_drop, List.drop_left]
            unfold splice
            rw [List.take_zero, List.nil_append, ← hl, List.take_left]
          · rw [List.length_append, show (bs.length + t.length) / 64 = k by omega, htl]
            exact Hk1.out.hash_put hR1 0 (t.drop j) (by omega))
        have hsz := hashCells_size (Sha.run Sha.start (natB (bs ++ t)) k) R1 (bs.length + len) hR1
        have Hn0 : Hid (len - j = Nat.min (len - j) 64) := hid (show len - j = min (len - j) 64 by omega)
        go_wp2_with (with_reducible refine wpList_copy_text rfl _ _ _ _ rfl 5 Tryd.underlying29 size_byte8 ph 8 64 64 rfl a1 (len - j) cap1 rfl _ T Hk1.out _ HT1.out (by omega) (len - j) Hn0.out ?_)
        go_returns
        have hd := Hdone.out
        simp only [List.map_take, List.map_drop] at hd
        exact ⟨rfl, hd.2, hd.1⟩
  · have hk2 := (Hk.out.set 72 (.int .u64 ((bs.length + len : Nat) : Int)))
    rw [hashCells_set _ _ _ _ hR] at hk2
    have but2 := (But.of (b := ph) (Below.refl w.heap.size w)).set (p := ⟨ph, 72, none⟩) (.inl rfl) (.int .u64 ((bs.length + len : Nat) : Int))
    have hc2 : (((bs.length + len : Nat) : Int)) = (bs.length : Int) + len := by omega
    rw [hc2] at hk2 but2
    have Hk2 := hid hk2
    have Hbut2 := hid but2
    have HT2 := hid (HT.out.but Hbut2.out Hne.out)
    have hsz := hashCells_size (Sha.run Sha.start (natB bs) (bs.length / 64)) R (bs.length + len) hR
    have hbl : Hid (bs.length = 64 * (bs.length / 64) + m) := hid (by omega)
    have htl : t.length = len := HT.out.length
    have hsl : ∀ W : World, (Instr.sliceAt 113 (.pointer (some ⟨ph, 8, none⟩)) (some (.int .i64 (m : Int))) none none).run Tryd.prog W = .ok (.slice (some ⟨ph, 8 + m, none⟩) (64 - m) (64 - m)) W := fun W => by
      have hal : Tryd.prog.arrayLen 113 = 64 := by kernel_rfl
      rw [run_sliceAt_array_l W 113 ⟨ph, 8, none⟩ (by kernel_rfl) .i64 (m : Int) (by omega) (by rw [hal]; omega), hal]
      have hsi : (sizeOf (Tryd.prog.elem 113)).run Tryd.prog W = .ok 1 W := by kernel_rfl
      rw [hsi, Result.andThen_ok]
      unfold slicedAt
      rw [if_neg (by omega), Int.toNat_natCast, Nat.mul_one, Addr.add_mid]
    have hsa : ∀ W : World, (Instr.sliceAt 113 (.pointer (some ⟨ph, 8, none⟩)) none none none).run Tryd.prog W = .ok (.slice (some ⟨ph, 8, none⟩) 64 64) W := fun W => by
      have hal : Tryd.prog.arrayLen 113 = 64 := by kernel_rfl
      rw [run_sliceAt_array_all W 113 ⟨ph, 8, none⟩ (by kernel_rfl), hal]
      have hsi : (sizeOf (Tryd.prog.elem 113)).run Tryd.prog W = .ok 1 W := by kernel_rfl
      rw [hsi, Result.andThen_ok]
      rfl
    have hmpos : 0 < m := by omega
    clear hk2 but2 hc2
    by_cases hfull : len < 64 - m
    · have Hn0 : Hid (len = Nat.min len (64 - m)) := hid (show len = min len (64 - m) by omega)
      have hs3 : ∀ W : World, (Instr.slice 29 (.slice a len cap) (some (.int .i64 (len : Int))) none none).run Tryd.prog W = .ok (.slice (cutA a len cap) (len - len) (cap - len)) W := fun W => run_cut_l Tryd.underlying29 size_byte8 a len cap (len : Int) W (by omega) (by omega)
      have Hdone : Hid (HashAt ((w.setCell ⟨ph, 72, none⟩ (.int .u64 ((bs.length : Int) + len))).setCells ph (8 + m) ((t.take len).map (Value.int .u8))) ph T (bs ++ t) ∧ But ph w ((w.setCell ⟨ph, 72, none⟩ (.int .u64 ((bs.length : Int) + len))).setCells ph (8 + m) ((t.take len).map (Value.int .u8)))) := hid (by
        rw [List.take_of_length_le (show t.length ≤ len by omega)]
        refine ⟨⟨?_, splice R m t, ?_, splice_small hRs HT.out.small, ?_, ?_⟩, But.setCells _ _ _ Hbut2.out⟩
        · intro x hx
          rcases List.mem_append.1 hx with h | h
          · exact hbs x h
          · exact HT.out.small x h
        · rw [length_splice _ _ _ (by omega)]; exact hR
        · have hb := hbl.out
          rw [List.length_append, show (bs.length + t.length) % 64 = m + len by omega, show (bs.length + t.length) / 64 = bs.length / 64 by omega, List.drop_append_of_le_length (by omega), ← HRt.out, show bs.length % 64 = m by omega]
          unfold splice
          rw [List.take_append, List.take_of_length_le (show (R.take m).length ≤ m + len by rw [List.length_take]; omega), List.length_take, Nat.min_eq_left (show m ≤ R.length by omega), show m + len - m = t.length by omega, List.take_left]
        · have hb := hbl.out
          rw [List.length_append, show (bs.length + t.length) / 64 = bs.length / 64 by omega, htl]
          have e : natB (bs ++ t) = natB bs ++ natB t := by simp [natB]
          rw [e, run_append _ _ _ _ (by simp [natB]; omega)]
          exact Hk2.out.hash_put hR m t (by omega))
      go_enter Tryd.func79, Tryd.ntmps79
      go_wp2_with (with_reducible refine wpList_copy_text rfl _ _ _ _ rfl 5 Tryd.underlying29 size_byte8 ph (8 + m) (64 - m) (64 - m) rfl a len cap rfl _ T Hk2.out _ HT2.out (by omega) len Hn0.out ?_)
      go_returns
      have hd := Hdone.out
      simp only [List.map_take] at hd
      exact ⟨rfl, hd.2, hd.1⟩
    · have Hn0 : Hid (64 - m = Nat.min len (64 - m)) := hid (show 64 - m = min len (64 - m) by omega)
      have hsub : ((64 - m : Nat) : Int) = 64 - (m : Int) := by omega
      have hsum : (m : Int) + (64 - (m : Int)) = 64 := by omega
      have hs3 : ∀ W : World, (Instr.slice 29 (.slice a len cap) (some (.int .i64 (64 - (m : Int)))) none none).run Tryd.prog W = .ok (.slice (cutA a (64 - m) cap) (len - (64 - m)) (cap - (64 - m))) W := fun W => by
        have := run_cut_l Tryd.underlying29 size_byte8 a len cap (64 - (m : Int)) W (by omega) (by omega)
        rwa [show ((64 : Int) - (m : Int)).toNat = 64 - m by omega] at this
      obtain ⟨R2, hR2d⟩ : ∃ R2, R2 = splice R m (t.take (64 - m)) := ⟨_, rfl⟩
      have hR2 : R2.length = 64 := by rw [hR2d, length_splice _ _ _ (by rw [List.length_take]; omega)]; exact hR
      have hR2s : ∀ x ∈ R2, 0 ≤ x ∧ x < 256 := by rw [hR2d]; exact splice_small hRs fun x hx => HT.out.small x (List.mem_of_mem_take hx)
      have Hk3 := hid (Hk2.out.hash_put hR m (t.take (64 - m)) (by rw [List.length_take]; omega))
      rw [← hR2d] at Hk3
      have Hbut3 := hid (But.setCells ((t.take (64 - m)).map (Value.int .u8)) (8 + m) _ Hbut2.out)
      simp only [List.map_take] at Hk3 Hbut3
      have HR2 : Hid (((natB (bs ++ t)).drop (64 * (bs.length / 64))).take 64 = natB R2) := hid (by
        have hb := hbl.out
        unfold natB
        rw [← List.map_drop, ← List.map_take, hR2d, List.drop_append_of_le_length (by omega), ← HRt.out, show bs.length % 64 = m by omega]
        congr 1
        unfold splice
        rw [List.take_append, List.take_of_length_le (show (R.take m).length ≤ 64 by rw [List.length_take]; omega), List.length_take, Nat.min_eq_left (show m ≤ R.length by omega), List.length_take, Nat.min_eq_left (show 64 - m ≤ t.length by omega), show m + (64 - m) = R.length by omega, List.drop_length, List.append_nil])
      clear hR2d
      go_enter Tryd.func79, Tryd.ntmps79
      go_wp2_with (with_reducible refine wpList_copy_text rfl _ _ _ _ rfl 5 Tryd.underlying29 size_byte8 ph (8 + m) (64 - m) (64 - m) rfl a len cap rfl _ T Hk2.out _ HT2.out (by omega) (64 - m) Hn0.out ?_)
      have Hbut2' := Hbut2
      clear Hk2 Hbut2
      refine wp_region_flow 7 [0, 1, 2, 3, 4, 5, 6] [] [] (by kernel_rfl) (by kernel_rfl) ?_
      apply Exists.intro
      refine ⟨fun w0 hb0 hF0 => ?_, ?_⟩
      · simp only [pick, List.getElem?_toArray, List.getElem?_cons_succ, List.getElem?_cons_zero, Option.toList_some, List.cons_append, List.nil_append]
        repeat (go_big_quiet_step (fail))
        exact wpQuiet_nil rfl
      refine AlChk.nil ?_
      refine Walk.fin fun w3 h3 _ _ => ?_
      simp only [List.drop_succ_cons, List.drop_zero]
      go_wp2_with fail
      have hk4 := Hk3.out.below h3
      refine (process_any ph T _ (R2.map (Value.int .u8) ++ [.int .u64 ((bs.length + len : Nat) : Int)]) (some ⟨ph, 8, none⟩) 64 R2 w3 (Ok.run Ok.start _ _) hk4 (hk4.hash_rest hR2 hR2s) ((Htab.out.but Hbut3.out hp1 hp0).below h3) hp1).mono ?_
      rintro e w4 ⟨rfl, b4, k4⟩
      have Hinv : Hid (AddInv ph T bs t len w (.slice (cutA a (64 - m) cap) (len - (64 - m)) (cap - (64 - m))) w4) := hid (by
        have hb := hbl.out
        refine ⟨bs.length / 64 + 1, 64 - m, _, _, by omega, by omega, rfl, ?_, fun _ => cutA_ne (Hne.out (by omega)), ⟨R2, hR2, hR2s, ?_⟩, ((Htab.out.but Hbut3.out hp1 hp0).below h3).but b4 hp1 hp0, (Hbut3.out.ext h3).trans b4⟩
        · exact (((HT.out.but Hbut3.out Hne.out).below h3).but b4 Hne.out).from (64 - m) (by omega)
        · rw [Sha.run, HR2.out, show natB (bs ++ t) = natB bs ++ natB t by simp [natB], run_append _ _ _ _ (by simp [natB]; omega)]
          exact k4)
      clear k4 hk4 b4 h3 Hk3 Hbut3 hs3
      go_wp2_with fail
      try simp only [HM.out]
      go_loopw [1] (AddInv ph T bs t len w) (fun v _ => sliceLen v)
      case atStart => exact Hinv.out
      case round =>
        obtain ⟨k, j, a1, cap1, hkj, hj, rfl, hT1, hne1, ⟨R1, hR1, hRs1, hk1⟩, tab1, but1⟩ := hrel
        have hle1 := hT1.le
        have hmx1 := hT1.max
        have HT1 := hid hT1
        have Htab1 := hid tab1
        have Hne1 := hid hne1
        have Hk1 := hid hk1
        have Hbut1 := hid but1
        clear hT1 tab1 hne1 hk1 but1
        by_cases hge : 64 ≤ len - j
        · have hs1 : ∀ W : World, (Instr.slice 29 (.slice a1 (len - j) cap1) none (some (.int .i64 64)) none).run Tryd.prog W = .ok (.slice a1 64 cap1) W := fun W => run_cut_h Tryd.underlying29 size_byte8 a1 (len - j) cap1 64 W (by omega) (by omega)
          have hs2 : ∀ W : World, (Instr.slice 29 (.slice a1 (len - j) cap1) (some (.int .i64 64)) none none).run Tryd.prog W = .ok (.slice (cutA a1 64 cap1) (len - j - 64) (cap1 - 64)) W := fun W => run_cut_l Tryd.underlying29 size_byte8 a1 (len - j) cap1 64 W (by omega) (by omega)
          go_wp2_with fail
          refine wp_region_flow 5 [0, 1, 2, 3, 4] [] [] (by kernel_rfl) (by kernel_rfl) ?_
          apply Exists.intro
          refine ⟨fun w0 hb0 hF0 => ?_, ?_⟩
          · simp only [pick, List.getElem?_toArray, List.getElem?_cons_succ, List.getElem?_cons_zero, Option.toList_some, List.cons_append, List.nil_append]
            repeat (go_big_quiet_step (fail))
            exact wpQuiet_nil rfl
          refine AlChk.nil ?_
          refine Walk.fin fun w3 h3 _ _ => ?_
          simp only [List.drop_succ_cons, List.drop_zero]
          go_wp2_with fail
          refine (process_any ph T _ (R1.map (Value.int .u8) ++ [.int .u64 ((bs.length + len : Nat) : Int)]) a1 cap1 ((t.drop j).take 64) w3 (Ok.run Ok.start _ _) (Hk1.out.below h3) ((HT1.out.to 64 hge).below h3) (Htab1.out.below h3) hp1).mono ?_
          rintro e w4 ⟨rfl, b4, k4⟩
          rw [← natB_drop_take bs t k j hkj] at k4
          have k4' : Blk w4 ph (hashCells (Sha.run Sha.start (natB (bs ++ t)) (k + 1)) R1 (bs.length + len)).toArray T := k4
          have Hinv2 : Hid (AddInv ph T bs t len w (.slice (cutA a1 64 cap1) (len - j - 64) (cap1 - 64)) w4) := hid (by
            refine ⟨k + 1, j + 64, cutA a1 64 cap1, cap1 - 64, by omega, by omega, ?_, ?_, fun _ => cutA_ne (Hne1.out (by omega)), ⟨R1, hR1, hRs1, k4'⟩, (Htab1.out.below h3).but b4 hp1 hp0, (Hbut1.out.ext h3).trans b4⟩
            · rw [Nat.sub_sub]
            · have := ((HT1.out.below h3).but b4 Hne1.out).from 64 hge
              rwa [Nat.sub_sub, List.drop_drop] at this)
          clear k4 k4' b4 h3
          go_wp2_with fail
          exact ⟨Hinv2.out, by simp only [sliceLen]; omega⟩
        · have Hdone : Hid (HashAt (wr.setCells ph 8 (((t.drop j).take (len - j)).map (Value.int .u8))) ph T (bs ++ t) ∧ But ph w (wr.setCells ph 8 (((t.drop j).take (len - j)).map (Value.int .u8)))) := hid (by
            have hl : (t.drop j).length = len - j := HT1.out.length
            have htl : t.length = len := HT.out.length
            have et : (t.drop j).take (len - j) = t.drop j := List.take_of_length_le (by omega)
            rw [et]
            refine ⟨⟨?_, splice R1 0 (t.drop j), ?_, splice_small hRs1 HT1.out.small, ?_, ?_⟩, But.setCells _ _ _ Hbut1.out⟩
            · intro x hx
              rcases List.mem_append.1 hx with h | h
              · exact hbs x h
              · exact HT.out.small x h
            · rw [length_splice _ _ _ (by omega)]; exact hR1
            · rw [List.length_append, show (bs.length + t.length) % 64 = len - j by omega, show 64 * ((bs.length + t.length) / 64) = bs.length + j by omega, ← List.drop_drop, List.drop_left]
              unfold splice
              rw [List.take_zero, List.nil_append, ← hl, List.take_left]
            · rw [List.length_append, show (bs.length + t.length) / 64 = k by omega, htl]
              exact Hk1.out.hash_put hR1 0 (t.drop j) (by omega))
          have hsz := hashCells_size (Sha.run Sha.start (natB (bs ++ t)) k) R1 (bs.length + len) hR1
          have Hn0 : Hid (len - j = Nat.min (len - j) 64) := hid (show len - j = min (len - j) 64 by omega)
          go_wp2_with (with_reducible refine wpList_copy_text rfl _ _ _ _ rfl 5 Tryd.underlying29 size_byte8 ph 8 64 64 rfl a1 (len - j) cap1 rfl _ T Hk1.out _ HT1.out (by omega) (len - j) Hn0.out ?_)
          go_returns
          have hd := Hdone.out
          simp only [List.map_take, List.map_drop] at hd
          exact ⟨rfl, hd.2, hd.1⟩
end Go.Proofs.YtkakoiaahgchmaaDoor
namespace Go.Proofs.YtkakoiaahgchmaaDoor
set_option maxRecDepth 100000
open Go.RowKit
theorem nbe_succ : ∀ (k n : Nat), Sha.nbe (k + 1) n = (n / 256 ^ k % 256) :: Sha.nbe k n
  | 0, n => by simp [Sha.nbe]
  | k + 1, n => by
    rw [Sha.nbe, nbe_succ k (n / 256), Nat.div_div_eq_div_mul, show 256 * 256 ^ k = 256 ^ (k + 1) by rw [Nat.pow_succ, Nat.mul_comm]]
    rfl
theorem nbe_length : ∀ (k n : Nat), (Sha.nbe k n).length = k
  | 0, _ => rfl
  | k + 1, n => by rw [nbe_succ, List.length_cons, nbe_length k n]
theorem nbe_lt : ∀ (k n : Nat), ∀ x ∈ Sha.nbe k n, x < 256
  | 0, _, x, hx => by simp [Sha.nbe] at hx
  | k + 1, n, x, hx => by
    rw [nbe_succ, List.mem_cons] at hx
    rcases hx with rfl | hx
    · exact Nat.mod_lt _ (by decide)
    · exact nbe_lt k n x hx
def toZ (l : List Nat) : List Int := l.map (fun n : Nat => (n : Int))
theorem natB_toZ : ∀ l : List Nat, natB (toZ l) = l
  | [] => rfl
  | n :: l => by
    have := natB_toZ l
    unfold natB toZ at *
    rw [List.map_cons, List.map_cons, this]
    rfl
theorem toZ_small {l : List Nat} (h : ∀ x ∈ l, x < 256) : ∀ x ∈ toZ l, 0 ≤ x ∧ x < 256 := by
  intro x hx
  obtain ⟨y, hy, rfl⟩ := List.mem_map.1 hx
  have := h y hy
  omega
theorem sum_short (bs : List Nat) (k m : Nat) (hl : bs.length = 64 * k + m) (hm : m ≤ 55) :
    Sha.sum bs = Sha.out (Sha.compress (Sha.run Sha.start bs k) (bs.drop (64 * k) ++ 128 :: (List.replicate (55 - m) 0 ++ Sha.nbe 8 (8 * bs.length)))) := by
  have hz : Sha.zerosFor bs.length = 55 - m := by unfold Sha.zerosFor; omega
  have hp : Sha.pad bs = bs ++ 128 :: (List.replicate (55 - m) 0 ++ Sha.nbe 8 (8 * bs.length)) := by rw [Sha.pad, hz]
  have hlen : (Sha.pad bs).length / 64 = k + 1 := by
    rw [hp]
    simp only [List.length_append, List.length_cons, List.length_replicate, nbe_length]
    omega
  unfold Sha.sum
  rw [hlen, Sha.run, hp, run_append _ _ _ _ (by omega), List.drop_append_of_le_length (by omega), List.take_of_length_le]
  simp only [List.length_append, List.length_cons, List.length_replicate, nbe_length, List.length_drop]
  omega
theorem sum_long (bs : List Nat) (k m : Nat) (hl : bs.length = 64 * k + m) (hm : 55 < m) (hm2 : m < 64) :
    Sha.sum bs = Sha.out (Sha.compress (Sha.compress (Sha.run Sha.start bs k) (bs.drop (64 * k) ++ 128 :: List.replicate (63 - m) 0)) (List.replicate 56 0 ++ Sha.nbe 8 (8 * bs.length))) := by
  have hz : Sha.zerosFor bs.length = (63 - m) + 56 := by unfold Sha.zerosFor; omega
  have hp : Sha.pad bs = (bs ++ 128 :: List.replicate (63 - m) 0) ++ (List.replicate 56 0 ++ Sha.nbe 8 (8 * bs.length)) := by
    rw [Sha.pad, hz, ← List.replicate_append_replicate]
    simp only [List.append_assoc, List.cons_append]
  have hlen : (Sha.pad bs).length / 64 = k + 2 := by
    rw [hp]
    simp only [List.length_append, List.length_cons, List.length_replicate, nbe_length]
    omega
  have hl2 : (bs ++ 128 :: List.replicate (63 - m) 0).length = 64 * (k + 1) := by
    simp only [List.length_append, List.length_cons, List.length_replicate]
    omega
  unfold Sha.sum
  rw [hlen, Sha.run, hp, run_append _ _ _ _ (by omega), ← hl2, List.drop_left, List.take_of_length_le (by simp [nbe_length])]
  congr 2
  rw [Sha.run, run_append _ _ _ _ (by omega), List.drop_append_of_le_length (by omega), List.take_of_length_le]
  simp only [List.length_append, List.length_cons, List.length_replicate, List.length_drop]
  omega
/-- the sum of bytes -/
@[irreducible] def sumZ (bs : List Int) : List Int := toZ (Sha.sum (natB bs))
theorem out_length (s : Sha.St) : (Sha.out s).length = 32 := by simp [Sha.out, nbe_length]
theorem out_lt (s : Sha.St) : ∀ x ∈ Sha.out s, x < 256 := by
  intro x hx
  simp only [Sha.out, List.mem_append] at hx
  rcases hx with ((((((h | h) | h) | h) | h) | h) | h) | h <;> exact nbe_lt _ _ x h
theorem sumZ_length (bs : List Int) : (sumZ bs).length = 32 := by simp [sumZ, toZ, Sha.sum, out_length]
theorem sumZ_small (bs : List Int) : ∀ x ∈ sumZ bs, 0 ≤ x ∧ x < 256 := by unfold sumZ; exact toZ_small (out_lt _)
/-- the words of a state -/
def words (s : Sha.St) : List Nat := [s.a, s.b, s.c, s.d, s.e, s.f, s.g, s.h]
theorem stCells_words (s : Sha.St) : stCells s = (words s).map fun n : Nat => Value.int .u32 n := rfl
theorem out_words (s : Sha.St) : Sha.out s = (words s).flatMap (Sha.nbe 4) := by
  simp [Sha.out, words]
/-- bytes, then 0 -/
def byteCells (n : Nat) (bs : List Int) : Array Value := (bs.map (Value.int .u8) ++ List.replicate (n - bs.length) (Value.int .u8 0)).toArray
theorem byteCells_set (n : Nat) (bs : List Int) (x : Int) (h : bs.length < n) : (byteCells n bs).setIfInBounds bs.length (.int .u8 x) = byteCells n (bs ++ [x]) := by
  unfold byteCells
  rw [List.setIfInBounds_toArray, List.set_append_right _ _ (by simp)]
  simp only [List.length_map, Nat.sub_self, List.map_append, List.map_cons, List.map_nil, List.length_append, List.length_cons, List.length_nil, List.append_assoc, List.singleton_append]
  congr 2
  obtain ⟨m, hm⟩ : ∃ m, n - bs.length = m + 1 := ⟨n - bs.length - 1, by omega⟩
  rw [hm, show n - (bs.length + (0 + 1)) = m by omega, List.replicate_succ, List.set_cons_zero]
theorem byteCells_size (n : Nat) (bs : List Int) (h : bs.length ≤ n) : (byteCells n bs).size = n := by simp [byteCells]; omega
theorem byteCells_full (n : Nat) (bs : List Int) (h : bs.length = n) : byteCells n bs = (bs.map (Value.int .u8)).toArray := by simp [byteCells, h]
end Go.Proofs.YtkakoiaahgchmaaDoor
namespace Go.Proofs.YtkakoiaahgchmaaDoor
set_option maxRecDepth 100000
open Go.ChangeShapes Go.WideShapes Go.ChangeAt Go.RowKit
end Go.Proofs.YtkakoiaahgchmaaDoor
namespace Go.Proofs.YtkakoiaahgchmaaDoor
set_option maxRecDepth 100000
open Go.ChangeShapes Go.WideShapes Go.ChangeAt Go.RowKit
theorem wpList_clear_hash {P : Program} {ops : Array Oper} {rest : List Oper} {op : Oper} {act : Act} {w : World} {Q : Exit → Act → World → Prop} (hgd : op.guard = none) (s : Operand) (t : TypeId)
    (ho : op.op = .call { callee := .builtin .clear, args := #[s], argTypes := #[t] }) (e : TypeId) (ht : P.underlying t = some (.slice e)) (hv : ∀ w, (zeroValue e).run P w = .ok (.int .u8 0) w)
    (ph o n c : Nat) (d : Option Addr) (hse : act.eval s = .slice d n c) (hd : 0 < n → d = some ⟨ph, 8 + o, none⟩) (st : Sha.St) (R : List Int) (N : Nat) (T : TypeId) (hk : Blk w ph (hashCells st R N).toArray T) (hR : R.length = 64) (hfit : o + n ≤ 64)
    (h : ∀ w', Hid (But ph w w') → Hid (Blk w' ph (hashCells st (splice R o (List.replicate n 0)) N).toArray T) → wpList P ops Q rest (act.put op.dst (.tuple #[])) w') : wpList P ops Q (op :: rest) act w := by
  have hs := hashCells_size st R N hR
  refine wpList_clear_blk hgd s t ho e ht hv ph (8 + o) n c d hse hd _ T hk (by omega) (h _ (But.setCells _ _ _ (But.of (Below.refl _ _))) ?_)
  have := hk.hash_put hR o (List.replicate n 0) (by simpa using hfit)
  rwa [List.map_replicate] at this
theorem splice_one (A B : List Int) (x y : Int) : splice (A ++ x :: B) A.length [y] = A ++ y :: B := by
  unfold splice
  rw [List.take_left, List.length_singleton, List.singleton_append, ← List.drop_drop, List.drop_left]
  rfl
theorem put_byte (R : List Int) (hR : R.length = 64) (N j : Nat) (hj : j < 8) (v : Int) (hv : v = ((N / 256 ^ j % 256 : Nat) : Int)) : splice (R.take (64 - j) ++ toZ (Sha.nbe j N)) (63 - j) [v] = R.take (63 - j) ++ toZ (Sha.nbe (j + 1) N) := by
  have h1 : R.take (64 - j) = R.take (63 - j) ++ [R.getD (63 - j) 0] := by
    rw [show 64 - j = 63 - j + 1 by omega, List.take_succ_eq_append_getElem (by omega), List.getD_eq_getElem?_getD, List.getElem?_eq_getElem (by omega)]
    rfl
  have h2 : (R.take (63 - j)).length = 63 - j := by rw [List.length_take]; omega
  have := splice_one (R.take (63 - j)) (toZ (Sha.nbe j N)) (R.getD (63 - j) 0) v
  rw [h2] at this
  rw [h1, List.append_assoc, List.singleton_append, this, nbe_succ, hv]
  rfl
theorem size_digest : (Tryd.prog.info? 23).map (·.size) = some 32 := by kernel_rfl
theorem flat_len : ∀ l : List Nat, (l.flatMap (Sha.nbe 4)).length = 4 * l.length
  | [] => rfl
  | a :: l => by rw [List.flatMap_cons, List.length_append, flat_len l, nbe_length, List.length_cons]; omega
theorem words_lt {s : Sha.St} (h : Ok s) (i : Nat) : (words s).getD i 0 < 4294967296 := by
  obtain ⟨a, b, c, d, e, f, g, hh⟩ := h
  unfold words
  match i with
  | 0 => exact a
  | 1 => exact b
  | 2 => exact c
  | 3 => exact d
  | 4 => exact e
  | 5 => exact f
  | 6 => exact g
  | 7 => exact hh
  | n + 8 => simp
theorem byteCells_zero (n : Nat) (bs : List Int) (j : Nat) (h0 : bs.length ≤ j) (h : j < n) : (byteCells n bs)[j]? = some (.int .u8 0) := by
  unfold byteCells
  rw [List.getElem?_toArray, List.getElem?_append_right (by simpa using h0), List.getElem?_replicate, if_pos (by simp; omega)]
theorem put_four {w : World} {b i : Nat} {T : TypeId} {L : List Int} (h : Blk w b (byteCells 32 L) T) (hl : L.length = 4 * i) (hi : i < 8) (X : Nat) (hX : X < 4294967296) :
    Blk ((((w.setCell ⟨b, 4 * i, none⟩ (.int .u8 ((X : Int) / 16777216))).setCell ⟨b, 4 * i + 1, none⟩ (.int .u8 ((X : Int) / 65536 % 256))).setCell ⟨b, 4 * i + 2, none⟩ (.int .u8 ((X : Int) / 256 % 256))).setCell ⟨b, 4 * i + 3, none⟩ (.int .u8 ((X : Int) % 256))) b (byteCells 32 (L ++ toZ (Sha.nbe 4 X))) T := by
  have h0 := h.set (4 * i) (.int .u8 ((X : Int) / 16777216))
  rw [← hl, byteCells_set 32 L _ (by omega)] at h0
  have h1 := h0.set (4 * i + 1) (.int .u8 ((X : Int) / 65536 % 256))
  rw [show 4 * i + 1 = (L ++ [(X : Int) / 16777216]).length by simp [hl], byteCells_set 32 _ _ (by simp; omega)] at h1
  have h2 := h1.set (4 * i + 2) (.int .u8 ((X : Int) / 256 % 256))
  rw [show 4 * i + 2 = (L ++ [(X : Int) / 16777216] ++ [(X : Int) / 65536 % 256]).length by simp [hl], byteCells_set 32 _ _ (by simp; omega)] at h2
  have h3 := h2.set (4 * i + 3) (.int .u8 ((X : Int) % 256))
  rw [show 4 * i + 3 = (L ++ [(X : Int) / 16777216] ++ [(X : Int) / 65536 % 256] ++ [(X : Int) / 256 % 256]).length by simp [hl], byteCells_set 32 _ _ (by simp; omega)] at h3
  have e : L ++ toZ (Sha.nbe 4 X) = L ++ [(X : Int) / 16777216] ++ [(X : Int) / 65536 % 256] ++ [(X : Int) / 256 % 256] ++ [(X : Int) % 256] := by
    simp only [Sha.nbe, toZ, List.nil_append, List.cons_append, List.map_cons, List.map_nil, List.append_assoc]
    have e0 : (((X / 256 / 256 / 256 % 256 : Nat)) : Int) = (X : Int) / 16777216 := by omega
    have e1 : (((X / 256 / 256 % 256 : Nat)) : Int) = (X : Int) / 65536 % 256 := by omega
    have e2 : (((X / 256 % 256 : Nat)) : Int) = (X : Int) / 256 % 256 := by omega
    have e3 : (((X % 256 : Nat)) : Int) = (X : Int) % 256 := by omega
    rw [e0, e1, e2, e3]
  rw [e]
  simp only [List.length_append, List.length_cons, List.length_nil, hl] at h3
  exact h3
theorem But.fresh {b c : Nat} {w w' w'' : World} (h : But b w w') (h2 : But c w' w'') (hc : w.heap.size ≤ c) : But b w w'' :=
  ⟨h2.os.trans h.os, h2.tape.trans h.tape, h2.output.trans h.output, Nat.le_trans h.size h2.size, fun k hk hne => (h2.block k (Nat.lt_of_lt_of_le hk h.size) (by omega)).trans (h.block k hk hne)⟩
/-- the hash while it is finished -/
structure FinW (ph : Nat) (T : TypeId) (w : World) (st : Sha.St) (R : List Int) (N : Nat) (wr : World) : Prop where
  hash : Blk wr ph (hashCells st R N).toArray T
  res : Blk wr w.heap.size (byteCells 32 []) 23
  tab : ShaTab wr
  but : But ph w wr
theorem FinW.next {ph : Nat} {T : TypeId} {w : World} {st st' : Sha.St} {R R' : List Int} {N : Nat} {wr wr' : World} (h : FinW ph T w st R N wr) (hb : But ph wr wr') (hk : Blk wr' ph (hashCells st' R' N).toArray T) (hne : ph < w.heap.size) (hp1 : ph ≠ 1) (hp0 : ph ≠ 0) : FinW ph T w st' R' N wr' :=
  ⟨hk, hb.blk h.res (by omega), h.tab.but hb hp1 hp0, h.but.trans hb⟩
theorem FinW.below {ph : Nat} {T : TypeId} {w : World} {st : Sha.St} {R : List Int} {N : Nat} {wr wr' : World} (h : FinW ph T w st R N wr) (hb : Below wr.heap.size wr wr') : FinW ph T w st R N wr' :=
  ⟨h.hash.below hb, h.res.below hb, h.tab.below hb, h.but.ext hb⟩
set_option maxHeartbeats 8000000 in
theorem finish_any (ph : Nat) (T : TypeId) (bs : List Int) (w : World) (hH : HashAt w ph T bs) (hbnd : bs.length < 1152921504606846976) (tab : ShaTab w) (hp1 : ph ≠ 1) (hp0 : ph ≠ 0) :
    Calls Tryd.prog 80 #[.pointer (some ⟨ph, 0, none⟩)] w fun e w' => e = .returned (.agg ((sumZ bs).map (Value.int .u8)).toArray) ∧ But ph w w' := by
  obtain ⟨hbs, R, hR, hRs, hRt, hk⟩ := hH
  have hlt := hk.lt
  obtain ⟨m, hm⟩ : ∃ m : Nat, (bs.length : Int) % 64 = m := ⟨bs.length % 64, by omega⟩
  have hm64 : m < 64 := by omega
  have qS : w.cell? ⟨ph, 72, none⟩ = some (.int .u64 (bs.length : Nat)) := (hk.cell 72).trans (hashCells_len _ _ _ hR)
  have qm : w.cell? ⟨ph, 8 + m, none⟩ = some (.int .u8 (R.getD m 0)) := (hk.cell (8 + m)).trans (hashCells_rest _ _ _ _ hR hm64)
  have f1 := hk.free
  have HF1 : Hid (FinW ph T w (Sha.run Sha.start (natB bs) (bs.length / 64)) (splice R m [128]) bs.length ((w.setCell ⟨ph, 8 + m, none⟩ (.int .u8 128)).alloc (.cells #[.int .u8 0, .int .u8 0, .int .u8 0, .int .u8 0, .int .u8 0, .int .u8 0, .int .u8 0, .int .u8 0, .int .u8 0, .int .u8 0, .int .u8 0, .int .u8 0, .int .u8 0, .int .u8 0, .int .u8 0, .int .u8 0, .int .u8 0, .int .u8 0, .int .u8 0, .int .u8 0, .int .u8 0, .int .u8 0, .int .u8 0, .int .u8 0, .int .u8 0, .int .u8 0, .int .u8 0, .int .u8 0, .int .u8 0, .int .u8 0, .int .u8 0, .int .u8 0] 23))) := hid (by
    have hw := hk.hash_put hR m [128] (by simp; omega)
    have but1 := (But.of (b := ph) (Below.refl w.heap.size w)).set (p := ⟨ph, 8 + m, none⟩) (.inl rfl) (.int .u8 128)
    refine ⟨Blk.old hw _, Blk.new ?_ (byteCells 32 []) _, (tab.but but1 hp1 hp0).below ((Below.refl _ _).alloc (Nat.le_refl _) _), but1.ext ((Below.refl _ _).alloc (Nat.le_refl _) _)⟩
    simp [World.setCell])
  have HRt := hid hRt
  have Hbl : Hid (bs.length = 64 * (bs.length / 64) + m) := hid (by omega)
  obtain ⟨d, hd, hsl⟩ : ∃ d : Option Addr, (0 < 63 - m → d = some ⟨ph, 8 + (m + 1), none⟩) ∧ ∀ W : World, (Instr.sliceAt 113 (.pointer (some ⟨ph, 8, none⟩)) (some (.int .i64 ((m : Int) + 1))) none none).run Tryd.prog W = .ok (.slice d (63 - m) (63 - m)) W := by
    refine ⟨some (if 64 = m + 1 then ⟨ph, 8, none⟩ else ⟨ph, 8 + (m + 1), none⟩), fun h => by rw [if_neg (by omega)], fun W => ?_⟩
    have hal : Tryd.prog.arrayLen 113 = 64 := by kernel_rfl
    rw [run_sliceAt_array_l W 113 ⟨ph, 8, none⟩ (by kernel_rfl) .i64 ((m : Int) + 1) (by omega) (by rw [hal]; omega), hal]
    have hsi : (sizeOf (Tryd.prog.elem 113)).run Tryd.prog W = .ok 1 W := by kernel_rfl
    rw [hsi, Result.andThen_ok]
    unfold slicedAt
    rw [show ((m : Int) + 1).toNat = m + 1 by omega, Nat.mul_one, Addr.add_mid, show 64 - (m + 1) = 63 - m by omega]
  have Hd := hid hd
  have hsa : ∀ W : World, (Instr.sliceAt 113 (.pointer (some ⟨ph, 8, none⟩)) none none none).run Tryd.prog W = .ok (.slice (some ⟨ph, 8, none⟩) 64 64) W := fun W => by
    have hal : Tryd.prog.arrayLen 113 = 64 := by kernel_rfl
    rw [run_sliceAt_array_all W 113 ⟨ph, 8, none⟩ (by kernel_rfl), hal]
    have hsi : (sizeOf (Tryd.prog.elem 113)).run Tryd.prog W = .ok 1 W := by kernel_rfl
    rw [hsi, Result.andThen_ok]
    rfl
  have hz : ∀ W, (zeroValue 5).run Tryd.prog W = .ok (.int .u8 0) W := fun W => by kernel_rfl
  have Hz : Hid (∀ W, (zeroValue 5).run Tryd.prog W = .ok (.int .u8 0) W) := hid hz
  have hR1 : (splice R m [128]).length = 64 := by rw [length_splice _ _ _ (by simp; omega)]; exact hR
  obtain ⟨R2, hR2d⟩ : ∃ R2, R2 = splice (splice R m [128]) (m + 1) (List.replicate (63 - m) 0) := ⟨_, rfl⟩
  have hR2e : R2 = bs.drop (64 * (bs.length / 64)) ++ 128 :: List.replicate (63 - m) 0 := by
    have h2 : (R.take m).length = m := by rw [List.length_take]; omega
    have h1 : splice R m [128] = R.take m ++ 128 :: R.drop (m + 1) := by simp [splice]
    have h3 : (R.take m ++ [(128 : Int)]).length = m + 1 := by simp [h2]
    have h4 : splice R m [128] = (R.take m ++ [128]) ++ R.drop (m + 1) := by rw [h1]; simp
    rw [hR2d, h4, ← hRt, show bs.length % 64 = m by omega]
    unfold splice
    rw [← h3, List.take_left, ← List.drop_drop, List.drop_left, List.drop_drop, h3, List.drop_eq_nil_of_le (by simp; omega)]
    simp
  have hR2 : R2.length = 64 := by rw [hR2d, length_splice _ _ _ (by simp; omega)]; exact hR1
  have hR2s : ∀ x ∈ R2, 0 ≤ x ∧ x < 256 := by
    rw [hR2d]
    refine splice_small (splice_small hRs ?_) ?_
    · intro x hx; simp at hx; omega
    · intro x hx; have := List.eq_of_mem_replicate hx; omega
  have HR2e := hid hR2e
  clear hk tab hRt hd hz hR2e
  have hR2d' := hid hR2d
  clear hR2d
  by_cases hm55 : m ≤ 55
  · go_enter Tryd.func80, Tryd.ntmps80
    go_wp2_with (with_reducible refine wpList_clear_hash rfl _ 29 rfl 5 Tryd.underlying29 Hz.out ph (m + 1) (63 - m) (63 - m) d rfl Hd.out _ _ _ T HF1.out.hash hR1 (by omega) ?_; intro w2 HB2 HK2)
    rw [← hR2d'.out] at HK2
    have HF3 : Hid (FinW ph T w (Sha.run Sha.start (natB bs) (bs.length / 64)) R2 bs.length w2) := hid (HF1.out.next HB2.out HK2.out hlt hp1 hp0)
    have Hsum : Hid (sumZ bs = toZ (Sha.out (Sha.compress (Sha.run Sha.start (natB bs) (bs.length / 64)) (natB (R2.take 56 ++ toZ (Sha.nbe 8 (8 * bs.length))))))) := hid (by
      have hnl : (natB bs).length = bs.length := by simp [natB]
      have hb := Hbl.out
      unfold sumZ
      rw [sum_short (natB bs) (bs.length / 64) m (by rw [hnl]; exact hb) hm55, hnl]
      congr 3
      have e1 : R2.take 56 = bs.drop (64 * (bs.length / 64)) ++ 128 :: List.replicate (55 - m) 0 := by
        have hd : (bs.drop (64 * (bs.length / 64))).length = m := by rw [List.length_drop]; omega
        rw [HR2e.out, List.take_append, List.take_of_length_le (by omega), hd, show 56 - m = (55 - m) + 1 by omega, List.take_succ_cons, List.take_replicate, Nat.min_eq_left (by omega)]
      have e2 : natB (toZ (Sha.nbe 8 (8 * bs.length))) = Sha.nbe 8 (8 * bs.length) := natB_toZ _
      unfold natB at *
      rw [List.map_append, e2, e1, List.map_append, List.map_drop, List.map_cons, List.map_replicate]
      simp)
    clear HB2 HK2 HF1 HR2e
    go_loopw [46] (fun v wr => ∃ j : Nat, j ≤ 8 ∧ v = .int .i64 j ∧ FinW ph T w (Sha.run Sha.start (natB bs) (bs.length / 64)) (R2.take (64 - j) ++ toZ (Sha.nbe j (8 * bs.length))) bs.length wr) (fun v _ => 8 - (intOf v).toNat)
    case atStart =>
      refine ⟨0, by omega, rfl, ?_⟩
      rw [List.take_of_length_le (show R2.length ≤ 64 - 0 by omega), show toZ (Sha.nbe 0 (8 * bs.length)) = [] from rfl, List.append_nil]
      exact HF3.out
    case round =>
      obtain ⟨j, hj, rfl, hF⟩ := hrel
      by_cases hlt8 : j < 8
      · have hRj : (R2.take (64 - j) ++ toZ (Sha.nbe j (8 * bs.length))).length = 64 := by
          rw [List.length_append, List.length_take, toZ, List.length_map, nbe_length]; omega
        have q := (hF.hash.cell (8 + (63 - j))).trans (hashCells_rest _ _ _ (63 - j) hRj (by omega))
        have f1 := hF.hash.free
        have hlt2 := hF.hash.lt
        have HF := hid hF
        have e1 : ((63 : Int) - (j : Int)).toNat = 63 - j := by omega
        have e2 : ((8 : Int) * (j : Int)).toNat = 8 * j := by omega
        generalize (R2.take (64 - j) ++ toZ (Sha.nbe j (8 * bs.length))).getD (63 - j) 0 = old at q
        clear hF
        go_wp2_with fail
        refine wp_region_flow 11 [0, 1, 2, 3, 4, 5, 6, 7, 8, 9, 10] [] [] (by kernel_rfl) (by kernel_rfl) ?_
        apply Exists.intro
        refine ⟨fun w0 hb0 hF0 => ?_, ?_⟩
        · simp only [pick, List.getElem?_toArray, List.getElem?_cons_succ, List.getElem?_cons_zero, Option.toList_some, List.cons_append, List.nil_append]
          repeat (go_big_quiet_step (fail))
          exact wpQuiet_nil rfl
        refine AlChk.nil ?_
        refine Walk.fin fun w3 h3 _ _ => ?_
        simp only [List.drop_succ_cons, List.drop_zero]
        have HF3' := hid (HF.out.below h3)
        have q3 := (h3.cell (p := ⟨ph, 8 + (63 - j), none⟩) hlt2).trans q
        have f3 := HF3'.out.hash.free
        clear q f1 h3 HF
        go_wp2_with fail
        have hv : ((bs.length : Int) * 8 / 2 ^ (8 * j) % 256) = ((8 * bs.length / 256 ^ j % 256 : Nat) : Int) := by
          have hp : (2 : Int) ^ (8 * j) = ((256 ^ j : Nat) : Int) := by
            rw [show 256 ^ j = 2 ^ (8 * j) by rw [Nat.pow_mul], Int.natCast_pow]
            rfl
          rw [hp, Int.natCast_emod, Int.natCast_ediv, Int.natCast_mul, Int.mul_comm]
          rfl
        refine ⟨⟨j + 1, by omega, by go_num, HF3'.out.next ((But.of (Below.refl _ _)).set (p := ⟨ph, 8 + (63 - j), none⟩) (.inl rfl) _) ?_ hlt hp1 hp0⟩, by simp [intOf]; omega⟩
        have hk9 := HF3'.out.hash.hash_put hRj (63 - j) [((bs.length : Int) * 8 / 2 ^ (8 * j) % 256)] (by rw [List.length_singleton]; omega)
        rw [put_byte R2 hR2 _ j hlt8 _ hv] at hk9
        rw [show 64 - (j + 1) = 63 - j by omega]
        exact hk9
      · have h8 : j = 8 := by omega
        have hF8 : FinW ph T w (Sha.run Sha.start (natB bs) (bs.length / 64)) (R2.take 56 ++ toZ (Sha.nbe 8 (8 * bs.length))) bs.length wr := by
          rw [h8] at hF; exact hF
        have HF8 := hid hF8
        have hR8 : (R2.take 56 ++ toZ (Sha.nbe 8 (8 * bs.length))).length = 64 := by
          rw [List.length_append, List.length_take, toZ, List.length_map, nbe_length]; omega
        have hR8s : ∀ x ∈ R2.take 56 ++ toZ (Sha.nbe 8 (8 * bs.length)), 0 ≤ x ∧ x < 256 := fun x hx => by
          rcases List.mem_append.1 hx with h | h
          · exact hR2s x (List.mem_of_mem_take h)
          · exact toZ_small (nbe_lt _ _) x h
        generalize hR9 : R2.take 56 ++ toZ (Sha.nbe 8 (8 * bs.length)) = R9 at *
        have H8 := hid h8
        clear hF hF8 h8
        go_wp2_with fail
        refine wp_region_flow 7 [0, 1, 2, 3, 4, 5, 6] [] [] (by kernel_rfl) (by kernel_rfl) ?_
        apply Exists.intro
        refine ⟨fun w0 hb0 hF0 => ?_, ?_⟩
        · simp only [pick, List.getElem?_toArray, List.getElem?_cons_succ, List.getElem?_cons_zero, Option.toList_some, List.cons_append, List.nil_append]
          repeat (go_big_quiet_step (fail))
          exact wpQuiet_nil rfl
        refine AlChk.nil ?_
        refine Walk.fin fun w3 h3 _ _ => ?_
        simp only [List.drop_succ_cons, List.drop_zero]
        have HF9 := HF8.out.below h3
        have hk4 := HF9.hash
        go_wp2_with fail
        refine (process_any ph T _ (R9.map (Value.int .u8) ++ [.int .u64 (bs.length : Nat)]) (some ⟨ph, 8, none⟩) 64 R9 w3 (Ok.run Ok.start _ _) hk4 (hk4.hash_rest hR8 hR8s) HF9.tab hp1).mono ?_
        rintro e w4 ⟨rfl, b4, k4⟩
        have hFA := HF9.next b4 (st' := Sha.compress (Sha.run Sha.start (natB bs) (bs.length / 64)) (natB R9)) (R' := R9) k4 hlt hp1 hp0
        have okA : Ok (Sha.compress (Sha.run Sha.start (natB bs) (bs.length / 64)) (natB R9)) := Ok.compress _ _
        generalize Sha.compress (Sha.run Sha.start (natB bs) (bs.length / 64)) (natB R9) = sf at *
        have HFA := hid hFA
        have g0 : w4.cell? ⟨ph, 0, none⟩ = some (.int .u32 sf.a) := (hFA.hash.cell 0).trans rfl
        have g1 : w4.cell? ⟨ph, 1, none⟩ = some (.int .u32 sf.b) := (hFA.hash.cell 1).trans rfl
        have g2 : w4.cell? ⟨ph, 2, none⟩ = some (.int .u32 sf.c) := (hFA.hash.cell 2).trans rfl
        have g3 : w4.cell? ⟨ph, 3, none⟩ = some (.int .u32 sf.d) := (hFA.hash.cell 3).trans rfl
        have g4 : w4.cell? ⟨ph, 4, none⟩ = some (.int .u32 sf.e) := (hFA.hash.cell 4).trans rfl
        have g5 : w4.cell? ⟨ph, 5, none⟩ = some (.int .u32 sf.f) := (hFA.hash.cell 5).trans rfl
        have g6 : w4.cell? ⟨ph, 6, none⟩ = some (.int .u32 sf.g) := (hFA.hash.cell 6).trans rfl
        have g7 : w4.cell? ⟨ph, 7, none⟩ = some (.int .u32 sf.h) := (hFA.hash.cell 7).trans rfl
        have hlt4 := hFA.hash.lt
        have hres4 := hFA.res.lt
        have kd := Blk.new (w := w4) rfl (byteCells 32 []) 23
        have Hkd := hid kd
        clear hk4 HF9 b4 k4 h3 hFA kd
        go_wp2_with fail
        clear g0 g1 g2 g3 g4 g5 g6 g7
        go_loopw [73] (fun v wq => ∃ i : Nat, i ≤ 8 ∧ v = .int .i64 i ∧ Blk wq w4.heap.size (byteCells 32 (toZ (((words sf).take i).flatMap (Sha.nbe 4)))) 23 ∧ Below w4.heap.size w4 wq) (fun v _ => 8 - (intOf v).toNat)
        case atStart => exact ⟨0, by omega, rfl, Hkd.out, (Below.refl _ _).alloc (Nat.le_refl _) _⟩
        case round =>
          obtain ⟨i, hi, rfl, kr, br⟩ := hrel
          by_cases hlti : i < 8
          · have hix : ∀ W, (Instr.index 112 (.agg #[.int .u32 sf.a, .int .u32 sf.b, .int .u32 sf.c, .int .u32 sf.d, .int .u32 sf.e, .int .u32 sf.f, .int .u32 sf.g, .int .u32 sf.h]) (.int .i64 i)).run Tryd.prog W = .ok (.int .u32 ((toZ (words sf)).getD i 0)) W := fun W => run_index_ints (P := Tryd.prog) (e := 103) (n := 8) (by kernel_rfl) (by kernel_rfl) rfl rfl (toZ (words sf)) rfl i hlti W
            have hx : (toZ (words sf)).getD i 0 = (((words sf).getD i 0 : Nat) : Int) := by
              have : i < (words sf).length := hlti
              simp [toZ, this]
            have hxl : (words sf).getD i 0 < 4294967296 := words_lt okA i
            rw [hx] at hix
            have hts : (words sf).take (i + 1) = (words sf).take i ++ [(words sf).getD i 0] := by
              have : i < (words sf).length := hlti
              rw [List.take_succ_eq_append_getElem this]
              simp [this]
            have Hts := hid hts
            clear hx hts
            generalize (words sf).getD i 0 = X at *
            have hbl : (toZ (((words sf).take i).flatMap (Sha.nbe 4))).length = 4 * i := by
              rw [toZ, List.length_map, flat_len, List.length_take, Nat.min_eq_left (show i ≤ (words sf).length from Nat.le_of_lt hlti)]
            generalize hLd : toZ (((words sf).take i).flatMap (Sha.nbe 4)) = L at *
            have HL := hid hLd
            clear hLd
            have z0 : wr.cell? ⟨w4.heap.size, 4 * i, none⟩ = some (.int .u8 0) := by rw [kr.cell]; exact byteCells_zero _ _ _ (by omega) (by omega)
            have z1 : wr.cell? ⟨w4.heap.size, 4 * i + 1, none⟩ = some (.int .u8 0) := by rw [kr.cell]; exact byteCells_zero _ _ _ (by omega) (by omega)
            have z2 : wr.cell? ⟨w4.heap.size, 4 * i + 2, none⟩ = some (.int .u8 0) := by rw [kr.cell]; exact byteCells_zero _ _ _ (by omega) (by omega)
            have z3 : wr.cell? ⟨w4.heap.size, 4 * i + 3, none⟩ = some (.int .u8 0) := by rw [kr.cell]; exact byteCells_zero _ _ _ (by omega) (by omega)
            have o0 : ((4 : Int) * (i : Int)).toNat = 4 * i := by omega
            have o1 : ((4 : Int) * (i : Int) + 1).toNat = 4 * i + 1 := by omega
            have o2 : ((4 : Int) * (i : Int) + 2).toNat = 4 * i + 2 := by omega
            have o3 : ((4 : Int) * (i : Int) + 3).toNat = 4 * i + 3 := by omega
            have fq := kr.free
            have Hkr := hid kr
            have Hbr := hid br
            clear kr br
            go_wp2_with fail
            refine ⟨⟨i + 1, by omega, by go_num, ?_, ?_⟩, by simp [intOf]; omega⟩
            · have := put_four Hkr.out hbl hlti X hxl
              rw [Hts.out, List.flatMap_append, toZ, List.map_append, List.flatMap_singleton]
              rw [← HL.out] at this
              exact this
            · have hB : w4.heap.size ≤ w4.heap.size := Nat.le_refl _
              exact (((Hbr.out.setCell (p := ⟨w4.heap.size, 4 * i, none⟩) hB _).setCell (p := ⟨w4.heap.size, 4 * i + 1, none⟩) hB _).setCell (p := ⟨w4.heap.size, 4 * i + 2, none⟩) hB _).setCell (p := ⟨w4.heap.size, 4 * i + 3, none⟩) hB _
          · have h8i : i = 8 := by omega
            have kfull : Blk wr w4.heap.size ((sumZ bs).map (Value.int .u8)).toArray 23 := by
              have e : toZ (((words sf).take i).flatMap (Sha.nbe 4)) = sumZ bs := by
                rw [Hsum.out, h8i, List.take_of_length_le (by simp [words]), out_words]
              rw [e, byteCells_full 32 _ (sumZ_length bs)] at kr
              exact kr
            have kres := HFA.out.res.below br
            have hfb := HFA.out.but.ext br
            have Hsz : Hid (((sumZ bs).map (Value.int .u8)).toArray.size = 32) := hid (by simp [sumZ_length])
            have Hzb : Hid ((byteCells 32 []).size = 32) := hid (byteCells_size 32 [] (by simp))
            have Hkf := hid kfull
            have Hkres := hid kres
            have Hfb := hid hfb
            have H8i := hid h8i
            clear kr br kfull kres hfb h8i
            go_wp2_with (first | (refine wpList_load_blk rfl 23 _ rfl w4.heap.size rfl _ 23 Hkf.out _ Tryd.underlying23 rfl 32 size_digest Hsz.out ?_) | (refine wpList_store_blk rfl 23 _ _ rfl w.heap.size _ rfl rfl _ 23 Hkres.out 32 size_digest Hzb.out Hsz.out (ints_one _ _) ?_; intro w6 hbut6 hk6))
            exact bodyPost_ret (v := .agg ((sumZ bs).map (Value.int .u8)).toArray) (results_blk Tryd.results80 _ w.heap.size rfl _ 23 hk6 _ Tryd.underlying23 rfl 32 size_digest Hsz.out) rfl ⟨rfl, Hfb.out.fresh hbut6 (Nat.le_refl _)⟩
  · have hz0 : (56 : Int) < (m : Int) + 1 := by omega
    go_enter Tryd.func80, Tryd.ntmps80
    go_wp2_with (with_reducible refine wpList_clear_hash rfl _ 29 rfl 5 Tryd.underlying29 Hz.out ph (m + 1) (63 - m) (63 - m) d rfl Hd.out _ _ _ T HF1.out.hash hR1 (by omega) ?_; intro w2 HB2 HK2)
    rw [← hR2d'.out] at HK2
    have HF2 : Hid (FinW ph T w (Sha.run Sha.start (natB bs) (bs.length / 64)) R2 bs.length w2) := hid (HF1.out.next HB2.out HK2.out hlt hp1 hp0)
    clear HB2 HK2 HF1
    refine wp_region_flow 7 [0, 1, 2, 3, 4, 5, 6] [] [] (by kernel_rfl) (by kernel_rfl) ?_
    apply Exists.intro
    refine ⟨fun w0 hb0 hF0 => ?_, ?_⟩
    · simp only [pick, List.getElem?_toArray, List.getElem?_cons_succ, List.getElem?_cons_zero, Option.toList_some, List.cons_append, List.nil_append]
      repeat (go_big_quiet_step (fail))
      exact wpQuiet_nil rfl
    refine AlChk.nil ?_
    refine Walk.fin fun w3 h3 _ _ => ?_
    simp only [List.drop_succ_cons, List.drop_zero]
    have HF9 := HF2.out.below h3
    have hk4 := HF9.hash
    go_wp2_with fail
    refine (process_any ph T _ (R2.map (Value.int .u8) ++ [.int .u64 (bs.length : Nat)]) (some ⟨ph, 8, none⟩) 64 R2 w3 (Ok.run Ok.start _ _) hk4 (hk4.hash_rest hR2 hR2s) HF9.tab hp1).mono ?_
    rintro e w5 ⟨rfl, b5, k5⟩
    have hFB := HF9.next b5 (st' := Sha.compress (Sha.run Sha.start (natB bs) (bs.length / 64)) (natB R2)) (R' := R2) k5 hlt hp1 hp0
    have HFB := hid hFB
    have ok3 : Ok (Sha.compress (Sha.run Sha.start (natB bs) (bs.length / 64)) (natB R2)) := Ok.compress _ _
    have Hsum : Hid (sumZ bs = toZ (Sha.out (Sha.compress (Sha.compress (Sha.run Sha.start (natB bs) (bs.length / 64)) (natB R2)) (natB ((List.replicate 64 0).take 56 ++ toZ (Sha.nbe 8 (8 * bs.length))))))) := hid (by
      have hnl : (natB bs).length = bs.length := by simp [natB]
      have hb := Hbl.out
      have eA : natB R2 = (natB bs).drop (64 * (bs.length / 64)) ++ 128 :: List.replicate (63 - m) 0 := by
        rw [HR2e.out]
        simp [natB]
      have eB : natB ((List.replicate 64 (0 : Int)).take 56 ++ toZ (Sha.nbe 8 (8 * bs.length))) = List.replicate 56 0 ++ Sha.nbe 8 (8 * bs.length) := by
        have e2 : natB (toZ (Sha.nbe 8 (8 * bs.length))) = Sha.nbe 8 (8 * bs.length) := natB_toZ _
        rw [List.take_replicate, Nat.min_eq_left (by decide)]
        unfold natB at *
        rw [List.map_append, e2, List.map_replicate]
        rfl
      unfold sumZ
      rw [sum_long (natB bs) (bs.length / 64) m (by rw [hnl]; exact hb) (by omega) hm64, hnl, eA, eB])
    generalize Sha.compress (Sha.run Sha.start (natB bs) (bs.length / 64)) (natB R2) = st3 at *
    clear hk4 HF9 b5 k5 h3 hFB HF2 HR2e
    go_wp2_with (with_reducible refine wpList_clear_hash rfl _ 29 rfl 5 Tryd.underlying29 Hz.out ph 0 64 64 (some ⟨ph, 8, none⟩) rfl (fun _ => rfl) _ _ _ T HFB.out.hash hR2 (by omega) ?_; intro w2 HB2 HK2)
    have hR3d : splice R2 0 (List.replicate 64 0) = List.replicate 64 0 := by simp [splice, hR2]
    rw [hR3d] at HK2
    have HF3 : Hid (FinW ph T w st3 (List.replicate 64 0) bs.length w2) := hid (HFB.out.next HB2.out HK2.out hlt hp1 hp0)
    have hR3 : (List.replicate 64 (0 : Int)).length = 64 := by simp
    have hR3s : ∀ x ∈ List.replicate 64 (0 : Int), 0 ≤ x ∧ x < 256 := fun x hx => by have := List.eq_of_mem_replicate hx; omega
    generalize List.replicate 64 (0 : Int) = R3 at *
    clear HB2 HK2 HFB hR3d
    go_loopw [46] (fun v wr => ∃ j : Nat, j ≤ 8 ∧ v = .int .i64 j ∧ FinW ph T w st3 (R3.take (64 - j) ++ toZ (Sha.nbe j (8 * bs.length))) bs.length wr) (fun v _ => 8 - (intOf v).toNat)
    case atStart =>
      refine ⟨0, by omega, rfl, ?_⟩
      rw [List.take_of_length_le (show R3.length ≤ 64 - 0 by omega), show toZ (Sha.nbe 0 (8 * bs.length)) = [] from rfl, List.append_nil]
      exact HF3.out
    case round =>
      obtain ⟨j, hj, rfl, hF⟩ := hrel
      by_cases hlt8 : j < 8
      · have hRj : (R3.take (64 - j) ++ toZ (Sha.nbe j (8 * bs.length))).length = 64 := by
          rw [List.length_append, List.length_take, toZ, List.length_map, nbe_length]; omega
        have q := (hF.hash.cell (8 + (63 - j))).trans (hashCells_rest _ _ _ (63 - j) hRj (by omega))
        have f1 := hF.hash.free
        have hlt2 := hF.hash.lt
        have HF := hid hF
        have e1 : ((63 : Int) - (j : Int)).toNat = 63 - j := by omega
        have e2 : ((8 : Int) * (j : Int)).toNat = 8 * j := by omega
        generalize (R3.take (64 - j) ++ toZ (Sha.nbe j (8 * bs.length))).getD (63 - j) 0 = old at q
        clear hF
        go_wp2_with fail
        refine wp_region_flow 11 [0, 1, 2, 3, 4, 5, 6, 7, 8, 9, 10] [] [] (by kernel_rfl) (by kernel_rfl) ?_
        apply Exists.intro
        refine ⟨fun w0 hb0 hF0 => ?_, ?_⟩
        · simp only [pick, List.getElem?_toArray, List.getElem?_cons_succ, List.getElem?_cons_zero, Option.toList_some, List.cons_append, List.nil_append]
          repeat (go_big_quiet_step (fail))
          exact wpQuiet_nil rfl
        refine AlChk.nil ?_
        refine Walk.fin fun w3 h3 _ _ => ?_
        simp only [List.drop_succ_cons, List.drop_zero]
        have HF3' := hid (HF.out.below h3)
        have q3 := (h3.cell (p := ⟨ph, 8 + (63 - j), none⟩) hlt2).trans q
        have f3 := HF3'.out.hash.free
        clear q f1 h3 HF
        go_wp2_with fail
        have hv : ((bs.length : Int) * 8 / 2 ^ (8 * j) % 256) = ((8 * bs.length / 256 ^ j % 256 : Nat) : Int) := by
          have hp : (2 : Int) ^ (8 * j) = ((256 ^ j : Nat) : Int) := by
            rw [show 256 ^ j = 2 ^ (8 * j) by rw [Nat.pow_mul], Int.natCast_pow]
            rfl
          rw [hp, Int.natCast_emod, Int.natCast_ediv, Int.natCast_mul, Int.mul_comm]
          rfl
        refine ⟨⟨j + 1, by omega, by go_num, HF3'.out.next ((But.of (Below.refl _ _)).set (p := ⟨ph, 8 + (63 - j), none⟩) (.inl rfl) _) ?_ hlt hp1 hp0⟩, by simp [intOf]; omega⟩
        have hk9 := HF3'.out.hash.hash_put hRj (63 - j) [((bs.length : Int) * 8 / 2 ^ (8 * j) % 256)] (by rw [List.length_singleton]; omega)
        rw [put_byte R3 hR3 _ j hlt8 _ hv] at hk9
        rw [show 64 - (j + 1) = 63 - j by omega]
        exact hk9
      · have h8 : j = 8 := by omega
        have hF8 : FinW ph T w st3 (R3.take 56 ++ toZ (Sha.nbe 8 (8 * bs.length))) bs.length wr := by
          rw [h8] at hF; exact hF
        have HF8 := hid hF8
        have hR8 : (R3.take 56 ++ toZ (Sha.nbe 8 (8 * bs.length))).length = 64 := by
          rw [List.length_append, List.length_take, toZ, List.length_map, nbe_length]; omega
        have hR8s : ∀ x ∈ R3.take 56 ++ toZ (Sha.nbe 8 (8 * bs.length)), 0 ≤ x ∧ x < 256 := fun x hx => by
          rcases List.mem_append.1 hx with h | h
          · exact hR3s x (List.mem_of_mem_take h)
          · exact toZ_small (nbe_lt _ _) x h
        generalize hR9 : R3.take 56 ++ toZ (Sha.nbe 8 (8 * bs.length)) = R9 at *
        have H8 := hid h8
        clear hF hF8 h8
        go_wp2_with fail
        refine wp_region_flow 7 [0, 1, 2, 3, 4, 5, 6] [] [] (by kernel_rfl) (by kernel_rfl) ?_
        apply Exists.intro
        refine ⟨fun w0 hb0 hF0 => ?_, ?_⟩
        · simp only [pick, List.getElem?_toArray, List.getElem?_cons_succ, List.getElem?_cons_zero, Option.toList_some, List.cons_append, List.nil_append]
          repeat (go_big_quiet_step (fail))
          exact wpQuiet_nil rfl
        refine AlChk.nil ?_
        refine Walk.fin fun w3 h3 _ _ => ?_
        simp only [List.drop_succ_cons, List.drop_zero]
        have HF9 := HF8.out.below h3
        have hk4 := HF9.hash
        go_wp2_with fail
        refine (process_any ph T _ (R9.map (Value.int .u8) ++ [.int .u64 (bs.length : Nat)]) (some ⟨ph, 8, none⟩) 64 R9 w3 ok3 hk4 (hk4.hash_rest hR8 hR8s) HF9.tab hp1).mono ?_
        rintro e w4 ⟨rfl, b4, k4⟩
        have hFA := HF9.next b4 (st' := Sha.compress st3 (natB R9)) (R' := R9) k4 hlt hp1 hp0
        have okA : Ok (Sha.compress st3 (natB R9)) := Ok.compress _ _
        generalize Sha.compress st3 (natB R9) = sf at *
        have HFA := hid hFA
        have g0 : w4.cell? ⟨ph, 0, none⟩ = some (.int .u32 sf.a) := (hFA.hash.cell 0).trans rfl
        have g1 : w4.cell? ⟨ph, 1, none⟩ = some (.int .u32 sf.b) := (hFA.hash.cell 1).trans rfl
        have g2 : w4.cell? ⟨ph, 2, none⟩ = some (.int .u32 sf.c) := (hFA.hash.cell 2).trans rfl
        have g3 : w4.cell? ⟨ph, 3, none⟩ = some (.int .u32 sf.d) := (hFA.hash.cell 3).trans rfl
        have g4 : w4.cell? ⟨ph, 4, none⟩ = some (.int .u32 sf.e) := (hFA.hash.cell 4).trans rfl
        have g5 : w4.cell? ⟨ph, 5, none⟩ = some (.int .u32 sf.f) := (hFA.hash.cell 5).trans rfl
        have g6 : w4.cell? ⟨ph, 6, none⟩ = some (.int .u32 sf.g) := (hFA.hash.cell 6).trans rfl
        have g7 : w4.cell? ⟨ph, 7, none⟩ = some (.int .u32 sf.h) := (hFA.hash.cell 7).trans rfl
        have hlt4 := hFA.hash.lt
        have hres4 := hFA.res.lt
        have kd := Blk.new (w := w4) rfl (byteCells 32 []) 23
        have Hkd := hid kd
        clear hk4 HF9 b4 k4 h3 hFA kd
        go_wp2_with fail
        clear g0 g1 g2 g3 g4 g5 g6 g7
        go_loopw [73] (fun v wq => ∃ i : Nat, i ≤ 8 ∧ v = .int .i64 i ∧ Blk wq w4.heap.size (byteCells 32 (toZ (((words sf).take i).flatMap (Sha.nbe 4)))) 23 ∧ Below w4.heap.size w4 wq) (fun v _ => 8 - (intOf v).toNat)
        case atStart => exact ⟨0, by omega, rfl, Hkd.out, (Below.refl _ _).alloc (Nat.le_refl _) _⟩
        case round =>
          obtain ⟨i, hi, rfl, kr, br⟩ := hrel
          by_cases hlti : i < 8
          · have hix : ∀ W, (Instr.index 112 (.agg #[.int .u32 sf.a, .int .u32 sf.b, .int .u32 sf.c, .int .u32 sf.d, .int .u32 sf.e, .int .u32 sf.f, .int .u32 sf.g, .int .u32 sf.h]) (.int .i64 i)).run Tryd.prog W = .ok (.int .u32 ((toZ (words sf)).getD i 0)) W := fun W => run_index_ints (P := Tryd.prog) (e := 103) (n := 8) (by kernel_rfl) (by kernel_rfl) rfl rfl (toZ (words sf)) rfl i hlti W
            have hx : (toZ (words sf)).getD i 0 = (((words sf).getD i 0 : Nat) : Int) := by
              have : i < (words sf).length := hlti
              simp [toZ, this]
            have hxl : (words sf).getD i 0 < 4294967296 := words_lt okA i
            rw [hx] at hix
            have hts : (words sf).take (i + 1) = (words sf).take i ++ [(words sf).getD i 0] := by
              have : i < (words sf).length := hlti
              rw [List.take_succ_eq_append_getElem this]
              simp [this]
            have Hts := hid hts
            clear hx hts
            generalize (words sf).getD i 0 = X at *
            have hbl : (toZ (((words sf).take i).flatMap (Sha.nbe 4))).length = 4 * i := by
              rw [toZ, List.length_map, flat_len, List.length_take, Nat.min_eq_left (show i ≤ (words sf).length from Nat.le_of_lt hlti)]
            generalize hLd : toZ (((words sf).take i).flatMap (Sha.nbe 4)) = L at *
            have HL := hid hLd
            clear hLd
            have z0 : wr.cell? ⟨w4.heap.size, 4 * i, none⟩ = some (.int .u8 0) := by rw [kr.cell]; exact byteCells_zero _ _ _ (by omega) (by omega)
            have z1 : wr.cell? ⟨w4.heap.size, 4 * i + 1, none⟩ = some (.int .u8 0) := by rw [kr.cell]; exact byteCells_zero _ _ _ (by omega) (by omega)
            have z2 : wr.cell? ⟨w4.heap.size, 4 * i + 2, none⟩ = some (.int .u8 0) := by rw [kr.cell]; exact byteCells_zero _ _ _ (by omega) (by omega)
            have z3 : wr.cell? ⟨w4.heap.size, 4 * i + 3, none⟩ = some (.int .u8 0) := by rw [kr.cell]; exact byteCells_zero _ _ _ (by omega) (by omega)
            have o0 : ((4 : Int) * (i : Int)).toNat = 4 * i := by omega
            have o1 : ((4 : Int) * (i : Int) + 1).toNat = 4 * i + 1 := by omega
            have o2 : ((4 : Int) * (i : Int) + 2).toNat = 4 * i + 2 := by omega
            have o3 : ((4 : Int) * (i : Int) + 3).toNat = 4 * i + 3 := by omega
            have fq := kr.free
            have Hkr := hid kr
            have Hbr := hid br
            clear kr br
            go_wp2_with fail
            refine ⟨⟨i + 1, by omega, by go_num, ?_, ?_⟩, by simp [intOf]; omega⟩
            · have := put_four Hkr.out hbl hlti X hxl
              rw [Hts.out, List.flatMap_append, toZ, List.map_append, List.flatMap_singleton]
              rw [← HL.out] at this
              exact this
            · have hB : w4.heap.size ≤ w4.heap.size := Nat.le_refl _
              exact (((Hbr.out.setCell (p := ⟨w4.heap.size, 4 * i, none⟩) hB _).setCell (p := ⟨w4.heap.size, 4 * i + 1, none⟩) hB _).setCell (p := ⟨w4.heap.size, 4 * i + 2, none⟩) hB _).setCell (p := ⟨w4.heap.size, 4 * i + 3, none⟩) hB _
          · have h8i : i = 8 := by omega
            have kfull : Blk wr w4.heap.size ((sumZ bs).map (Value.int .u8)).toArray 23 := by
              have e : toZ (((words sf).take i).flatMap (Sha.nbe 4)) = sumZ bs := by
                rw [Hsum.out, h8i, List.take_of_length_le (by simp [words]), out_words]
              rw [e, byteCells_full 32 _ (sumZ_length bs)] at kr
              exact kr
            have kres := HFA.out.res.below br
            have hfb := HFA.out.but.ext br
            have Hsz : Hid (((sumZ bs).map (Value.int .u8)).toArray.size = 32) := hid (by simp [sumZ_length])
            have Hzb : Hid ((byteCells 32 []).size = 32) := hid (byteCells_size 32 [] (by simp))
            have Hkf := hid kfull
            have Hkres := hid kres
            have Hfb := hid hfb
            have H8i := hid h8i
            clear kr br kfull kres hfb h8i
            go_wp2_with (first | (refine wpList_load_blk rfl 23 _ rfl w4.heap.size rfl _ 23 Hkf.out _ Tryd.underlying23 rfl 32 size_digest Hsz.out ?_) | (refine wpList_store_blk rfl 23 _ _ rfl w.heap.size _ rfl rfl _ 23 Hkres.out 32 size_digest Hzb.out Hsz.out (ints_one _ _) ?_; intro w6 hbut6 hk6))
            exact bodyPost_ret (v := .agg ((sumZ bs).map (Value.int .u8)).toArray) (results_blk Tryd.results80 _ w.heap.size rfl _ 23 hk6 _ Tryd.underlying23 rfl 32 size_digest Hsz.out) rfl ⟨rfl, Hfb.out.fresh hbut6 (Nat.le_refl _)⟩
end Go.Proofs.YtkakoiaahgchmaaDoor
namespace Go.Proofs.YtkakoiaahgchmaaDoor
set_option maxRecDepth 100000
open Go.ChangeShapes Go.WideShapes Go.ChangeAt Go.RowKit
theorem size_hash : (Tryd.prog.info? 116).map (·.size) = some 73 := by kernel_rfl
/-- the cells of a new hash -/
def newHash : Array Value := (hashCells Sha.start (List.replicate 64 0) 0).toArray
set_option maxHeartbeats 2000000 in
theorem begin_any (w : World) (tab : ShaTab w) : Calls Tryd.prog 78 #[] w fun e w' => e = .returned (.agg newHash) ∧ Below w.heap.size w w' := by
  have hlt := tab.lt0
  obtain ⟨g0, g1, g2, g3, g4, g5, g6, g7⟩ := tab.start
  have HZ : Hid (Tryd.zeroCells116.size = 73) := hid (by kernel_rfl)
  have HN : Hid (newHash.size = 73) := hid (hashCells_size _ _ _ (by simp))
  go_enter Tryd.func78, Tryd.ntmps78
  go_wp2_with (refine wpList_store_blk rfl 116 _ _ rfl w.heap.size newHash rfl (by kernel_rfl) Tryd.zeroCells116 116 (Blk.new rfl _ _) 73 size_hash HZ.out HN.out (by kernel_rfl) ?_; intro w2 hb2 hk2)
  exact bodyPost_ret (v := .agg newHash) (results_blk Tryd.results78 _ w.heap.size rfl _ 116 hk2 _ Tryd.underlying116 rfl 73 size_hash HN.out) rfl ⟨rfl, hb2.below ((Below.refl _ _).alloc (Nat.le_refl _) _) (by rw [World.size_alloc]; omega) (Nat.le_refl _)⟩
end Go.Proofs.YtkakoiaahgchmaaDoor
namespace Go.Proofs.YtkakoiaahgchmaaDoor
set_option maxRecDepth 100000
open Go.ChangeShapes Go.WideShapes Go.ChangeAt Go.RowKit
theorem hash_new {w : World} {ph : Nat} {T : TypeId} (h : Blk w ph newHash T) : HashAt w ph T [] :=
  ⟨by simp, List.replicate 64 0, by simp, fun x hx => by have := List.eq_of_mem_replicate hx; omega, by simp, h⟩
set_option maxHeartbeats 4000000 in
theorem sum_any (a : Option Addr) (len cap : Nat) (ts : List (List Int)) (w : World) (hT : TextsAt w a len cap ts) (hbnd : sumLen ts < 1152921504606846976) (tab : ShaTab w) :
    Calls Tryd.prog 59 #[.slice a len cap] w fun e w' => e = .returned (.agg ((sumZ ts.flatten).map (Value.int .u8)).toArray) ∧ Below w.heap.size w w' := by
  have hlen : ts.length = len := hT.length
  have hcp := hT.le
  have hmx := hT.max
  have hlt1 := tab.lt
  have hlt0 := tab.lt0
  have HT := hid hT
  have Htab := hid tab
  have HN : Hid (newHash.size = 73) := hid (hashCells_size _ _ _ (by simp))
  have HZ : Hid (Tryd.zeroCells116.size = 73) := hid (by kernel_rfl)
  have H1 : Hid (newHash.all (·.oneCell') = true) := hid (by kernel_rfl)
  clear hT tab
  go_enter Tryd.func59, Tryd.ntmps59
  go_wp2_with fail
  refine (begin_any _ (Htab.out.below ((Below.refl _ _).alloc (Nat.le_refl _) _))).mono ?_
  rintro e w1 ⟨rfl, b1⟩
  have hs1 : w.heap.size < w1.heap.size := by have := b1.size; rw [World.size_alloc] at this; omega
  have kr1 := (Blk.new (w := w) rfl (byteCells 32 []) 23).below b1
  have bel1 : Below w.heap.size w w1 := Below.on ((Below.refl w.heap.size w).alloc (Nat.le_refl _) _) b1
  have Hkr1 := hid kr1
  have Hbel1 := hid bel1
  clear b1 kr1 bel1
  go_wp2_with (refine wpList_store_blk rfl 116 _ _ rfl w1.heap.size newHash rfl rfl Tryd.zeroCells116 116 (Blk.new rfl _ _) 73 size_hash HZ.out HN.out H1.out ?_; intro w2 hb2 hk2)
  have bel2 : Below w.heap.size w w2 := hb2.below (Hbel1.out.alloc (by omega) _) (by rw [World.size_alloc]; omega) (by omega)
  have kr2 : Blk w2 w.heap.size (byteCells 32 []) 23 := hb2.blk (Hkr1.out.old _) (by omega)
  have hh2 := hash_new hk2
  have hph : w.heap.size < w1.heap.size := hs1
  generalize w1.heap.size = ph at *
  have Hh2 := hid hh2
  have Hkr2 := hid kr2
  have Hbel2 := hid bel2
  clear hb2 hk2 bel2 kr2 hh2 Hkr1 Hbel1 HZ HN H1
  go_loopw [9] (fun v wr => ∃ k : Nat, k ≤ len ∧ v = .int .i64 k ∧ HashAt wr ph 116 (ts.take k).flatten ∧ Below w.heap.size w wr ∧ Blk wr w.heap.size (byteCells 32 []) 23) (fun v _ => len - (intOf v).toNat)
  case atStart => exact ⟨0, by omega, rfl, by simpa using Hh2.out, Hbel2.out, Hkr2.out⟩
  case round =>
    obtain ⟨k, hk, rfl, hh, bel, kr⟩ := hrel
    have Hh := hid hh
    have Hbel := hid bel
    have Hkr := hid kr
    clear hh bel kr
    by_cases hlt : k < len
    · obtain ⟨r, off, a', l', c', rfl, hrl, hc, hTk⟩ := HT.out.at_ k hlt
      have hcw : wr.cell? ⟨r, off + k, none⟩ = some (.slice a' l' c') := (Hbel.out.cell (p := ⟨r, off + k, none⟩) hrl).trans hc
      have hTw := hTk.below Hbel.out
      have hne : 0 < l' → ∀ p : Addr, a' = some p → p.block ≠ ph := hTk.ne (by omega)
      have HTw := hid hTw
      have Hne := hid hne
      have HF := hid (flatten_take ts k (by omega))
      have hsl : (ts.take k).flatten.length + l' < 1152921504606846976 := by
        have e1 := sumLen_take ts k (by omega)
        have e2 := sumLen_le ts (k + 1)
        have e3 := flatten_length (ts.take k)
        have e4 := hTk.length
        omega
      clear hTk hTw hne hc
      go_wp2_with fail
      refine (add_any ph 116 _ a' l' c' _ wr Hh.out HTw.out hsl Hne.out (Htab.out.below Hbel.out) (by omega) (by omega)).mono ?_
      rintro e w4 ⟨rfl, b4, h4⟩
      have Hn : Hid (HashAt w4 ph 116 (ts.take (k + 1)).flatten ∧ Below w.heap.size w w4 ∧ Blk w4 w.heap.size (byteCells 32 []) 23) := hid ⟨by rw [HF.out]; exact h4, b4.below Hbel.out Hbel.out.size (by omega), b4.blk Hkr.out (by omega)⟩
      clear b4 h4 HTw Hne
      go_wp2_with fail
      exact ⟨⟨k + 1, by omega, by go_num, Hn.out.1, Hn.out.2.1, Hn.out.2.2⟩, by simp [intOf]; omega⟩
    · have hkl : k = len := by omega
      have hft : (ts.take k).flatten = ts.flatten := by rw [List.take_of_length_le (by omega)]
      rw [hft] at Hh
      have Hkl := hid hkl
      clear hkl hft
      have hfl := flatten_length ts
      go_wp2_with fail
      refine (finish_any ph 116 _ wr Hh.out (by omega) (Htab.out.below Hbel.out) (by omega) (by omega)).mono ?_
      rintro e w4 ⟨rfl, b4⟩
      have bel4 := b4.below Hbel.out Hbel.out.size (by omega)
      have kr4 := b4.blk Hkr.out (show w.heap.size ≠ ph by omega)
      have Hsz : Hid (((sumZ ts.flatten).map (Value.int .u8)).toArray.size = 32) := hid (by simp [sumZ_length])
      have Hzb : Hid ((byteCells 32 []).size = 32) := hid (byteCells_size 32 [] (by simp))
      have Hbel4 := hid bel4
      have Hkr4 := hid kr4
      clear b4 bel4 kr4 Hbel Hkr
      go_wp2_with (refine wpList_store_blk rfl 23 _ _ rfl w.heap.size _ rfl rfl _ 23 Hkr4.out 32 size_digest Hzb.out Hsz.out (ints_one _ _) ?_; intro w6 hbut6 hk6)
      exact bodyPost_ret (v := .agg ((sumZ ts.flatten).map (Value.int .u8)).toArray) (results_blk Tryd.results59 _ w.heap.size rfl _ 23 hk6 _ Tryd.underlying23 rfl 32 size_digest Hsz.out) rfl ⟨rfl, hbut6.below Hbel4.out Hbel4.out.size (Nat.le_refl _)⟩
end Go.Proofs.YtkakoiaahgchmaaDoor
namespace Go.Proofs.YtkakoiaahgchmaaDoor
set_option maxRecDepth 100000
open Go.ChangeShapes Go.WideShapes Go.ChangeAt Go.RowKit
theorem toZ_natB {bs : List Int} (h : ∀ x ∈ bs, 0 ≤ x ∧ x < 256) : toZ (natB bs) = bs := by
  induction bs with
  | nil => rfl
  | cons x bs ih =>
    have hx := h x (by simp)
    have := ih fun y hy => h y (by simp [hy])
    unfold toZ natB at *
    rw [List.map_cons, List.map_cons, this, Int.toNat_of_nonneg hx.1]
set_option maxHeartbeats 8000000 in
theorem padded_any (a : Option Addr) (len cap : Nat) (bs : List Int) (w : World) (hT : TextAt w a len cap bs) (hbnd : len ≤ 140737488350000) :
    Calls Tryd.prog 69 #[.slice a len cap] w fun e w' => ∃ v, e = .returned v ∧ OwnB w' w.heap.size 5 v (toZ (Sha.pad (natB bs))) ∧ Below w.heap.size w w' := by
  have hlen := hT.length
  have hle := hT.le
  have hmx := hT.max
  have kE : OwnB (w.alloc (Obj.cells #[] 5)) w.heap.size 5 (.slice (some ⟨w.heap.size, 0, none⟩) 0 0) [] := OwnB.of_blk (Blk.new rfl _ _) (Nat.le_refl _) rfl (by omega) (by simp)
  have belE : Below w.heap.size w (w.alloc (Obj.cells #[] 5)) := (Below.refl _ _).alloc (Nat.le_refl _) _
  have hTE := hT.below belE
  have HkE := hid kE
  have HbE := hid belE
  have HTE := hid hTE
  have HT := hid hT
  have Hlen := hid hlen
  clear hT kE belE hTE
  obtain ⟨i0, hi, hz0, hz1, hz2⟩ := info_parts info_byte
  go_enter Tryd.func69, Tryd.ntmps69
  go_wp2_with (at_builtin; refine wpList_append_text rfl (.tmp 8) (.tmp 9) rfl Tryd.underlying29 hi hz0 hz1 hz2 rfl HkE.out rfl HTE.out ?c1 ?c2 ?_)
  case c1 => simp; omega
  case c2 => exact HbE.out.size
  intro v1 w1 own1 g1 b1
  have bel1 := HbE.out.trans b1
  have own1' := own1.below ((Below.refl w1.heap.size w1).alloc (Nat.le_refl _) (Obj.cells #[.int .u8 128] 5))
  have kT : TextAt (w1.alloc (Obj.cells #[.int .u8 128] 5)) (some ⟨w1.heap.size, 0, none⟩) 1 1 [128] := TextAt.of_ints (T := 5) (Blk.new rfl _ _) rfl (by omega) (by simp)
  have bel1' := bel1.alloc bel1.size (Obj.cells #[.int .u8 128] 5)
  have Hown1 := hid own1'
  have HkT := hid kT
  have Hbel1 := hid bel1'
  clear own1 own1' g1 b1 bel1 bel1' kT
  go_wp2_with (at_builtin; refine wpList_append_text rfl (.tmp 10) (.tmp 11) rfl Tryd.underlying29 hi hz0 hz1 hz2 rfl Hown1.out rfl HkT.out ?c1 ?c2 ?_)
  case c1 => simp; omega
  case c2 => exact Hbel1.out.size
  intro v2 w2 own2 g2 b2
  have Hbel2 := hid (Hbel1.out.trans b2)
  have Hown2 : Hid (OwnB w2 w.heap.size 5 v2 (bs ++ 128 :: List.replicate 0 0)) := hid (by simpa using own2)
  clear own2 g2 b2 HkT Hown1 Hbel1
  go_wp2_with fail
  go_loopw [3] (fun v wr => ∃ z : Nat, z ≤ Sha.zerosFor bs.length ∧ OwnB wr w.heap.size 5 v (bs ++ 128 :: List.replicate z 0) ∧ Below w.heap.size w wr) (fun v _ => bs.length + 200 - sliceLen v)
  case atStart => exact ⟨0, Nat.zero_le _, Hown2.out, Hbel2.out⟩
  case round =>
    obtain ⟨z, hz, hown, bel⟩ := hrel
    obtain ⟨ao, co, rfl, hTo, _⟩ := hown.text
    have Hl : Hid ((bs ++ 128 :: List.replicate z (0 : Int)).length = len + 1 + z) := hid (by rw [List.length_append, List.length_cons, List.length_replicate, Hlen.out]; omega)
    have hzf : z < 64 := by unfold Sha.zerosFor at hz; omega
    have Hz := hid hz
    rw [Hl.out] at hown hTo
    rw [Hl.out]
    have hco := hTo.le
    have hmo := hTo.max
    have Hown := hid hown
    have Hbel := hid bel
    have hszw := bel.size
    clear hown bel hz hTo
    by_cases hq : (len + 1 + z) % 64 = 56
    · have hq2 : (((len : Int) + 1 + (z : Int)) % 64) = 56 := by omega
      have hzz : z = Sha.zerosFor bs.length := by
        have := Hz.out
        have := Hlen.out
        unfold Sha.zerosFor at *
        omega
      have Hzz := hid hzz
      clear hzz
      have kN : OwnB (wr.alloc (Obj.cells #[.int .u8 ((len : Int) % 32 * 8)] 5)) wr.heap.size 5 (.slice none 0 0) [] := OwnB.nil _ _ _
      have kT : TextAt (wr.alloc (Obj.cells #[.int .u8 ((len : Int) % 32 * 8)] 5)) (some ⟨wr.heap.size, 0, none⟩) 1 1 [(len : Int) % 32 * 8] := TextAt.of_ints (T := 5) (Blk.new rfl _ _) rfl (by omega) (by simp; omega)
      have belN := (Below.refl wr.heap.size wr).alloc (Nat.le_refl _) (Obj.cells #[.int .u8 ((len : Int) % 32 * 8)] 5)
      have HkN := hid kN
      have HkT := hid kT
      have HbN := hid belN
      clear kN kT belN
      go_wp2_with (at_builtin; refine wpList_append_text rfl (.tmp 27) (.tmp 30) rfl Tryd.underlying29 hi hz0 hz1 hz2 rfl HkN.out rfl HkT.out ?c1 ?c2 ?_)
      case c1 => simp
      case c2 => exact HbN.out.size
      intro v3 w3 own3 g3 b3
      have hb3 := HbN.out.trans b3
      have own3' : OwnB w3 wr.heap.size 5 v3 (toZ (Sha.nbe 1 (8 * bs.length))) := by
        have e : toZ (Sha.nbe 1 (8 * bs.length)) = [(len : Int) % 32 * 8] := by
          have := Hlen.out
          simp only [Sha.nbe, toZ, List.nil_append, List.map_cons, List.map_nil, this]
          congr 1
          omega
        rw [e]; simpa using own3
      have Hb3 := hid hb3
      have Ho3 := hid own3'
      clear own3 own3' g3 b3 hb3 HkN HkT HbN
      generalize wr = wo at *
      go_wp2_with fail
      go_loopw [4, 5, 7] (fun n v i wq => ∃ k : Nat, k ≤ 7 ∧ i = .int .i64 k ∧ n = .int .i64 ((8 * len / 256 ^ (k + 1) : Nat)) ∧ OwnB wq wo.heap.size 5 v (toZ (Sha.nbe (k + 1) (8 * bs.length))) ∧ Below wo.heap.size wo wq) (fun _ _ i _ => 7 - (intOf i).toNat)
      case atStart => exact ⟨0, by omega, rfl, congrArg (Value.int .i64) (by omega), Ho3.out, Hb3.out⟩
      case round =>
        obtain ⟨k, hk, rfl, rfl, hown, bel⟩ := hrel
        obtain ⟨at_, ct, rfl, hTt, _⟩ := hown.text
        have Hl2 : Hid ((toZ (Sha.nbe (k + 1) (8 * bs.length))).length = k + 1) := hid (by rw [toZ, List.length_map, nbe_length])
        rw [Hl2.out] at hown hTt
        rw [Hl2.out]
        have hct := hTt.le
        have hmt := hTt.max
        have Hq : Hid (8 * len / 256 ^ (k + 1) / 256 = 8 * len / 256 ^ (k + 1 + 1)) := hid (by rw [Nat.div_div_eq_div_mul, ← Nat.pow_succ])
        have HNB : Hid (toZ (Sha.nbe (k + 1 + 1) (8 * bs.length)) = ((8 * len / 256 ^ (k + 1) % 256 : Nat) : Int) :: toZ (Sha.nbe (k + 1) (8 * bs.length))) := hid (by
          rw [nbe_succ (k + 1), Hlen.out]
          rfl)
        have hqb : 8 * len / 256 ^ (k + 1) < 1125899906842624 := Nat.lt_of_le_of_lt (Nat.div_le_self _ _) (by omega)
        generalize 8 * len / 256 ^ (k + 1) = q at *
        by_cases hlt : k < 7
        · have kN : OwnB (wr.alloc (Obj.cells #[.int .u8 ((q : Int) % 256)] 5)) wo.heap.size 5 (.slice (some ⟨wr.heap.size, 0, none⟩) 1 1) [(q : Int) % 256] :=
            OwnB.of_blk (Blk.new rfl _ _) bel.size rfl (by omega) (by simp; omega)
          have belN := bel.alloc bel.size (Obj.cells #[.int .u8 ((q : Int) % 256)] 5)
          have hTN := hTt.below ((Below.refl _ _).alloc (Nat.le_refl _) (Obj.cells #[.int .u8 ((q : Int) % 256)] 5))
          have HkN := hid kN
          have HbN := hid belN
          have HTN := hid hTN
          clear kN belN hTN hTt hown bel
          go_wp2_with (at_builtin; refine wpList_append_text rfl (.tmp 39) (.tmp 40) rfl Tryd.underlying29 hi hz0 hz1 hz2 rfl HkN.out rfl HTN.out ?c1 ?c2 ?_)
          case c1 => simp; omega
          case c2 => exact HbN.out.size
          intro v5 w5 own5 g5 b5
          have H5 : Hid (OwnB w5 wo.heap.size 5 v5 (toZ (Sha.nbe (k + 1 + 1) (8 * bs.length))) ∧ Below wo.heap.size wo w5) := hid ⟨by rw [HNB.out, Hlen.out]; simpa using own5, HbN.out.trans b5⟩
          clear own5 g5 b5 HkN HbN HTN
          go_wp2_with fail
          exact ⟨⟨k + 1, by omega, by go_num, congrArg (Value.int .i64) (by rw [← Hq.out]; omega), H5.out.1, H5.out.2⟩, by simp [intOf]; omega⟩
        · have h7 : k = 7 := by omega
          have Ht7 : Hid (TextAt wr at_ 8 ct (toZ (Sha.nbe 8 (8 * bs.length)))) := hid (by rw [h7] at hTt; exact hTt)
          have hk1 : k + 1 = 8 := by omega
          rw [hk1]
          have Ho := hid (Hown.out.below bel)
          have Hb := hid (Hbel.out.trans (bel.mono hszw))
          have hsz2 := Hb.out.size
          have H7 := hid h7
          clear hTt hown bel h7 hk1
          go_wp2_with (at_builtin; refine wpList_append_text rfl (.tmp 44) (.tmp 45) rfl Tryd.underlying29 hi hz0 hz1 hz2 rfl Ho.out rfl Ht7.out ?c1 ?c2 ?_)
          case c1 => rw [List.length_append, List.length_cons, List.length_replicate]; have := Hlen.out; omega
          case c2 => exact hsz2
          intro v5 w5 own5 g5 b5
          have H5 : Hid (OwnB w5 w.heap.size 5 v5 (toZ (Sha.pad (natB bs))) ∧ Below w.heap.size w w5) := hid (by
            refine ⟨?_, Hb.out.trans b5⟩
            have hpos := HT.out.small
            have hnl : (natB bs).length = bs.length := by simp [natB]
            have eb : toZ (natB bs) = bs := toZ_natB hpos
            have e : toZ (Sha.pad (natB bs)) = (bs ++ 128 :: List.replicate z 0) ++ toZ (Sha.nbe 8 (8 * bs.length)) := by
              rw [Sha.pad, hnl, Hzz.out]
              unfold toZ at *
              rw [List.map_append, eb, List.map_cons, List.map_append, List.map_replicate]
              simp
            rw [e, Hlen.out, List.append_assoc, List.cons_append]
            exact own5)
          clear own5 g5 b5 Ho Hb Ht7
          go_wp2_with fail
          go_ret
          exact ⟨_, rfl, H5.out⟩
    · have hq2 : ¬ (((len : Int) + 1 + (z : Int)) % 64) = 56 := by omega
      have own' := Hown.out.below ((Below.refl wr.heap.size wr).alloc (Nat.le_refl _) (Obj.cells #[.int .u8 0] 5))
      have kT : TextAt (wr.alloc (Obj.cells #[.int .u8 0] 5)) (some ⟨wr.heap.size, 0, none⟩) 1 1 [0] := TextAt.of_ints (T := 5) (Blk.new rfl _ _) rfl (by omega) (by simp)
      have bel' := Hbel.out.alloc Hbel.out.size (Obj.cells #[.int .u8 0] 5)
      have Hown' := hid own'
      have HkT := hid kT
      have Hbel' := hid bel'
      clear own' bel' kT
      go_wp2_with (at_builtin; refine wpList_append_text rfl (.tmp 17) (.tmp 18) rfl Tryd.underlying29 hi hz0 hz1 hz2 rfl Hown'.out rfl HkT.out ?c1 ?c2 ?_)
      case c1 => simp; omega
      case c2 => exact Hbel'.out.size
      intro v3 w3 own3 g3 b3
      have hz' : z + 1 ≤ Sha.zerosFor bs.length := by
        have := Hz.out
        have := Hlen.out
        unfold Sha.zerosFor at *
        omega
      have Hn : Hid (OwnB w3 w.heap.size 5 v3 (bs ++ 128 :: List.replicate (z + 1) 0) ∧ Below w.heap.size w w3) := hid ⟨by rw [List.replicate_succ']; simpa using own3, Hbel'.out.trans b3⟩
      obtain ⟨a3, c3, rfl, _, _⟩ := Hn.out.1.text
      have hl3 : (bs ++ 128 :: List.replicate (z + 1) (0 : Int)).length = len + 1 + z + 1 := by rw [List.length_append, List.length_cons, List.length_replicate, Hlen.out]; omega
      rw [hl3] at Hn
      rw [hl3]
      clear own3 g3 b3 HkT Hown' Hbel' hl3
      have hlb := Hlen.out
      go_wp2_with fail
      exact ⟨⟨z + 1, hz', Hn.out.1, Hn.out.2⟩, by simp only [sliceLen]; omega⟩
end Go.Proofs.YtkakoiaahgchmaaDoor
namespace Go.Proofs.YtkakoiaahgchmaaDoor
set_option maxRecDepth 100000
open Go.ChangeShapes Go.WideShapes Go.ChangeAt Go.RowKit
set_option maxHeartbeats 2000000 in
theorem keys_any (w : World) : Calls Tryd.prog 68 #[] w fun e w' => ∃ g, e = .returned (.slice (some ⟨g, 0, none⟩) 64 64) ∧ w.heap.size ≤ g ∧ Blk w' g (wordCells 64 Sha.keys) 103 ∧ Below w.heap.size w w' := by
  have hk := Blk.new (w := w) rfl (wordCells 64 Sha.keys) 103
  have hb := (Below.refl w.heap.size w).alloc (Nat.le_refl _) (.cells (wordCells 64 Sha.keys) 103 (0, 0))
  have Hk := hid (And.intro hk hb)
  clear hk hb
  go_enter Tryd.func68, Tryd.ntmps68
  go_wp2_with fail
  go_ret
  exact ⟨w.heap.size, rfl, Nat.le_refl _, Hk.out.1, Hk.out.2⟩
end Go.Proofs.YtkakoiaahgchmaaDoor
namespace Go.Proofs.YtkakoiaahgchmaaDoor
set_option maxRecDepth 100000
open Go.ChangeShapes Go.WideShapes Go.ChangeAt Go.RowKit
/-- a slice whose first eight cells are a state -/
def VAt (w : World) (B : Nat) (v : Value) (st : Sha.St) : Prop := ∃ g cap cur, v = .slice (some ⟨g, 0, none⟩) 8 cap ∧ B ≤ g ∧ 8 ≤ cap ∧ cap ≤ 9223372036854775807 ∧ Blk w g cur 103 ∧ ∀ j, j < 8 → cur[j]? = some (.int .u32 ((words st).getD j 0 : Nat))
theorem words_cell (st : Sha.St) (j : Nat) (hj : j < 8) : (stCells st)[j]? = some (.int .u32 ((words st).getD j 0 : Nat)) := by
  have hl : j < (words st).length := hj
  rw [stCells_words, List.getElem?_map, List.getD_eq_getElem?_getD, List.getElem?_eq_getElem hl]
  rfl
theorem VAt.of_owns {w : World} {B : Nat} {v : Value} {st : Sha.St} (h : w.ownsRow B 103 1 v 8 (stCells st)) : VAt w B v st := by
  obtain ⟨_, ⟨_, h⟩ | ⟨g, cap, cur, rfl, hg, hh, hle, hmx, _, htk⟩⟩ := h
  · omega
  · refine ⟨g, cap, cur, rfl, hg, hle, by unfold maxLen at hmx; omega, hh, fun j hj => ?_⟩
    rw [← words_cell st j hj, ← htk, List.getElem?_take, if_pos (by omega)]
    simp
/-- the first i words added -/
def mixW (s r : Sha.St) (i : Nat) : List Nat := (words (Sha.add s r)).take i ++ (words s).drop i
def mixCells (s r : Sha.St) (i : Nat) : Array Value := ((mixW s r i).map fun n : Nat => Value.int .u32 n).toArray
theorem mix_zero (s r : Sha.St) : mixCells s r 0 = (stCells s).toArray := rfl
theorem mix_all (s r : Sha.St) : mixCells s r 8 = (stCells (Sha.add s r)).toArray := rfl
theorem mix_get (s r : Sha.St) (i : Nat) (hi : i < 8) : (mixCells s r i)[i]? = some (.int .u32 ((words s).getD i 0 : Nat)) := by
  match i, hi with
  | 0, _ => rfl
  | 1, _ => rfl
  | 2, _ => rfl
  | 3, _ => rfl
  | 4, _ => rfl
  | 5, _ => rfl
  | 6, _ => rfl
  | 7, _ => rfl
theorem mix_set (s r : Sha.St) (i : Nat) (hi : i < 8) (V : Int) (hV : V = (((words s).getD i 0 + (words r).getD i 0) % 4294967296 : Nat)) : (mixCells s r i).setIfInBounds i (.int .u32 V) = mixCells s r (i + 1) := by
  subst hV
  match i, hi with
  | 0, _ => rfl
  | 1, _ => rfl
  | 2, _ => rfl
  | 3, _ => rfl
  | 4, _ => rfl
  | 5, _ => rfl
  | 6, _ => rfl
  | 7, _ => rfl
theorem right_q {w : World} {x0 : Ext w} (x n : Nat) (p q : Int) (hx : x < 4294967296) (h2 : n ≤ 31) (hp : p = ((2 ^ n : Nat) : Int)) (hq : q = ((2 ^ (32 - n) : Nat) : Int)) :
    Calls Tryd.prog 70 #[.int .u32 x, .int .u32 p, .int .u32 q] x0.at_ fun e w'' => e = .returned (.int .u32 (Sha.rotr n x : Nat)) ∧ ∃ y : Ext w, w'' = y.at_ :=
  Calls.ext (right_any x n p q _ hx h2 hp hq)
theorem pad_length (bs : List Nat) : (Sha.pad bs).length % 64 = 0 ∧ (Sha.pad bs).length ≤ bs.length + 72 := by
  unfold Sha.pad
  have : Sha.zerosFor bs.length = (119 - bs.length % 64) % 64 := rfl
  rw [List.length_append, List.length_cons, List.length_append, List.length_replicate, nbe_length]
  omega
theorem info_word : (Tryd.prog.info? 103).map (fun i => (i.zero, i.size, i.bytes)) = some (some (.int .u32 0), 1, 4) := by kernel_rfl
/-- a block of a text -/
def blkOf (l : List Nat) (k : Nat) : List Nat := (l.drop (64 * k)).take 64
theorem blkOf_get (l : List Nat) (k j : Nat) (hj : j < 64) : (toZ l).getD (64 * k + j) 0 = ((blkOf l k).getD j 0 : Nat) := by
  unfold blkOf toZ
  simp only [List.getD_eq_getElem?_getD, List.getElem?_map, List.getElem?_take, if_pos hj, List.getElem?_drop]
  cases l[64 * k + j]? <;> rfl
theorem blkOf_lt {l : List Nat} (hl : ∀ x ∈ l, x < 256) (k j : Nat) : (blkOf l k).getD j 0 < 256 := by
  rw [List.getD_eq_getElem?_getD]
  cases h : (blkOf l k)[j]? with
  | none => simp
  | some x =>
    have := List.mem_of_getElem? h
    exact hl x (List.mem_of_mem_drop (List.mem_of_mem_take this))
/-- the reference's memory at the head of its loop -/
structure RefW (w : World) (gk : Nat) (ap : Option Addr) (cp : Nat) (P : List Int) (st : Sha.St) (wr : World) : Prop where
  ks : Blk wr (w.heap.size + 1) (stCells st).toArray 103
  kk : Blk wr gk (wordCells 64 Sha.keys) 103
  txt : TextAt wr ap P.length cp P
  res : Blk wr w.heap.size (byteCells 32 []) 23
  bel : Below w.heap.size w wr
  gkl : w.heap.size + 2 ≤ gk
  apl : ∀ p : Addr, ap = some p → w.heap.size + 2 ≤ p.block
theorem RefW.below {w : World} {gk : Nat} {ap : Option Addr} {cp : Nat} {P : List Int} {st : Sha.St} {wr wr' : World} (h : RefW w gk ap cp P st wr) (hb : Below wr.heap.size wr wr') : RefW w gk ap cp P st wr' :=
  ⟨h.ks.below hb, h.kk.below hb, h.txt.below hb, h.res.below hb, Below.on h.bel hb, h.gkl, h.apl⟩
theorem RefW.put {w : World} {gk : Nat} {ap : Option Addr} {cp : Nat} {P : List Int} {st st' : Sha.St} {wr wr' : World} (h : RefW w gk ap cp P st wr) (hb : But (w.heap.size + 1) wr wr') (hk : Blk wr' (w.heap.size + 1) (stCells st').toArray 103) : RefW w gk ap cp P st' wr' :=
  ⟨hk, hb.blk h.kk (by have := h.gkl; omega), h.txt.but hb (fun _ p hp => by have := h.apl p hp; omega), hb.blk h.res (by omega), hb.below h.bel h.bel.size (by omega), h.gkl, h.apl⟩
/-- what a round reads -/
structure RndW (wd : World) (g : Nat) (cur : Array Value) (gw : Nat) (WS : List Nat) (gk : Nat) : Prop where
  v : Blk wd g cur 103
  w : Blk wd gw (wordCells 64 WS) 103
  k : Blk wd gk (wordCells 64 Sha.keys) 103
theorem RndW.below {w w' : World} {g : Nat} {cur : Array Value} {gw : Nat} {WS : List Nat} {gk : Nat} (h : RndW w g cur gw WS gk) (hb : Below w.heap.size w w') : RndW w' g cur gw WS gk := ⟨h.v.below hb, h.w.below hb, h.k.below hb⟩
end Go.Proofs.YtkakoiaahgchmaaDoor
namespace Go.Proofs.YtkakoiaahgchmaaDoor
set_option maxRecDepth 100000
open Go.ChangeShapes Go.WideShapes Go.ChangeAt Go.RowKit
set_option maxHeartbeats 8000000 in
theorem refsum_any (a : Option Addr) (len cap : Nat) (bs : List Int) (w : World) (hT : TextAt w a len cap bs) (hbnd : len ≤ 140737488340000) :
    Calls Tryd.prog 40 #[.slice a len cap] w fun e w' => e = .returned (.agg ((sumZ bs).map (Value.int .u8)).toArray) ∧ Below w.heap.size w w' := by
  have HT := hid hT
  have hbl := hT.length
  have hpl := pad_length (natB bs)
  have hnl : (natB bs).length = bs.length := by simp [natB]
  have Hpl := hid hpl
  have Hnl := hid hnl
  have Hbl := hid hbl
  have Hkr := hid ((Blk.new (w := w) rfl (byteCells 32 []) 23).old (.cells (stCells Sha.start).toArray 103 (0, 0)))
  have HbA := hid (((Below.refl w.heap.size w).alloc (Nat.le_refl _) (.cells (byteCells 32 []) 23 (0, 0))).alloc (by rw [World.size_alloc]; omega) (.cells (stCells Sha.start).toArray 103 (0, 0)))
  have Hks := hid (Blk.new (w := w.alloc (.cells (byteCells 32 []) 23 (0, 0))) rfl (stCells Sha.start).toArray 103)
  clear hT hpl hnl hbl
  go_enter Tryd.func40, Tryd.ntmps40
  go_wp2_with fail
  refine (keys_any _).mono ?_
  rintro e w1 ⟨gk, rfl, hgk, kk, b1⟩
  rw [World.size_alloc, World.size_alloc] at hgk
  have Hkk := hid kk
  have Hkr1 := hid (Hkr.out.below b1)
  have Hks1 := hid (Hks.out.below b1)
  have Hb1 := hid (Below.on HbA.out b1)
  have b1s : w.heap.size + 2 ≤ w1.heap.size := by have := b1.size; rw [World.size_alloc, World.size_alloc] at this; omega
  clear kk b1 Hkr HbA Hks
  rw [World.size_alloc] at Hks1
  go_wp2_with fail
  refine (padded_any a len cap bs w1 (HT.out.below Hb1.out) (by omega)).mono ?_
  rintro e w2 ⟨vp, rfl, own2, b2⟩
  obtain ⟨ap, cp, rfl, hTp, hap⟩ := own2.text2
  have hapl : ∀ p : Addr, ap = some p → w.heap.size + 2 ≤ p.block := fun p hp => by have := (hap p hp).1; have := b1s; omega
  clear hap b1s
  have hPl : (toZ (Sha.pad (natB bs))).length = (Sha.pad (natB bs)).length := by rw [toZ, List.length_map]
  rw [hPl] at hTp
  rw [hPl]
  have Hkk2 := hid (Hkk.out.below b2)
  have Hkr2 := hid (Hkr1.out.below b2)
  have Hks2 := hid (Hks1.out.below b2)
  have Hb2 := hid (Below.on Hb1.out b2)
  have HTp := hid hTp
  clear own2 b2 hTp hPl Hkk Hkr1 Hks1 Hb1
  have HW2 : Hid (RefW w gk ap cp (toZ (Sha.pad (natB bs))) Sha.start w2) := hid ⟨Hks2.out, Hkk2.out, by rw [toZ, List.length_map]; exact HTp.out, Hkr2.out, Hb2.out, hgk, hapl⟩
  clear hapl hgk Hkk2 Hkr2 Hks2 Hb2
  obtain ⟨NB, hNB⟩ : ∃ NB, (Sha.pad (natB bs)).length = 64 * NB := ⟨(Sha.pad (natB bs)).length / 64, by have := Hpl.out.1; omega⟩
  have hNBb : 64 * NB ≤ len + 72 := by have := Hpl.out.2; have := Hnl.out; have := Hbl.out; omega
  have HNB := hid hNB
  rw [hNB]
  rw [hNB] at HTp
  have hcp := HTp.out.le
  have hcm := HTp.out.max
  clear hNB
  go_wp2_with fail
  go_loopw [6] (fun v wr => ∃ k : Nat, k ≤ NB ∧ v = .int .i64 (64 * k : Nat) ∧ RefW w gk ap cp (toZ (Sha.pad (natB bs))) (Sha.run Sha.start (Sha.pad (natB bs)) k) wr) (fun v _ => 64 * NB - (intOf v).toNat)
  case atStart => exact ⟨0, Nat.zero_le _, rfl, HW2.out⟩
  case round =>
    obtain ⟨k, hk, rfl, hW⟩ := hrel
    have HW := hid hW
    clear hW HW2
    by_cases hlt : k < NB
    · --<<
      have hc1 : ((64 * k : Nat) : Int) < 64 * (NB : Int) := by omega
      obtain ⟨iw, hi, hz0, hz1, hz2⟩ := info_parts info_word
      have hb0 := HW.out.bel.size
      go_wp2_with (at_make; refine wpList_make_full _ rfl _ _ 104 rfl wr.heap.size 103 iw (.int .u32 0) 1 Tryd.underlying104 hi hz0 hz1 _ _ _ _ 64 rfl rfl rfl rfl ?a3 ?a4 ?a5 ?_)
      case a3 => rw [hz2]; omega
      case a4 => unfold maxLen; omega
      case a5 => simp
      intro w3 hown hgrow
      obtain ⟨_, kB⟩ := blk_of_owns hown
      have e64 : (madeCells #[Value.int IntKind.u32 0] 64).toList.toArray = wordCells 64 [] := by kernel_rfl
      rw [e64] at kB
      have hB3 : Below wr.heap.size wr w3 := ⟨hgrow.os, hgrow.tape, hgrow.output, hgrow.size, fun k hk => hgrow.block k hk (by simp)⟩
      have HkB := hid kB
      have HB3 := hid hB3
      have hlen0 : 0 < (toZ (Sha.pad (natB bs))).length := by have := HNB.out; simp only [toZ, List.length_map]; omega
      obtain ⟨x, o, rfl, hx, hc⟩ := HW.out.txt.at_ hlen0
      have HL : Hid ((toZ (Sha.pad (natB bs))).length = 64 * NB) := hid (by rw [toZ, List.length_map]; exact HNB.out)
      rw [HL.out] at hc
      have Hc := hid hc
      have HPs : Hid (∀ x ∈ Sha.pad (natB bs), x < 256) := hid (fun x hx => by
        have := HW.out.txt.small (x : Int) (by simp only [toZ, List.mem_map]; exact ⟨x, hx, rfl⟩)
        omega)
      have hszo := HB3.out.size
      have HQ : Hid (∀ j, j < 64 → wr.cell? ⟨x, o + (64 * k + j), none⟩ = some (Value.int .u8 ((blkOf (Sha.pad (natB bs)) k).getD j 0 : Nat))) := hid fun j hj => by
        rw [Hc.out (64 * k + j) (by omega), blkOf_get _ _ _ hj]
      have HBl : Hid (∀ j, (blkOf (Sha.pad (natB bs)) k).getD j 0 < 256) := hid (blkOf_lt HPs.out k)
      have HRun : Hid (Sha.run Sha.start (Sha.pad (natB bs)) (k + 1) = Sha.add (Sha.run Sha.start (Sha.pad (natB bs)) k) (Sha.rounds (Sha.sched (blkOf (Sha.pad (natB bs)) k) 64) (Sha.run Sha.start (Sha.pad (natB bs)) k) 64)) := hid (by simp only [Sha.run, Sha.compress, blkOf])
      have HOk : Hid (Ok (Sha.run Sha.start (Sha.pad (natB bs)) k)) := hid (Ok.run Ok.start _ k)
      generalize blkOf (Sha.pad (natB bs)) k = BL at HQ HBl HRun
      generalize Sha.run Sha.start (Sha.pad (natB bs)) k = st at HW HRun HOk
      clear Hc HPs
      generalize hwo : wr = wo at *
      clear e64 hwo hown hgrow kB hB3 hc hlen0
      go_wp2_with fail
      go_loopw [8] (fun v wq => ∃ t : Nat, t ≤ 16 ∧ v = .int .i64 t ∧ Blk wq wo.heap.size (wordCells 64 (Sha.sched BL t)) 103 ∧ Below wo.heap.size wo wq) (fun v _ => 16 - (intOf v).toNat)
      case atStart => exact ⟨0, Nat.zero_le _, rfl, HkB.out, HB3.out⟩
      case round =>
        obtain ⟨t, ht, rfl, kW, bW⟩ := hrel
        by_cases hlt2 : t < 16
        · --<
          have hl := sched_length BL t
          have HSc := hid (show Sha.sched BL (t + 1) = Sha.sched BL t ++ [BL.getD (4 * t) 0 * 16777216 + BL.getD (4 * t + 1) 0 * 65536 + BL.getD (4 * t + 2) 0 * 256 + BL.getD (4 * t + 3) 0] by rw [Sha.sched, if_pos hlt2]; rfl)
          have hq : ∀ j, j < 64 → wr.cell? ⟨x, o + (64 * k + j), none⟩ = some (Value.int .u8 (BL.getD j 0 : Nat)) := fun j hj => by
            rw [bW.cell (p := ⟨x, o + (64 * k + j), none⟩) hx, HQ.out j hj]
          have q0 := hq (4 * t) (by omega)
          have q1 := hq (4 * t + 1) (by omega)
          have q2 := hq (4 * t + 2) (by omega)
          have q3 := hq (4 * t + 3) (by omega)
          have b0 := HBl.out (4 * t)
          have b1 := HBl.out (4 * t + 1)
          have b2 := HBl.out (4 * t + 2)
          have b3 := HBl.out (4 * t + 3)
          have hz : wr.cell? ⟨wo.heap.size, t, none⟩ = some (.int .u32 0) := by rw [kW.cell]; have := wordCells_zero 64 (Sha.sched BL t) (by omega); rwa [hl] at this
          have e0 : (64 * (k : Int) + 4 * (t : Int)).toNat = 64 * k + 4 * t := by omega
          have e1 : (64 * (k : Int) + 4 * (t : Int) + 1).toNat = 64 * k + (4 * t + 1) := by omega
          have e2 : (64 * (k : Int) + 4 * (t : Int) + 2).toNat = 64 * k + (4 * t + 2) := by omega
          have e3 : (64 * (k : Int) + 4 * (t : Int) + 3).toNat = 64 * k + (4 * t + 3) := by omega
          have hb5 := bW.size
          clear hq
          generalize BL.getD (4 * t) 0 = y0 at *
          generalize BL.getD (4 * t + 1) 0 = y1 at *
          generalize BL.getD (4 * t + 2) 0 = y2 at *
          generalize BL.getD (4 * t + 3) 0 = y3 at *
          have hxr : x < wr.heap.size := by omega
          go_wp2_with fail
          refine wp_region_flow 32 (List.range 32) [] [] (by kernel_rfl) (by kernel_rfl) ?_
          apply Exists.intro
          refine ⟨fun w0 hb0 hF0 => ?_, ?_⟩
          · have key : ∀ (e : Ext w0) (p : Nat) (v : Value), wr.cell? ⟨x, p, none⟩ = some v → e.at_.cell? ⟨x, p, none⟩ = some v := fun e p v h => by
              rw [(Below.on hb0 e.same).cell (p := ⟨x, p, none⟩) hxr]; exact h
            have k0 := fun e => key e _ _ q0
            have k1 := fun e => key e _ _ q1
            have k2 := fun e => key e _ _ q2
            have k3 := fun e => key e _ _ q3
            clear key
            simp only [pick, List.range, List.range.loop, List.getElem?_toArray, List.getElem?_cons_succ, List.getElem?_cons_zero, Option.toList_some, List.cons_append, List.nil_append]
            repeat (go_big_quiet_step (fail))
            exact wpQuiet_nil rfl
          refine AlChk.nil ?_
          refine Walk.fin fun w4 h4 _ _ => ?_
          simp only [List.drop_succ_cons, List.drop_zero]
          have kW4 := kW.below h4
          have bW4 := Below.on bW h4
          have f1 := kW4.free
          have hz4 : w4.cell? ⟨wo.heap.size, t, none⟩ = some (.int .u32 0) := by rw [kW4.cell, ← kW.cell]; exact hz
          clear kW bW hz h4 q0 q1 q2 q3
          go_wp2_with fail
          have ev : ((y0 : Int) * 16777216 + (y1 : Int) * 65536 + (y2 : Int) * 256 + (y3 : Int)) = ((y0 * 16777216 + y1 * 65536 + y2 * 256 + y3 : Nat) : Int) := by omega
          have kW5 := kW4.set t (.int .u32 ((y0 : Int) * 16777216 + (y1 : Int) * 65536 + (y2 : Int) * 256 + (y3 : Int)))
          have := wordCells_set 64 (Sha.sched BL t) (y0 * 16777216 + y1 * 65536 + y2 * 256 + y3) (by omega)
          rw [hl, ← HSc.out] at this
          rw [ev, this] at kW5
          refine ⟨⟨t + 1, by omega, by go_num, ?_, bW4.setCell (p := ⟨wo.heap.size, t, none⟩) (Nat.le_refl _) _⟩, by simp [intOf]; omega⟩
          rw [ev]
          exact kW5
          -->
        · have h16 : 16 = t := by omega
          rw [← h16] at kW
          have H16 := hid h16
          clear h16
          go_wp2_with fail
          clear ht hlt2
          go_loopw [10] (fun v wr => ∃ m : Nat, 16 ≤ m ∧ m ≤ 64 ∧ v = .int .i64 m ∧ Blk wr wo.heap.size (wordCells 64 (Sha.sched BL m)) 103 ∧ Below wo.heap.size wo wr) (fun v _ => 64 - (intOf v).toNat)
          case atStart => exact ⟨16, by omega, by omega, rfl, kW, bW⟩
          case round =>
            clear kW bW
            obtain ⟨m, hm0, hm, rfl, kW, bW⟩ := hrel
            by_cases hlt3 : m < 64
            · --<
              have hl := sched_length BL m
              have HS := hid (show Sha.sched BL (m + 1) = Sha.sched BL m ++ [Sha.next (Sha.sched BL m) m] by rw [Sha.sched, if_neg (by omega)])
              have q15 := wordCells_get 64 (Sha.sched BL m) (m - 15) (by omega)
              have q2 := wordCells_get 64 (Sha.sched BL m) (m - 2) (by omega)
              have q7 := wordCells_get 64 (Sha.sched BL m) (m - 7) (by omega)
              have q16 := wordCells_get 64 (Sha.sched BL m) (m - 16) (by omega)
              rw [← kW.cell] at q15 q2 q7 q16
              have hz : wr.cell? ⟨wo.heap.size, m, none⟩ = some (.int .u32 0) := by rw [kW.cell]; have := wordCells_zero 64 (Sha.sched BL m) (by omega); rwa [hl] at this
              have hbw := sched_lt BL HBl.out m
              have l15 := hbw (m - 15)
              have l2 := hbw (m - 2)
              have l7 := hbw (m - 7)
              have l16 := hbw (m - 16)
              have HN : Hid (Sha.next (Sha.sched BL m) m = (Sha.s1 ((Sha.sched BL m).getD (m - 2) 0) + (Sha.sched BL m).getD (m - 7) 0 + Sha.s0 ((Sha.sched BL m).getD (m - 15) 0) + (Sha.sched BL m).getD (m - 16) 0) % 4294967296) := hid rfl
              generalize (Sha.sched BL m).getD (m - 15) 0 = x15 at *
              generalize (Sha.sched BL m).getD (m - 2) 0 = x2 at *
              generalize (Sha.sched BL m).getD (m - 7) 0 = x7 at *
              generalize (Sha.sched BL m).getD (m - 16) 0 = x16 at *
              have e1 : ((m : Int) - 15).toNat = m - 15 := by omega
              have e2 : ((m : Int) - 2).toNat = m - 2 := by omega
              have e3 : ((m : Int) - 7).toNat = m - 7 := by omega
              have e4 : ((m : Int) - 16).toNat = m - 16 := by omega
              have hbs := bW.size
              clear hbw
              go_wp2_with fail
              refine wp_region_flow 32 (List.range 32) [] [] (by kernel_rfl) (by kernel_rfl) ?_
              apply Exists.intro
              refine ⟨fun w0 hb0 hF0 => ?_, ?_⟩
              · have key : ∀ (e : Ext w0) (p : Nat) (v : Value), wr.cell? ⟨wo.heap.size, p, none⟩ = some v → e.at_.cell? ⟨wo.heap.size, p, none⟩ = some v := fun e p v h => by
                  rw [((kW.below hb0).below e.same).cell, ← kW.cell]; exact h
                have k7 := fun e => key e _ _ q7
                have k16 := fun e => key e _ _ q16
                have bs0 := bits_s0 x15 l15
                have bs1 := bits_s1 x2 l2
                have m0 := s0_lt x15 l15
                have m1 := s1_lt x2 l2
                clear key
                simp only [pick, List.range, List.range.loop, List.getElem?_toArray, List.getElem?_cons_succ, List.getElem?_cons_zero, Option.toList_some, List.cons_append, List.nil_append]
                repeat (go_big_quiet_step (first | (go_at_call 70; exact right_q _ 17 _ _ l2 (by decide) (by decide) (by decide)) | (go_at_call 70; exact right_q _ 19 _ _ l2 (by decide) (by decide) (by decide)) | (go_at_call 70; exact right_q _ 7 _ _ l15 (by decide) (by decide) (by decide)) | (go_at_call 70; exact right_q _ 18 _ _ l15 (by decide) (by decide) (by decide))))
                exact wpQuiet_nil rfl
              refine AlChk.nil ?_
              refine Walk.fin fun w4 h4 _ _ => ?_
              simp only [List.drop_succ_cons, List.drop_zero]
              have kW4 := kW.below h4
              have bW4 := Below.on bW h4
              have f1 := kW4.free
              have hz4 : w4.cell? ⟨wo.heap.size, m, none⟩ = some (.int .u32 0) := by rw [kW4.cell, ← kW.cell]; exact hz
              have hfin : ∀ V : Int, V = ((Sha.s1 x2 + x7 + Sha.s0 x15 + x16) % 4294967296 : Nat) → Blk (w4.setCell ⟨wo.heap.size, m, none⟩ (.int .u32 V)) wo.heap.size (wordCells 64 (Sha.sched BL (m + 1))) 103 := fun V hV => by
                subst hV
                have := wordCells_set 64 (Sha.sched BL m) ((Sha.s1 x2 + x7 + Sha.s0 x15 + x16) % 4294967296) (by omega)
                rw [hl] at this
                rw [HS.out, HN.out, ← this]
                exact kW4.set m _
              have Hfin := hid hfin
              clear q15 q2 q7 q16 kW bW hz h4 hfin
              go_wp2_with fail
              exact ⟨⟨m + 1, by omega, by omega, by go_num, Hfin.out _ (by omega), bW4.setCell (p := ⟨wo.heap.size, m, none⟩) (Nat.le_refl _) _⟩, by simp [intOf]; omega⟩
              -->
            · have h64 : m = 64 := by omega
              rw [h64] at kW
              have H64 := hid h64
              have kS := HW.out.ks.below bW
              have HkW := hid kW
              have HbW := hid bW
              have hsz2 := bW.size
              have hlt0 := kS.lt
              have kSa := kS.old (Obj.cells #[] 103)
              have HkS := hid kSa
              have HbWa := hid (bW.alloc bW.size (Obj.cells #[] 103))
              have HkWa := hid (kW.old (Obj.cells #[] 103))
              have own0 : (wr.alloc (Obj.cells #[] 103)).ownsRow wo.heap.size 103 1 (.slice (some ⟨wr.heap.size, 0, none⟩) 0 0) 0 [] :=
                ⟨by simp, .inr ⟨wr.heap.size, 0, #[], rfl, hsz2, Blk.new rfl _ _, Nat.le_refl _, by unfold maxLen; omega, by simp, by simp⟩⟩
              have Hown0 := hid own0
              clear kW bW kS kSa own0 h64
              go_wp2_with (at_builtin; refine wpList_append_own _ rfl _ _ 104 rfl wo.heap.size 103 iw (.int .u32 0) 1 4 Tryd.underlying104 hi hz0 hz1 hz2 rfl (by decide) (.slice (some ⟨wr.heap.size, 0, none⟩) 0 0) 0 _ rfl Hown0.out ⟨w.heap.size + 1, 0, none⟩ 8 8 (stCells st) rfl rfl ?c1 ?c2 ?c3 ?c4 ?c5 ?_)
              case c1 => exact news_blk HkS.out
              case c2 => simp [stCells, Value.oneCell']
              case c3 => unfold maxLen; omega
              case c4 => omega
              case c5 => rw [World.size_alloc]; omega
              intro v5 w5 own5 g5 _
              have hlt5 := Hown0.out.lt
              have b5 : Below wo.heap.size wo w5 := HbWa.out.grown g5 (by rw [World.size_alloc]; omega) (fun q hq => (hlt5 q hq).1)
              have k5 : Blk w5 wo.heap.size (wordCells 64 (Sha.sched BL 64)) 103 := HkWa.out.grown g5 (fun q hq => by
                simp only [Value.ownBlock, Option.some.injEq] at hq
                have := HkW.out.lt
                omega)
              have H5 := hid (And.intro (VAt.of_owns own5) (And.intro k5 b5))
              have HWl := hid (sched_length BL 64)
              have HWlt := hid (sched_lt BL HBl.out 64)
              clear own5 g5 hlt5 b5 k5 Hown0 HkS HbWa HkWa HkW HbW HkB HB3
              generalize Sha.sched BL 64 = WS at *
              go_wp2_with fail
              clear hm hlt3 hm0
              go_loopw [13, 14] (fun v i wr => ∃ j : Nat, j ≤ 64 ∧ i = .int .i64 j ∧ VAt wr wo.heap.size v (Sha.rounds WS st j) ∧ Blk wr wo.heap.size (wordCells 64 WS) 103 ∧ Below wo.heap.size wo wr) (fun _ i _ => 64 - (intOf i).toNat)
              case atStart => exact ⟨0, Nat.zero_le _, rfl, H5.out.1, H5.out.2.1, H5.out.2.2⟩
              case round =>
                clear H5
                obtain ⟨j, hj, rfl, ⟨g, cap, cur, rfl, hgB, hc8, hcm, kV, hcur⟩, kW, bW⟩ := hrel
                by_cases hlt4 : j < 64
                · --<
                  have hR : RndW wr g cur wo.heap.size WS gk := ⟨kV, kW, HW.out.kk.below bW⟩
                  have qW := wordCells_get 64 WS j (by have := HWl.out; omega)
                  have qK := wordCells_get 64 Sha.keys j (by simp [Sha.keys]; omega)
                  have lW := HWlt.out j
                  have lK := keys_lt j
                  have HR : Hid (Sha.rounds WS st (j + 1) = Sha.round (Sha.keys.getD j 0) (WS.getD j 0) (Sha.rounds WS st j)) := hid rfl
                  have ok := HOk.out.rounds WS j
                  generalize Sha.keys.getD j 0 = K at *
                  generalize WS.getD j 0 = W at *
                  generalize Sha.rounds WS st j = r at *
                  obtain ⟨xa, xb, xc, xd, xe, xf, xg, xh⟩ := r
                  obtain ⟨oa, ob, oc, od, oe, of, og, oh⟩ := ok
                  simp only [] at oa ob oc od oe of og oh
                  have u0 : cur[0]? = some (.int .u32 (xa : Nat)) := hcur 0 (by omega)
                  have u1 : cur[1]? = some (.int .u32 (xb : Nat)) := hcur 1 (by omega)
                  have u2 : cur[2]? = some (.int .u32 (xc : Nat)) := hcur 2 (by omega)
                  have u3 : cur[3]? = some (.int .u32 (xd : Nat)) := hcur 3 (by omega)
                  have u4 : cur[4]? = some (.int .u32 (xe : Nat)) := hcur 4 (by omega)
                  have u5 : cur[5]? = some (.int .u32 (xf : Nat)) := hcur 5 (by omega)
                  have u6 : cur[6]? = some (.int .u32 (xg : Nat)) := hcur 6 (by omega)
                  have u7 : cur[7]? = some (.int .u32 (xh : Nat)) := hcur 7 (by omega)
                  have a0 := (hR.v.cell 0).trans u0
                  have a4 := (hR.v.cell 4).trans u4
                  have HbW := hid bW
                  have hszr := bW.size
                  have HR0 := hid hR
                  have Hu0 := hid u0
                  have Hu1 := hid u1
                  have Hu2 := hid u2
                  have Hu3 := hid u3
                  have Hu5 := hid u5
                  have Hu6 := hid u6
                  have Hu7 := hid u7
                  have HqW := hid qW
                  have HqK := hid qK
                  clear hcur kV kW bW hR u0 u1 u2 u3 u4 u5 u6 u7 qW qK
                  go_wp2_with fail
                  clear a0 a4
                  refine wp_region_flow 13 (List.range 13) [] [] (by kernel_rfl) (by kernel_rfl) ?_
                  apply Exists.intro
                  refine ⟨fun w0 hb0 hF0 => ?_, ?_⟩
                  · have c5 : ∀ e : Ext w0, e.at_.cell? ⟨g, 5, none⟩ = some (.int .u32 (xf : Nat)) := fun e => (((HR0.out.below hb0).below e.same).v.cell 5).trans Hu5.out
                    have c6 : ∀ e : Ext w0, e.at_.cell? ⟨g, 6, none⟩ = some (.int .u32 (xg : Nat)) := fun e => (((HR0.out.below hb0).below e.same).v.cell 6).trans Hu6.out
                    have bc := bits_ch_ref oe of og
                    simp only [pick, List.range, List.range.loop, List.getElem?_toArray, List.getElem?_cons_succ, List.getElem?_cons_zero, Option.toList_some, List.cons_append, List.nil_append]
                    repeat (go_big_quiet_step (fail))
                    exact wpQuiet_nil rfl
                  refine AlChk.nil ?_
                  refine Walk.fin fun w6 h6 _ _ => ?_
                  simp only [List.drop_succ_cons, List.drop_zero]
                  have HR6 := hid (HR0.out.below h6)
                  have Hb6 := hid (Below.on HbW.out h6)
                  clear h6
                  go_wp2_with fail
                  refine wp_region_flow 20 (List.range 20) [] [] (by kernel_rfl) (by kernel_rfl) ?_
                  apply Exists.intro
                  refine ⟨fun w0 hb0 hF0 => ?_, ?_⟩
                  · have c1 : ∀ e : Ext w0, e.at_.cell? ⟨g, 1, none⟩ = some (.int .u32 (xb : Nat)) := fun e => (((HR6.out.below hb0).below e.same).v.cell 1).trans Hu1.out
                    have c2 : ∀ e : Ext w0, e.at_.cell? ⟨g, 2, none⟩ = some (.int .u32 (xc : Nat)) := fun e => (((HR6.out.below hb0).below e.same).v.cell 2).trans Hu2.out
                    have bm := bits_maj_ref oa ob oc
                    simp only [pick, List.range, List.range.loop, List.getElem?_toArray, List.getElem?_cons_succ, List.getElem?_cons_zero, Option.toList_some, List.cons_append, List.nil_append]
                    repeat (go_big_quiet_step (fail))
                    exact wpQuiet_nil rfl
                  refine AlChk.nil ?_
                  refine Walk.fin fun w7 h7 _ _ => ?_
                  simp only [List.drop_succ_cons, List.drop_zero]
                  have HR7 := hid (HR6.out.below h7)
                  have Hb7 := hid (Below.on Hb6.out h7)
                  clear h7
                  go_wp2_with fail
                  refine wp_region_flow 25 (List.range 25) [] [] (by kernel_rfl) (by kernel_rfl) ?_
                  apply Exists.intro
                  refine ⟨fun w0 hb0 hF0 => ?_, ?_⟩
                  · have c7 : ∀ e : Ext w0, e.at_.cell? ⟨g, 7, none⟩ = some (.int .u32 (xh : Nat)) := fun e => (((HR7.out.below hb0).below e.same).v.cell 7).trans Hu7.out
                    have ck : ∀ e : Ext w0, e.at_.cell? ⟨gk, j, none⟩ = some (.int .u32 (K : Nat)) := fun e => (((HR7.out.below hb0).below e.same).k.cell j).trans HqK.out
                    have cw : ∀ e : Ext w0, e.at_.cell? ⟨wo.heap.size, j, none⟩ = some (.int .u32 (W : Nat)) := fun e => (((HR7.out.below hb0).below e.same).w.cell j).trans HqW.out
                    have b1 := bits_S1 oe
                    simp only [pick, List.range, List.range.loop, List.getElem?_toArray, List.getElem?_cons_succ, List.getElem?_cons_zero, Option.toList_some, List.cons_append, List.nil_append]
                    repeat (go_big_quiet_step (first | (go_at_call 70; exact right_q _ 6 _ _ oe (by decide) (by decide) (by decide)) | (go_at_call 70; exact right_q _ 11 _ _ oe (by decide) (by decide) (by decide)) | (go_at_call 70; exact right_q _ 25 _ _ oe (by decide) (by decide) (by decide))))
                    exact wpQuiet_nil rfl
                  refine AlChk.nil ?_
                  refine Walk.fin fun w8 h8 _ _ => ?_
                  simp only [List.drop_succ_cons, List.drop_zero]
                  have HR8 := hid (HR7.out.below h8)
                  have Hb8 := hid (Below.on Hb7.out h8)
                  clear h8
                  go_wp2_with fail
                  refine (right_any _ 2 _ _ _ oa (by decide) (by decide) (by decide)).mono ?_
                  rintro e w9 ⟨rfl, h9⟩
                  have HR9 := hid (HR8.out.below h9)
                  have Hb9 := hid (Below.on Hb8.out h9)
                  clear h9
                  go_wp2_with fail
                  refine (right_any _ 13 _ _ _ oa (by decide) (by decide) (by decide)).mono ?_
                  rintro e w10 ⟨rfl, h10⟩
                  have HR10 := hid (HR9.out.below h10)
                  have Hb10 := hid (Below.on Hb9.out h10)
                  clear h10
                  go_wp2_with fail
                  refine (right_any _ 22 _ _ _ oa (by decide) (by decide) (by decide)).mono ?_
                  rintro e w11 ⟨rfl, h11⟩
                  have HR11 := hid (HR10.out.below h11)
                  have Hb11 := hid (Below.on Hb10.out h11)
                  have b2 := bits_S0 oa
                  have m2 := S0_lt oa
                  have m3 := maj_lt oa ob (c := xc)
                  have m4 := S1_lt oe
                  have m5 := ch_lt oe (f := xf) (g := xg)
                  clear h11
                  go_wp2_with fail
                  clear b2
                  refine wp_region_flow 22 (List.range 22) [] [] (by kernel_rfl) (by kernel_rfl) ?_
                  apply Exists.intro
                  refine ⟨fun w0 hb0 hF0 => ?_, ?_⟩
                  · have c1 : ∀ e : Ext w0, e.at_.cell? ⟨g, 1, none⟩ = some (.int .u32 (xb : Nat)) := fun e => (((HR11.out.below hb0).below e.same).v.cell 1).trans Hu1.out
                    have c2 : ∀ e : Ext w0, e.at_.cell? ⟨g, 2, none⟩ = some (.int .u32 (xc : Nat)) := fun e => (((HR11.out.below hb0).below e.same).v.cell 2).trans Hu2.out
                    have c3 : ∀ e : Ext w0, e.at_.cell? ⟨g, 3, none⟩ = some (.int .u32 (xd : Nat)) := fun e => (((HR11.out.below hb0).below e.same).v.cell 3).trans Hu3.out
                    have c5 : ∀ e : Ext w0, e.at_.cell? ⟨g, 5, none⟩ = some (.int .u32 (xf : Nat)) := fun e => (((HR11.out.below hb0).below e.same).v.cell 5).trans Hu5.out
                    have c6 : ∀ e : Ext w0, e.at_.cell? ⟨g, 6, none⟩ = some (.int .u32 (xg : Nat)) := fun e => (((HR11.out.below hb0).below e.same).v.cell 6).trans Hu6.out
                    simp only [pick, List.range, List.range.loop, List.getElem?_toArray, List.getElem?_cons_succ, List.getElem?_cons_zero, Option.toList_some, List.cons_append, List.nil_append]
                    repeat (go_big_quiet_step (fail))
                    exact wpQuiet_nil rfl
                  refine AlChk.nil ?_
                  refine Walk.fin fun w12 h12 _ _ => ?_
                  simp only [List.drop_succ_cons, List.drop_zero]
                  have HR12 := hid (HR11.out.below h12)
                  have Hb12 := hid (Below.on Hb11.out h12)
                  clear h12
                  go_wp2_with fail
                  refine ⟨⟨j + 1, by omega, by go_num, ?_, HR12.out.w.old _, Hb12.out.alloc Hb12.out.size _⟩, by simp [intOf]; omega⟩
                  refine ⟨_, 8, _, rfl, Hb12.out.size, Nat.le_refl _, by omega, Blk.new rfl _ _, fun i hi => ?_⟩
                  rw [HR.out]
                  match i, hi with
                  | 0, _ => exact congrArg (fun z : Int => some (Value.int .u32 z)) (by simp only [words, Sha.round, Sha.t1, Sha.t2, Sha.M, List.getD_cons_zero]; omega)
                  | 1, _ => rfl
                  | 2, _ => rfl
                  | 3, _ => rfl
                  | 4, _ => exact congrArg (fun z : Int => some (Value.int .u32 z)) (by simp only [words, Sha.round, Sha.t1, Sha.M, List.getD_cons_succ, List.getD_cons_zero]; omega)
                  | 5, _ => rfl
                  | 6, _ => rfl
                  | 7, _ => rfl
                  -->
                · have hj64 : j = 64 := by omega
                  have HVx : Hid (∀ i, i < 8 → cur[i]? = some (.int .u32 ((words (Sha.rounds WS st 64)).getD i 0 : Nat))) := hid (by rw [← hj64]; exact hcur)
                  have Hj64 := hid hj64
                  have Hwv := hid (HW.out.below bW)
                  have HkV := hid kV
                  have hokr := HOk.out.rounds WS 64
                  have hoks := HOk.out
                  have hgne : g ≠ w.heap.size + 1 := by
                    have := HW.out.ks.lt
                    omega
                  have hszr := bW.size
                  have hkslt := Hwv.out.ks.lt
                  clear hcur kV kW bW hj64
                  have HRun2 := hid HRun.out
                  clear HRun
                  generalize Sha.rounds WS st 64 = r at *
                  generalize hwv : wr = wv at *
                  clear hwv
                  go_wp2_with fail
                  clear hj hlt4
                  go_loopw [21] (fun v wr => ∃ i : Nat, i ≤ 8 ∧ v = .int .i64 i ∧ Blk wr (w.heap.size + 1) (mixCells st r i) 103 ∧ But (w.heap.size + 1) wv wr) (fun v _ => 8 - (intOf v).toNat)
                  case atStart => exact ⟨0, Nat.zero_le _, rfl, by rw [mix_zero]; exact Hwv.out.ks, But.of (Below.refl _ _)⟩
                  case round =>
                    obtain ⟨i, hi, rfl, kS, bS⟩ := hrel
                    by_cases hlt5 : i < 8
                    · have q1 := (kS.cell i).trans (mix_get st r i hlt5)
                      have q2 := ((bS.blk HkV.out hgne).cell i).trans (HVx.out i hlt5)
                      have m1 := words_lt hoks i
                      have m2 := words_lt hokr i
                      have hset := mix_set st r i hlt5
                      have Hset := hid hset
                      have HkS := hid kS
                      have HbS := hid bS
                      have HkVr := hid (bS.blk HkV.out hgne)
                      have hltS := kS.lt
                      clear hset
                      generalize (words st).getD i 0 = X at *
                      generalize (words r).getD i 0 = Y at *
                      clear kS bS
                      go_wp2_with fail
                      refine wp_region_flow 12 (List.range 12) [] [] (by kernel_rfl) (by kernel_rfl) ?_
                      apply Exists.intro
                      refine ⟨fun w0 hb0 hF0 => ?_, ?_⟩
                      · have c1 : ∀ e : Ext w0, e.at_.cell? ⟨w.heap.size + 1, i, none⟩ = some (.int .u32 (X : Nat)) := fun e => by rw [((HkS.out.below hb0).below e.same).cell, ← HkS.out.cell]; exact q1
                        have c2 : ∀ e : Ext w0, e.at_.cell? ⟨g, i, none⟩ = some (.int .u32 (Y : Nat)) := fun e => by rw [((HkVr.out.below hb0).below e.same).cell, ← HkVr.out.cell]; exact q2
                        simp only [pick, List.range, List.range.loop, List.getElem?_toArray, List.getElem?_cons_succ, List.getElem?_cons_zero, Option.toList_some, List.cons_append, List.nil_append]
                        repeat (go_big_quiet_step (fail))
                        exact wpQuiet_nil rfl
                      refine AlChk.nil ?_
                      refine Walk.fin fun w6 h6 _ _ => ?_
                      simp only [List.drop_succ_cons, List.drop_zero]
                      have kS6 := HkS.out.below h6
                      have HbS6 := hid (HbS.out.ext h6)
                      have q6 : w6.cell? ⟨w.heap.size + 1, i, none⟩ = some (.int .u32 (X : Nat)) := by rw [kS6.cell, ← HkS.out.cell]; exact q1
                      have f6 := kS6.free
                      have HkS6 := hid kS6
                      clear kS6 h6 q1 q2
                      go_wp2_with fail
                      refine ⟨⟨i + 1, by omega, by go_num, ?_, HbS6.out.set (p := ⟨w.heap.size + 1, i, none⟩) (.inl rfl) _⟩, by simp [intOf]; omega⟩
                      exact (Hset.out (((X : Int) + (Y : Int)) % 4294967296) (by omega)) ▸ HkS6.out.set i _
                    · have h8 : i = 8 := by omega
                      have kS8 : Blk wr (w.heap.size + 1) (stCells (Sha.add st r)).toArray 103 := by rw [h8, mix_all] at kS; exact kS
                      rw [← HRun2.out] at kS8
                      have HWn := hid (Hwv.out.put bS kS8)
                      have H8 := hid h8
                      clear kS kS8 bS h8
                      go_wp2_with fail
                      exact ⟨⟨k + 1, by omega, by go_num, HWn.out⟩, by simp [intOf]; omega⟩
      -->>
    · have hkN : k = NB := by omega
      have HsumE : Hid (sumZ bs = toZ ((words (Sha.run Sha.start (Sha.pad (natB bs)) k)).flatMap (Sha.nbe 4))) := hid (by
        rw [sumZ, Sha.sum, HNB.out, hkN, show 64 * NB / 64 = NB by omega, out_words])
      have okA := Ok.run Ok.start (Sha.pad (natB bs)) k
      generalize Sha.run Sha.start (Sha.pad (natB bs)) k = sf at *
      generalize hwf : wr = wf at *
      have Hkd := hid (Blk.new (w := wf) rfl (byteCells 32 []) 23)
      have HkN := hid hkN
      have hltS := HW.out.ks.lt
      have hltR := HW.out.res.lt
      clear hwf hkN
      go_wp2_with fail
      clear hk hlt
      go_loopw [23] (fun v wr => ∃ i : Nat, i ≤ 8 ∧ v = .int .i64 i ∧ Blk wr wf.heap.size (byteCells 32 (toZ (((words sf).take i).flatMap (Sha.nbe 4)))) 23 ∧ Below wf.heap.size wf wr) (fun v _ => 8 - (intOf v).toNat)
      case atStart => exact ⟨0, by omega, rfl, Hkd.out, (Below.refl _ _).alloc (Nat.le_refl _) _⟩
      case round =>
        obtain ⟨i, hi, rfl, kr, br⟩ := hrel
        by_cases hlti : i < 8
        · have hx : wr.cell? ⟨w.heap.size + 1, i, none⟩ = some (.int .u32 ((words sf).getD i 0 : Nat)) := ((HW.out.ks.below br).cell i).trans (by rw [List.getElem?_toArray]; exact words_cell sf i hlti)
          have hxl : (words sf).getD i 0 < 4294967296 := words_lt okA i
          have hts : (words sf).take (i + 1) = (words sf).take i ++ [(words sf).getD i 0] := by
            have : i < (words sf).length := hlti
            rw [List.take_succ_eq_append_getElem this]
            simp [this]
          have Hts := hid hts
          clear hts
          generalize (words sf).getD i 0 = X at *
          have hbl : (toZ (((words sf).take i).flatMap (Sha.nbe 4))).length = 4 * i := by
            rw [toZ, List.length_map, flat_len, List.length_take, Nat.min_eq_left (show i ≤ (words sf).length from Nat.le_of_lt hlti)]
          generalize hLd : toZ (((words sf).take i).flatMap (Sha.nbe 4)) = L at *
          have HL := hid hLd
          clear hLd
          have z0 : wr.cell? ⟨wf.heap.size, 4 * i, none⟩ = some (.int .u8 0) := by rw [kr.cell]; exact byteCells_zero _ _ _ (by omega) (by omega)
          have z1 : wr.cell? ⟨wf.heap.size, 4 * i + 1, none⟩ = some (.int .u8 0) := by rw [kr.cell]; exact byteCells_zero _ _ _ (by omega) (by omega)
          have z2 : wr.cell? ⟨wf.heap.size, 4 * i + 2, none⟩ = some (.int .u8 0) := by rw [kr.cell]; exact byteCells_zero _ _ _ (by omega) (by omega)
          have z3 : wr.cell? ⟨wf.heap.size, 4 * i + 3, none⟩ = some (.int .u8 0) := by rw [kr.cell]; exact byteCells_zero _ _ _ (by omega) (by omega)
          have o0 : ((4 : Int) * (i : Int)).toNat = 4 * i := by omega
          have o1 : ((4 : Int) * (i : Int) + 1).toNat = 4 * i + 1 := by omega
          have o2 : ((4 : Int) * (i : Int) + 2).toNat = 4 * i + 2 := by omega
          have o3 : ((4 : Int) * (i : Int) + 3).toNat = 4 * i + 3 := by omega
          have fq := kr.free
          have hne : w.heap.size + 1 ≠ wf.heap.size := by omega
          have Hkr := hid kr
          have Hbr := hid br
          have Hbl := hid hbl
          clear kr br hbl
          go_wp2_with fail
          refine ⟨⟨i + 1, by omega, by go_num, ?_, ?_⟩, by simp [intOf]; omega⟩
          · have := put_four Hkr.out Hbl.out hlti X hxl
            rw [Hts.out, List.flatMap_append, toZ, List.map_append, List.flatMap_singleton]
            rw [← HL.out] at this
            exact this
          · have hB : wf.heap.size ≤ wf.heap.size := Nat.le_refl _
            exact (((Hbr.out.setCell (p := ⟨wf.heap.size, 4 * i, none⟩) hB _).setCell (p := ⟨wf.heap.size, 4 * i + 1, none⟩) hB _).setCell (p := ⟨wf.heap.size, 4 * i + 2, none⟩) hB _).setCell (p := ⟨wf.heap.size, 4 * i + 3, none⟩) hB _
        · have h8i : i = 8 := by omega
          have kfull : Blk wr wf.heap.size ((sumZ bs).map (Value.int .u8)).toArray 23 := by
            have e : toZ (((words sf).take i).flatMap (Sha.nbe 4)) = sumZ bs := by
              rw [HsumE.out, h8i, List.take_of_length_le (by simp [words])]
            rw [e, byteCells_full 32 _ (sumZ_length bs)] at kr
            exact kr
          have Hkf := hid kfull
          have Hkres := hid (HW.out.res.below br)
          have Hfb := hid (Below.on HW.out.bel br)
          have Hsz : Hid (((sumZ bs).map (Value.int .u8)).toArray.size = 32) := hid (by simp [sumZ_length])
          have Hzb : Hid ((byteCells 32 []).size = 32) := hid (byteCells_size 32 [] (by simp))
          have H8i := hid h8i
          clear kr br kfull h8i
          go_wp2_with (first | (refine wpList_load_blk rfl 23 _ rfl wf.heap.size rfl _ 23 Hkf.out _ Tryd.underlying23 rfl 32 size_digest Hsz.out ?_) | (refine wpList_store_blk rfl 23 _ _ rfl w.heap.size _ rfl rfl _ 23 Hkres.out 32 size_digest Hzb.out Hsz.out (ints_one _ _) ?_; intro w6 hbut6 hk6))
          exact bodyPost_ret (v := .agg ((sumZ bs).map (Value.int .u8)).toArray) (results_blk Tryd.results40 _ w.heap.size rfl _ 23 hk6 _ Tryd.underlying23 rfl 32 size_digest Hsz.out) rfl ⟨rfl, hbut6.below Hfb.out Hfb.out.size (Nat.le_refl _)⟩
end Go.Proofs.YtkakoiaahgchmaaDoor
namespace Go.Proofs.YtkakoiaahgchmaaDoor
set_option maxRecDepth 100000
open Go.ChangeShapes Go.WideShapes Go.ChangeAt Go.RowKit
theorem eqD (xs ys : List Int) (hx : xs.length = 32) (hy : ys.length = 32) (w : World) : (binOp .eql 23 (.agg (xs.map (Value.int .u8)).toArray) (.agg (ys.map (Value.int .u8)).toArray)).run Tryd.prog w = .ok (.bool (decide (xs = ys))) w :=
  run_eql_ints (P := Tryd.prog) (t := 23) (e := 5) Tryd.underlying23 Tryd.underlying5 rfl (by kernel_rfl) xs ys hx hy w
theorem neD (xs ys : List Int) (hx : xs.length = 32) (hy : ys.length = 32) (w : World) : (binOp .neq 23 (.agg (xs.map (Value.int .u8)).toArray) (.agg (ys.map (Value.int .u8)).toArray)).run Tryd.prog w = .ok (.bool (!decide (xs = ys))) w :=
  run_neq_ints (P := Tryd.prog) (t := 23) (e := 5) Tryd.underlying23 Tryd.underlying5 rfl (by kernel_rfl) xs ys hx hy w
theorem eqD_self (xs : List Int) (hx : xs.length = 32) (w : World) : (binOp .eql 23 (.agg (xs.map (Value.int .u8)).toArray) (.agg (xs.map (Value.int .u8)).toArray)).run Tryd.prog w = .ok (.bool true) w := by
  rw [eqD xs xs hx hx w, decide_eq_true rfl]
/-- the size of a digest's cells -/
theorem dsize {xs : List Int} (hx : xs.length = 32) : ((xs.map (Value.int .u8)).toArray).size = 32 := by simp [hx]
theorem zsize : (byteCells 32 []).size = 32 := byteCells_size 32 [] (by simp)
/-- a text that was made just now, whatever its block's mark -/
theorem TextAt.made {w : World} {bs : List Int} {n : Nat} {T : TypeId} (mark : Nat × Nat) (hn : bs.length = n) (hm : n ≤ 9223372036854775807) (hs : ∀ x ∈ bs, 0 ≤ x ∧ x < 256) : TextAt (w.alloc (.cells (bs.map (Value.int .u8)).toArray T mark)) (some ⟨w.heap.size, 0, none⟩) n n bs :=
  ⟨hn, Nat.le_refl _, hm, hs, .inr ⟨_, 0, none, rfl, fun j hj => ⟨rfl, by rw [World.size_alloc]; omega, by rw [Nat.zero_add, World.cell?_alloc_mark]; simp [show j < bs.length by omega]⟩⟩⟩
/-- texts, whose values lie in a block -/
theorem TextsAt.of_blk {w : World} {g n cap : Nat} {T : TypeId} {vs : Array Value} {ts : List (List Int)} (h : Blk w g vs T) (hl : ts.length = n) (hc : n ≤ cap) (hm : cap ≤ 9223372036854775807) (hv : ∀ j, j < n → ∃ a l c, vs[j]? = some (.slice a l c) ∧ TextAt w a l c (ts.getD j [])) : TextsAt w (some ⟨g, 0, none⟩) n cap ts :=
  ⟨hl, hc, hm, .inr ⟨g, 0, rfl, h.lt, fun j hj => by
    obtain ⟨a, l, c, h1, h2⟩ := hv j hj
    exact ⟨a, l, c, by rw [Nat.zero_add, h.cell]; exact h1, h2⟩⟩⟩
end Go.Proofs.YtkakoiaahgchmaaDoor
namespace Go.Proofs.YtkakoiaahgchmaaDoor
set_option maxRecDepth 100000
open Go.ChangeShapes Go.WideShapes Go.ChangeAt Go.RowKit
def xorZ (x y : Int) : Int := ((x.toNat ^^^ y.toNat : Nat) : Int)
@[irreducible] def blockZ (key : List Int) : List Int := if 64 < key.length then sumZ key ++ List.replicate 32 0 else key ++ List.replicate (64 - key.length) 0
def maskZ (b : List Int) (m : Int) : List Int := b.map fun x => xorZ x m
@[irreducible] def macZ (key text : List Int) : List Int := sumZ (maskZ (blockZ key) 92 ++ sumZ (maskZ (blockZ key) 54 ++ text))
/-- a slice of texts that is the call's own; the texts lie in older blocks -/
def OwnL (w : World) (base : Nat) (e : TypeId) (v : Value) (ts : List (List Int)) : Prop :=
  ∃ xs, w.ownsRow base e 1 v ts.length xs ∧ ∀ j, j < ts.length → ∃ a l c, xs[j]? = some (.slice a l c) ∧ TextAt w a l c (ts.getD j []) ∧ (0 < l → ∀ p : Addr, a = some p → p.block < base)
section
variable {P : Program} {w : World} {base : Nat} {t e : TypeId} {i : TypeInfo} {v : Value} {ts us : List (List Int)}
end
end Go.Proofs.YtkakoiaahgchmaaDoor
namespace Go.Proofs.YtkakoiaahgchmaaDoor
set_option maxRecDepth 100000
open Go.ChangeShapes Go.WideShapes Go.ChangeAt Go.RowKit
/-- a slice of texts that is the call's own; the texts lie in other blocks -/
def OwnM (w : World) (base : Nat) (e : TypeId) (v : Value) (ts : List (List Int)) : Prop :=
  ∃ xs, w.ownsRow base e 1 v ts.length xs ∧ ∀ j, j < ts.length → ∃ a l c, xs[j]? = some (.slice a l c) ∧ TextAt w a l c (ts.getD j []) ∧ (0 < l → ∀ p : Addr, a = some p → v.ownBlock ≠ some p.block)
section
variable {P : Program} {w : World} {base : Nat} {t e : TypeId} {i : TypeInfo} {v : Value} {ts us : List (List Int)}
end
end Go.Proofs.YtkakoiaahgchmaaDoor
namespace Go.Proofs.YtkakoiaahgchmaaDoor
set_option maxRecDepth 100000
open Go.ChangeShapes Go.WideShapes Go.ChangeAt Go.RowKit
theorem strOfNums_inj {xs ys : List Int} (hx : ∀ x ∈ xs, 0 ≤ x ∧ x < 256) (hy : ∀ x ∈ ys, 0 ≤ x ∧ x < 256) : strOfNums xs = strOfNums ys ↔ xs = ys := by
  constructor
  · intro h
    have key : ∀ zs : List Int, (∀ x ∈ zs, 0 ≤ x ∧ x < 256) → ((strOfNums zs).data.toList.map fun u : UInt8 => (u.toNat : Int)) = zs := fun zs hz => by
      rw [strOfNums_data, List.map_map]
      conv => rhs; rw [← List.map_id zs]
      apply List.map_congr_left
      intro z hzm
      have := hz z hzm
      simp
      omega
    rw [← key xs hx, ← key ys hy, h]
  · rintro rfl; rfl
theorem eqStrB {xs ys : List Int} (hx : ∀ x ∈ xs, 0 ≤ x ∧ x < 256) (hy : ∀ x ∈ ys, 0 ≤ x ∧ x < 256) : ((strOfNums xs).toList == (strOfNums ys).toList) = decide (xs = ys) := by
  by_cases e : xs = ys
  · subst e; simp
  · have h : ¬ (strOfNums xs).toList = (strOfNums ys).toList := fun q => e ((strOfNums_inj hx hy).1 (by
      rw [Lib.strOfNums_toList, Lib.strOfNums_toList] at q
      exact congrArg (fun l : List UInt8 => (⟨l.toArray⟩ : ByteArray)) q))
    simp [e, h]
end Go.Proofs.YtkakoiaahgchmaaDoor
namespace Go.Proofs.YtkakoiaahgchmaaDoor
set_option maxRecDepth 100000
open Go.ChangeShapes Go.WideShapes Go.ChangeAt Go.RowKit
end Go.Proofs.YtkakoiaahgchmaaDoor
namespace Go.Proofs.YtkakoiaahgchmaaDoor
set_option maxRecDepth 100000
open Go.ChangeShapes Go.WideShapes Go.ChangeAt Go.RowKit
theorem info_text : (Tryd.prog.info? 29).map (fun i => (i.zero, i.size, i.bytes)) = some (some (.slice none 0 0), 1, 24) := by kernel_rfl
end Go.Proofs.YtkakoiaahgchmaaDoor
namespace Go.Proofs.YtkakoiaahgchmaaDoor
set_option maxRecDepth 100000
open Go.ChangeShapes Go.WideShapes Go.ChangeAt Go.RowKit
/-- the bytes of words -/
def wordBytes (xs : List Int) : List Int := xs.flatMap (be 4)
end Go.Proofs.YtkakoiaahgchmaaDoor
namespace Go.Proofs.YtkakoiaahgchmaaDoor
set_option maxRecDepth 100000
open Go.ChangeShapes Go.WideShapes Go.ChangeAt Go.RowKit
end Go.Proofs.YtkakoiaahgchmaaDoor
namespace Go.Proofs.YtkakoiaahgchmaaDoor
set_option maxRecDepth 100000
open Go.ChangeShapes Go.WideShapes Go.ChangeAt Go.RowKit
end Go.Proofs.YtkakoiaahgchmaaDoor
namespace Go.Proofs.YtkakoiaahgchmaaDoor
set_option maxRecDepth 100000
open Go.ChangeShapes Go.WideShapes Go.ChangeAt Go.RowKit
end Go.Proofs.YtkakoiaahgchmaaDoor
namespace Go.Proofs.YtkakoiaahgchmaaDoor
set_option maxRecDepth 100000
open Go.ChangeShapes Go.WideShapes Go.ChangeAt Go.RowKit
/-- a digest's bytes -/
structure Dg (xs : List Int) : Prop where
  len : xs.length = 32
  small : ∀ x ∈ xs, 0 ≤ x ∧ x < 256
@[irreducible] def fZ (key m : List Int) : List Int := sumZ (be 32 0 ++ (key ++ m))
@[irreducible] def hZ (key a b : List Int) : List Int := sumZ (be 32 1 ++ (key ++ (a ++ b)))
@[irreducible] def prfZ (key m : List Int) : List Int := sumZ (be 32 3 ++ (key ++ m))
@[irreducible] def msgZ (r root : List Int) (index : Int) (m : List Int) : List Int := sumZ (be 32 2 ++ (r ++ (root ++ (be 32 index ++ m))))
theorem Dg.sum (bs : List Int) : Dg (sumZ bs) := ⟨sumZ_length _, sumZ_small _⟩
/-- what 'wide' hands back -/
def WideAt (n : Int) (v : Value) (w : World) : Prop := ∃ g, v = .slice (some ⟨g, 0, none⟩) 32 32 ∧ Blk w g ((be 32 n).map (Value.int .u8)).toArray 5
theorem Dg.text {xs : List Int} (h : Dg xs) {w : World} {g : Nat} {T : TypeId} (k : Blk w g (xs.map (Value.int .u8)).toArray T) : TextAt w (some ⟨g, 0, none⟩) 32 32 xs := TextAt.of_ints k h.len (by omega) h.small
theorem Dg.size {xs : List Int} (h : Dg xs) : ((xs.map (Value.int .u8)).toArray).size = 32 := dsize h.len
end Go.Proofs.YtkakoiaahgchmaaDoor
namespace Go.Proofs.YtkakoiaahgchmaaDoor
set_option maxRecDepth 100000
open Go.ChangeShapes Go.WideShapes Go.ChangeAt Go.RowKit
/-- an address's words -/
structure Aw (xs : List Int) : Prop where
  len : xs.length = 8
  small : ∀ x ∈ xs, 0 ≤ x ∧ x < 4294967296
@[irreducible] def atZ (key ad : List Int) : List Int := prfZ key (wordBytes ad)
/-- what 'adrs.Bytes' hands back -/
def BytesAt (ad : List Int) (v : Value) (w : World) : Prop := ∃ g cap, v = .slice (some ⟨g, 0, none⟩) 32 cap ∧ 32 ≤ cap ∧ cap ≤ 9223372036854775807 ∧ Row8 w g (wordBytes ad)
/-- byte by byte exclusive-ored -/
def xorD (a b : List Int) : List Int := a.zipWith xorZ b
end Go.Proofs.YtkakoiaahgchmaaDoor
namespace Go.Proofs.YtkakoiaahgchmaaDoor
set_option maxRecDepth 100000
open Go.ChangeShapes Go.WideShapes Go.ChangeAt Go.RowKit
end Go.Proofs.YtkakoiaahgchmaaDoor
namespace Go.Proofs.YtkakoiaahgchmaaDoor
set_option maxRecDepth 100000
open Go.ChangeShapes Go.WideShapes Go.ChangeAt Go.RowKit
end Go.Proofs.YtkakoiaahgchmaaDoor
namespace Go.Proofs.YtkakoiaahgchmaaDoor
set_option maxRecDepth 100000
open Go.ChangeShapes Go.WideShapes Go.ChangeAt Go.RowKit
/-- an empty slice of bytes that the call made -/
def EmptyAt (B : Nat) (v : Value) : Prop := ∃ g, v = .slice (some ⟨g, 0, none⟩) 0 0 ∧ B ≤ g
def EmptyIn (v : Value) (w : World) : Prop := ∀ g, v = .slice (some ⟨g, 0, none⟩) 0 0 → Blk w g #[] 5
end Go.Proofs.YtkakoiaahgchmaaDoor
namespace Go.Proofs.YtkakoiaahgchmaaDoor
set_option maxRecDepth 100000
open Go.ChangeShapes Go.WideShapes Go.ChangeAt Go.RowKit
def zD : List Int := List.replicate 32 0
theorem Dg.zero : Dg zD := ⟨by simp [zD], fun x hx => by have := List.eq_of_mem_replicate hx; omega⟩
end Go.Proofs.YtkakoiaahgchmaaDoor
namespace Go.Proofs.YtkakoiaahgchmaaDoor
set_option maxRecDepth 100000
open Go.ChangeShapes Go.WideShapes Go.ChangeAt Go.RowKit
/-- an address with its last three words -/
def setAd (ad : List Int) (f s p : Int) : List Int := ad.take 5 ++ [f, s, p]
/-- a step of a chain -/
@[irreducible] def stepZ (pub ad x : List Int) (j : Nat) : List Int := fZ (atZ pub (setAd ad (ad.getD 5 0) j 0)) (xorD x (atZ pub (setAd ad (ad.getD 5 0) j 1)))
def runZ (pub ad x : List Int) (frm : Nat) : Nat → List Int
  | 0 => x
  | n + 1 => stepZ pub ad (runZ pub ad x frm n) (frm + n)
end Go.Proofs.YtkakoiaahgchmaaDoor
namespace Go.Proofs.YtkakoiaahgchmaaDoor
set_option maxRecDepth 100000
open Go.ChangeShapes Go.WideShapes Go.ChangeAt Go.RowKit
end Go.Proofs.YtkakoiaahgchmaaDoor
namespace Go.Proofs.YtkakoiaahgchmaaDoor
set_option maxRecDepth 100000
open Go.ChangeShapes Go.WideShapes Go.ChangeAt Go.RowKit
end Go.Proofs.YtkakoiaahgchmaaDoor
namespace Go.Proofs.YtkakoiaahgchmaaDoor
set_option maxRecDepth 100000
open Go.ChangeShapes Go.WideShapes Go.ChangeAt Go.RowKit
section
variable {H : Type} {enc : TypeId × Value → H} {P : Program}
theorem trodAll_below (hl : laidOutB P = true) {W W' : World} (hb : Below W.heap.size W W') : ∀ (ts : List TypeId) (vs : List Value) (ds : List (DataW H)) (ps : List MemPlace),
    (ts.all fun t => P.readableRec t && decide (t < P.types.size)) = true → DataW.TrodAll enc P W 0 (fun _ => true) true ts vs ds ps →
    DataW.TrodAll enc P W' 0 (fun b => decide (b < W.heap.size)) true ts vs ds ps
  | [], _, _, _, _, h => by
    obtain ⟨rfl, rfl, rfl⟩ := trodAll_nil h
    exact trodAll_mk0
  | t :: ts, _, _, _, hall, h => by
    simp only [List.all_cons, Bool.and_eq_true, decide_eq_true_eq] at hall
    obtain ⟨⟨hr, ht⟩, hall⟩ := hall
    obtain ⟨v, vs, d, ds, p, q, rfl, rfl, rfl, h0, r0⟩ := trodAll_cons h
    have lt0 : ∀ x ∈ p, x.block < W.heap.size := by obtain ⟨m, hm⟩ := h0; exact DataW.trod_lt m _ _ _ hm
    exact trodAll_cons_mk (Below.trod hl hr ht h0 hb lt0) (trodAll_below hl hb ts vs ds q (by simpa using hall) r0)
theorem trodAll_length {W : World} {base : Nat} {sp : Nat → Bool} {hd : Bool} : ∀ (ts : List TypeId) (vs : List Value) (ds : List (DataW H)) (ps : List MemPlace), DataW.TrodAll enc P W base sp hd ts vs ds ps → ds.length = ts.length
  | [], _, _, _, h => by
    obtain ⟨rfl, rfl, rfl⟩ := trodAll_nil h
    rfl
  | t :: ts, _, _, _, h => by
    obtain ⟨v, vs, d, ds, p, q, rfl, rfl, rfl, _, r0⟩ := trodAll_cons h
    simp [trodAll_length ts vs ds q r0]
end
end Go.Proofs.YtkakoiaahgchmaaDoor
namespace Go.Proofs.YtkakoiaahgchmaaDoor
set_option maxRecDepth 100000
open Go.ChangeShapes Go.WideShapes Go.ChangeAt Go.RowKit
end Go.Proofs.YtkakoiaahgchmaaDoor
namespace Go.Proofs.YtkakoiaahgchmaaDoor
set_option maxRecDepth 100000
open Go.ChangeShapes Go.WideShapes Go.ChangeAt Go.RowKit
theorem ownNone : ownKnob Tryd.prog.godebug = none := by kernel_rfl
theorem laidAll : laidOutB Tryd.prog = true := by kernel_rfl
theorem gStart : Tryd.prog.globalNamed "planchet/sha.start" = some 0 := by kernel_rfl
theorem gKeys : Tryd.prog.globalNamed "planchet/sha.constants" = some 1 := by kernel_rfl
theorem gtStart : (Tryd.prog.globals[0]?).map (·.type) = some 112 := by kernel_rfl
theorem gtKeys : (Tryd.prog.globals[1]?).map (·.type) = some 127 := by kernel_rfl
/-- what the rows list -/
abbrev laid2 : List (String × DataW Unit) := [("planchet/sha.start", Rows.laid_planchet_sha_start), ("planchet/sha.constants", Rows.laid_planchet_sha_constants)]
def startZ : List Int := [Sha.start.a, Sha.start.b, Sha.start.c, Sha.start.d, Sha.start.e, Sha.start.f, Sha.start.g, Sha.start.h].map fun x : Nat => (x : Int)
def keysZ : List Int := Sha.keys.map fun x : Nat => (x : Int)
theorem start_tab : (Rows.laid_planchet_sha_start : DataW Unit) = Lib.tabData .u32 startZ := by kernel_rfl
theorem keys_tab : (Rows.laid_planchet_sha_constants : DataW Unit) = Lib.tabData .u32 keysZ := by kernel_rfl
theorem tab_of_laid {W : World} (h : laidMetH Tryd.prog laid2 W) : ShaTab W := by
  rw [MakeChecks.laidMetH_plain _ _ _ (by kernel_rfl)] at h
  have h' : laidMet Tryd.prog (("planchet/sha.start", Lib.tabData .u32 startZ) :: [("planchet/sha.constants", Lib.tabData .u32 keysZ)]) W := by
    rw [← start_tab, ← keys_tab]
    exact h
  have hS := Lib.tabIs_of_head gStart gtStart Tryd.underlying112 Tryd.underlying103 (by kernel_rfl) (by kernel_rfl) h'
  have hK := Lib.tabIs_of_head gKeys gtKeys Tryd.underlying127 Tryd.underlying103 (by kernel_rfl) (by kernel_rfl) h'.tail
  have cS := fun i hi => hS.cell gStart i hi
  have cK := fun i hi => hK.cell gKeys i hi
  have hlS : startZ.length = 8 := rfl
  have hlK : keysZ.length = 64 := by simp [keysZ, Sha.keys]
  refine ⟨World.block_lt_of_cell? W _ (cK 0 (by omega)), World.block_lt_of_cell? W _ (cS 0 (by omega)), fun j hj => ?_, ?_⟩
  · rw [cK j (by omega)]
    have hj' : j < Sha.keys.length := by simpa [keysZ] using (show j < keysZ.length by omega)
    simp [keysZ, hj']
  · exact ⟨cS 0 (by omega), cS 1 (by omega), cS 2 (by omega), cS 3 (by omega), cS 4 (by omega), cS 5 (by omega), cS 6 (by omega), cS 7 (by omega)⟩
/-- the door's own heap meets the condition -/
theorem door_met (os : Os) (args : Array Value) : laidMetH Tryd.prog laid2 ((World.doorLaid Tryd.prog 19 os).forCall (fun _ _ => 0) ⟨#[], args, []⟩).memory :=
  laidMetH_of_parts3 (fuel := 8) (laidMet_of_run' 8 (by kernel_rfl) (by kernel_rfl)) (by kernel_rfl) (by kernel_rfl)
/-- From the walk to what the row's builder asks, with the form's reach and the tables. -/
theorem lift_tied {H : Type} {enc : TypeId × Value → H} {os : Os} {f : FuncId} {fn : Func} {s : ChangeSpec} {conds : List PathCond} {tb : TypeId}
    (started : os.Started) (noInit : Tryd.prog.inits.idxOf? f = none) (hfn : Tryd.prog.funcs[f]? = some fn)
    (hvars : s.vars = []) (hts : (fn.params.toList.all fun t => Tryd.prog.readableRec t && decide (t < Tryd.prog.types.size)) = true)
    (hrt : fn.resultTypes = #[tb]) (htb : Tryd.prog.underlying tb = some .bool)
    (hs : ∀ ds : List (DataW H), ds.length = fn.params.toList.length → (s.fn H (ds ++ [])).results = [.lit (.bool true)] ∧ (s.fn H (ds ++ [])).args = ds ∧ (s.fn H (ds ++ [])).vars = [])
    (witness : ∃ (w : World) (tape : Tape) (i : Input), w.os = os ∧ (w.forCall tape i).Shaped Tryd.checked.prog ∧ i.vars = [] ∧ Input.okWide Tryd.checked.prog (w.forCall tape i) .any w.heap.size f i ∧
      ((s.pre enc Tryd.checked.prog fn conds false (w.forCall tape i).memory i.args ∧ laidMetH Tryd.prog laid2 (w.forCall tape i).memory) ∧ sizedMet enc Tryd.checked.prog fn (OpenSpec.ofChange s) false (w.forCall tape i).memory i.args) ∧ Assume.holds {} Tryd.checked.prog (lone (Frame.enter Tryd.checked.prog f i.args .normal) [] (w.forCall tape i)))
    (walk : ∀ (W : World) (base : Nat) (args : Array Value) (ds : List (DataW H)) (p : List MemPlace),
      (∀ (j : Nat) t v, fn.params[j]? = some t → args[j]? = some v → Value.okWide Tryd.prog W .any base t v) →
      DataW.TrodAll enc Tryd.prog W 0 (fun _ => true) true fn.params.toList args.toList ds p →
      (DataW.weightsEach Tryd.prog fn.params.toList ds).all (· ≤ reachBytes) = true → ShaTab W →
      Calls Tryd.prog f args W fun e W' => e = .returned (.bool true) ∧ Below W.heap.size W W') :
    ReturnsInHanded {} Tryd.checked os f .any (fun w args => (s.pre enc Tryd.prog fn conds false w args ∧ laidMetH Tryd.prog laid2 w) ∧ sizedMet enc Tryd.prog fn (OpenSpec.ofChange s) false w args) (s.post enc Tryd.prog fn false true false false) := by
  refine returnsInHanded_of_change_and (C := Tryd.checked) (X := fun w _ => laidMetH Tryd.prog laid2 w) (fun _ _ _ hh h => h.of_heap hh) ownNone started noInit hfn witness ?_
  intro W base args ds gs before hval hW _ hsz hL _
  have hW' := hW
  obtain ⟨p, q, hA, hV, rfl, hfz, hnd⟩ := hW
  rw [hvars] at hV
  obtain ⟨rfl, rfl⟩ := trodVars_none hV
  have hsz : (DataW.weightsEach Tryd.prog fn.params.toList ds).all (· ≤ reachBytes) = true := by
    have e1 : s.plain.varTypes Tryd.checked.prog = [] := by
      simp [DataSpec.varTypes, ChangeSpec.plain, hvars]
    rw [e1, List.append_nil, List.append_nil] at hsz
    exact hsz
  refine (walk W base args ds p hval hA hsz (tab_of_laid hL)).mono fun e W' ⟨he, bel⟩ => ?_
  subst he
  obtain ⟨h1, h2, h3⟩ := hs ds (trodAll_length _ _ _ _ hA)
  refine ⟨_, rfl, ds, [], p ++ [], [], p, [], hW', ?_, ?_, ?_, bel.frame _, fun h => by cases h⟩
  · rw [h1, hrt]
    exact trodAll_mk1 (shut_bool htb _)
  · rw [h2]
    exact trodAll_below laidAll bel _ _ _ _ hts hA
  · rw [h3, hvars]
    exact rfl
end Go.Proofs.YtkakoiaahgchmaaDoor
namespace Go.Proofs.YtkakoiaahgchmaaDoor
set_option maxRecDepth 100000
open Go.ChangeShapes Go.WideShapes Go.ChangeAt Go.RowKit
/-- the digits of the bytes -/
def dig (ds : List Int) : List Int := ds.flatMap fun x => [x / 16, x % 16]
def rowOf (ds : List Int) (k : Nat) : List Int := dig (ds.take k) ++ List.replicate (67 - 2 * k) 0
def lacks (zs : List Int) : Int := zs.foldl (fun s x => wrap64 (s + wrap64 (15 - x))) 0
/-- what numbers from 0 to 15 lack, without a wrap -/
def short (zs : List Int) : Int := (zs.map (15 - ·)).sum
/-- the digits of a digest -/
def digits (ds : List Int) : List Int := dig ds ++ [short (dig ds) / 16 / 16 % 16, short (dig ds) / 16 % 16, short (dig ds) % 16]
end Go.Proofs.YtkakoiaahgchmaaDoor
namespace Go.Proofs.YtkakoiaahgchmaaDoor
set_option maxRecDepth 100000
open Go.ChangeShapes Go.WideShapes Go.ChangeAt Go.RowKit
end Go.Proofs.YtkakoiaahgchmaaDoor
namespace Go.Proofs.YtkakoiaahgchmaaDoor
set_option maxRecDepth 100000
open Go.ChangeShapes Go.WideShapes Go.ChangeAt Go.RowKit
/-- a row of 32 numbers each, laid flat -/
theorem flat_length {ds : List (List Int)} (h : ∀ d ∈ ds, d.length = 32) : ds.flatten.length = ds.length * 32 := by
  induction ds with
  | nil => rfl
  | cons d ds ih =>
    rw [List.flatten_cons, List.length_append, ih fun x hx => h x (List.mem_cons_of_mem _ hx), h d (List.mem_cons_self ..), List.length_cons]
    omega
theorem flat_at {ds : List (List Int)} (h : ∀ d ∈ ds, d.length = 32) : ∀ (j k : Nat), j < ds.length → k < 32 → ds.flatten[j * 32 + k]? = (ds.getD j [])[k]? := by
  induction ds with
  | nil => intro j k hj; simp at hj
  | cons d ds ih =>
    intro j k hj hk
    have hd := h d (List.mem_cons_self ..)
    rw [List.flatten_cons]
    cases j with
    | zero =>
      rw [List.getElem?_append_left (by omega)]
      simp
    | succ j =>
      rw [List.getElem?_append_right (by omega), hd, show (j + 1) * 32 + k - 32 = j * 32 + k by omega, ih (fun x hx => h x (List.mem_cons_of_mem _ hx)) j k (by simpa using hj) hk]
      simp
theorem flat_set {ds : List (List Int)} (h : ∀ d ∈ ds, d.length = 32) (x : List Int) (hx : x.length = 32) : ∀ (j : Nat), j < ds.length → splice ds.flatten (j * 32) x = (ds.set j x).flatten := by
  induction ds with
  | nil => intro j hj; simp at hj
  | cons d ds ih =>
    intro j hj
    have hd := h d (List.mem_cons_self ..)
    cases j with
    | zero =>
      unfold splice
      simp [hx, hd]
    | succ j =>
      have := ih (fun x hx => h x (List.mem_cons_of_mem _ hx)) j (by simpa using hj)
      unfold splice at this ⊢
      rw [List.set_cons_succ, List.flatten_cons, List.flatten_cons, ← this]
      rw [List.take_append, List.drop_append, hd, List.take_of_length_le (by omega), show (j + 1) * 32 - 32 = j * 32 by omega, List.drop_eq_nil_of_le (by omega), List.nil_append, show (j + 1) * 32 + x.length - 32 = j * 32 + x.length by omega, List.append_assoc]
/-- the cells of a row of digests -/
def dcs (ds : List (List Int)) : Array Value := (ds.flatten.map (Value.int .u8)).toArray
theorem dcs_size {ds : List (List Int)} (h : ∀ d ∈ ds, d.length = 32) : (dcs ds).size = ds.length * 32 := by
  unfold dcs
  rw [List.size_toArray, List.length_map, flat_length h]
theorem dcs_get (ds : List (List Int)) (j : Nat) : (dcs ds)[j]? = (ds.flatten[j]?).map (Value.int .u8) := by
  unfold dcs
  rw [List.getElem?_toArray, List.getElem?_map]
theorem Dg.lens {ds : List (List Int)} (h : ∀ d ∈ ds, Dg d) : ∀ d ∈ ds, d.length = 32 := fun d hd => (h d hd).len
theorem Dg.getD {ds : List (List Int)} (h : ∀ d ∈ ds, Dg d) {j : Nat} (hj : j < ds.length) : Dg (ds.getD j []) := by
  rw [List.getD_eq_getElem?_getD, List.getElem?_eq_getElem hj]
  exact h _ (List.getElem_mem hj)
/-- Digests, in memory that was there. -/
structure DigsAt (w : World) (a : Option Addr) (len cap : Nat) (ds : List (List Int)) : Prop where
  length : ds.length = len
  le : len ≤ cap
  max : cap ≤ 9223372036854775807
  each : ∀ d ∈ ds, Dg d
  mem : (a = none ∧ len = 0 ∧ cap = 0) ∨ ∃ x o s, a = some ⟨x, o, s⟩ ∧ ∀ j, j < len → s = none ∧ x < w.heap.size ∧ w.rangeAt x (o + j * 32) ((ds.getD j []).map (Value.int .u8))
theorem rangeAt_below {w w' : World} {x o : Nat} {cs : List Value} (h : w.rangeAt x o cs) (hx : x < w.heap.size) (hb : Below w.heap.size w w') : w'.rangeAt x o cs := fun j v hv => by
  rw [hb.cell (p := ⟨x, o + j, none⟩) hx]; exact h j v hv
theorem DigsAt.below {w w' : World} {a : Option Addr} {len cap : Nat} {ds : List (List Int)} (h : DigsAt w a len cap ds) (hb : Below w.heap.size w w') : DigsAt w' a len cap ds := by
  obtain ⟨h1, h2, h3, h4, h | ⟨x, o, s, rfl, hc⟩⟩ := h
  · exact ⟨h1, h2, h3, h4, .inl h⟩
  · refine ⟨h1, h2, h3, h4, .inr ⟨x, o, s, rfl, fun j hj => ?_⟩⟩
    obtain ⟨q0, q1, q2⟩ := hc j hj
    exact ⟨q0, Nat.lt_of_lt_of_le q1 hb.size, rangeAt_below q2 q1 hb⟩
theorem DigsAt.nil (w : World) : DigsAt w none 0 0 [] := ⟨rfl, Nat.le_refl _, by omega, by simp, .inl ⟨rfl, rfl, rfl⟩⟩
theorem DigsAt.at_ {w : World} {a : Option Addr} {len cap : Nat} {ds : List (List Int)} (h : DigsAt w a len cap ds) (h0 : 0 < len) : ∃ x o, a = some ⟨x, o, none⟩ ∧ x < w.heap.size ∧ ∀ j, j < len → w.rangeAt x (o + j * 32) ((ds.getD j []).map (Value.int .u8)) := by
  obtain ⟨h1, h2, h3, h4, ⟨_, h, _⟩ | ⟨x, o, s, rfl, hc⟩⟩ := h
  · omega
  · obtain ⟨rfl, hx, _⟩ := hc 0 h0
    exact ⟨x, o, rfl, hx, fun j hj => (hc j hj).2.2⟩
theorem DigsAt.get {w : World} {a : Option Addr} {len cap : Nat} {ds : List (List Int)} (h : DigsAt w a len cap ds) {j : Nat} (hj : j < len) : Dg (ds.getD j []) := Dg.getD h.each (by rw [h.length]; exact hj)
/-- A block of digests, laid flat. -/
theorem Blk.digs {w : World} {g : Nat} {ds : List (List Int)} {T : TypeId} (h : Blk w g (dcs ds) T) (hd : ∀ d ∈ ds, Dg d) : ∀ j, j < ds.length → w.rangeAt g (j * 32) ((ds.getD j []).map (Value.int .u8)) := fun j hj k v hv => by
  have hk : k < 32 := by
    have := (List.getElem?_eq_some_iff.1 hv).1
    simp only [List.length_map, (Dg.getD hd hj).len] at this
    exact this
  rw [h.cell, dcs_get, flat_at (Dg.lens hd) j k hj hk]
  rw [List.getElem?_map] at hv
  exact hv
/-- A digest is stored to a row. -/
theorem Blk.set_dig {w : World} {g : Nat} {ds : List (List Int)} {T : TypeId} (h : Blk w g (dcs ds) T) (hd : ∀ d ∈ ds, Dg d) {x : List Int} (hx : Dg x) {j : Nat} (hj : j < ds.length) :
    Blk (w.setCells g (j * 32) (x.map (Value.int .u8))) g (dcs (ds.set j x)) T := by
  have hl := flat_length (Dg.lens hd)
  unfold dcs at h ⊢
  have h0 : Blk w g (([] : List Value) ++ (ds.flatten.map (Value.int .u8) ++ [])).toArray T := by simpa using h
  have h1 := Blk.setCells [] (ds.flatten.map (Value.int .u8)) [] (j * 32) (x.map (Value.int .u8)) h0 (by simp only [List.length_map, hl, hx.len]; omega)
  have e : (([] : List Value) ++ (splice (ds.flatten.map (Value.int .u8)) (j * 32) (x.map (Value.int .u8)) ++ [])) = (ds.set j x).flatten.map (Value.int .u8) := by
    rw [← flat_set (Dg.lens hd) x hx.len j hj]
    simp [splice]
  rw [e] at h1
  simpa using h1
theorem digest_cells {H : Type} {enc : TypeId × Value → H} {P : Program} {W : World} {base : Nat} {spare : Nat → Bool} {held : Bool} {n : Nat} {e q : TypeId} {cs : List Value} {x : DataW H × List MemPlace} (he : P.underlying e = some (.array 32 q)) (hq : P.underlying q = some (.int .u8))
    (ce : P.cellsOf e = 32) (cq : P.cellsOf q = 1) (h : DataW.trod enc P W base spare held n e cs = some x) : ∃ d : List Int, Dg d ∧ cs = d.map (Value.int .u8) := by
  obtain ⟨ys, m, _, _, hl, hyl, hel⟩ := DataW.trod_array he h
  rw [ce] at hl
  have key : ∀ (j : Nat), j < 32 → ∃ x : Int, cs[j]? = some (.int .u8 x) ∧ (Lit.int .u8 x).wf = true := by
    intro j hj
    have h1 := hel j hj
    have hjl : j < cs.length := by omega
    rw [cq, Nat.mul_one] at h1
    obtain ⟨y, hy⟩ : ∃ y, ys[j]? = some y := ⟨_, List.getElem?_eq_getElem (by omega)⟩
    rw [hy] at h1
    have e1 : (cs.drop j).take 1 = [cs[j]] := by
      rw [List.drop_eq_getElem_cons hjl, List.take_succ_cons, List.take_zero]
    rw [e1] at h1
    obtain ⟨a, e0, _, wa⟩ := DataW.trod_int hq h1
    simp only [List.cons.injEq, and_true] at e0
    exact ⟨a, by rw [List.getElem?_eq_getElem hjl, e0], wa⟩
  refine ⟨cs.map fun v => match v with | .int _ x => x | _ => 0, ⟨by simp; omega, ?_⟩, ?_⟩
  · intro x hx
    simp only [List.mem_map] at hx
    obtain ⟨v, hv, rfl⟩ := hx
    obtain ⟨j, hj, rfl⟩ := List.getElem_of_mem hv
    obtain ⟨x, hx, hw⟩ := key j (by omega)
    rw [List.getElem?_eq_getElem hj] at hx
    rw [Option.some.inj hx]
    exact wf_u8 hw
  · apply List.ext_getElem?
    intro j
    rcases Nat.lt_or_ge j 32 with hj | hj
    · obtain ⟨x, hx, _⟩ := key j hj
      simp [hx]
    · rw [List.getElem?_eq_none (by omega), List.getElem?_eq_none (by simp; omega)]
/-- A row of digests of the call's own. -/
structure OwnD (w : World) (base : Nat) (e : TypeId) (v : Value) (ds : List (List Int)) : Prop where
  row : w.ownsRow base e 32 v ds.length (ds.flatten.map (Value.int .u8))
  each : ∀ d ∈ ds, Dg d
section
variable {P : Program} {w : World} {base : Nat} {t e : TypeId} {i : TypeInfo} {v z : Value} {ds : List (List Int)}
end
section
variable {P : Program} {ops : Array Oper} {rest : List Oper} {op : Oper} {a : Act} {w : World} {Q : Exit → Act → World → Prop} {t e : TypeId}
/-- An element's address. -/
theorem run_indexAt_digs (ht : P.underlying t = some (.slice e)) (hs : (P.info? e).map (·.size) = some 32) (b o len cap : Nat) (k : IntKind) (i : Int) (j : Nat) (hi : i = j) (hj : j < len) (w : World) :
    (Instr.indexAt t (.slice (some ⟨b, o, none⟩) len cap) (.int k i)).run P w = .ok (.pointer (some ⟨b, o + j * 32, none⟩)) w := by
  subst hi
  obtain ⟨i0, hi0, h32⟩ := Option.map_eq_some_iff.1 hs
  have hlt : (0 : Int) ≤ j ∧ (j : Int) < len := by omega
  unfold Instr.indexAt
  simp [asIntOf, Sem.run_bind, run_underlying ht, hlt, sizeOf, typeInfo, hi0, h32, hj, Addr.add_mid]
theorem wpList_index_digs (hgd : op.guard = none) (ty : TypeId) (x ix : Operand) (ho : op.op = .indexAddr ty x ix) (ht : P.underlying ty = some (.slice e)) (hs : (P.info? e).map (·.size) = some 32) (b o len cap : Nat) (hx : a.eval x = .slice (some ⟨b, o, none⟩) len cap)
    (k : IntKind) (i : Int) (hix : a.eval ix = .int k i) (j : Nat) (hi : i = j) (hj : j < len) (h : wpList P ops Q rest (a.put op.dst (.pointer (some ⟨b, o + j * 32, none⟩))) w) : wpList P ops Q (op :: rest) a w :=
  wpList_plain hgd fun K hK => by
    unfold Oper.wp execOp
    simp only [ho, hx, hix, Sem.run_bind, Sem.run_pure, Result.andThen_ok, run_indexAt_digs ht hs b o len cap k i j hi hj, Oper.upon_value]
    exact hK _ _ h
theorem quiet_index_digs {C : World → Prop} {K : Act → Prop} (ty : TypeId) (x ix : Operand) (ho : op.op = .indexAddr ty x ix) (ht : P.underlying ty = some (.slice e)) (hs : (P.info? e).map (·.size) = some 32) (b o len cap : Nat) (hx : a.eval x = .slice (some ⟨b, o, none⟩) len cap)
    (k : IntKind) (i : Int) (hix : a.eval ix = .int k i) (j : Nat) (hi : i = j) (hj : j < len) (h : K (a.put op.dst (.pointer (some ⟨b, o + j * 32, none⟩)))) : op.quiet P a C K :=
  ⟨.pointer (some ⟨b, o + j * 32, none⟩), fun w' hw' => by
    unfold Oper.quietAt execOp
    simp only [ho, hx, hix, Sem.run_bind, Sem.run_pure, Result.andThen_ok, run_indexAt_digs ht hs b o len cap k i j hi hj]
    simp [Oper.quietUpon], h⟩
theorem quiet_load_mid {C : World → Prop} {K : Act → Prop} (ty : TypeId) (x : Operand) (ho : op.op = .load ty x) (b o : Nat) (hx : a.eval x = .pointer (some ⟨b, o, none⟩)) (cs : List Value)
    (hk : ∀ w', C w' → w'.rangeAt b o cs) (d : TypeDesc) (hu : P.underlying ty = some d) (hd : d.isRow = true) (hi : (P.info? ty).map (·.size) = some cs.length)
    (h : K (a.put op.dst (.agg cs.toArray))) : op.quiet P a C K :=
  ⟨.agg cs.toArray, fun w' hw' => by
    unfold Oper.quietAt execOp
    simp only [ho, hx, Instr.loadAt, Instr.sureAddr, Sem.run_bind, Sem.run_pure, Result.andThen_ok, run_loadVar_mid w' b o ty cs d (hk w' hw') hu hd hi]
    simp [Oper.quietUpon], h⟩
end
end Go.Proofs.YtkakoiaahgchmaaDoor
namespace Go.Proofs.YtkakoiaahgchmaaDoor
set_option maxRecDepth 100000
open Go.ChangeShapes Go.WideShapes Go.ChangeAt Go.RowKit
/-- a text that a function hands back -/
def TextV (t : List Int) (v : Value) (w : World) : Prop := ∃ a n c, v = .slice a n c ∧ TextAt w a n c t
theorem TextV.below {t : List Int} {v : Value} {w w' : World} (h : TextV t v w) (hb : Below w.heap.size w w') : TextV t v w' := by
  obtain ⟨a, n, c, h1, h2⟩ := h
  exact ⟨a, n, c, h1, h2.below hb⟩
theorem TextV.of_own {w : World} {base : Nat} {e : TypeId} {v : Value} {bs : List Int} (h : OwnB w base e v bs) : TextV bs v w := by
  obtain ⟨a, c, h1, h2, _⟩ := h.text
  exact ⟨a, _, c, h1, h2⟩
namespace FlowB
theorem store_skips {P : Program} {o : Oper} {A : Act} {w : World} (ty : TypeId) (x y : Operand) (ho : o.op = .store ty x y) (b : Nat) (cells : Array Value) (hx : A.eval x = .pointer (some ⟨b, 0, none⟩)) (hy : A.eval y = .agg cells)
    (cs : Array Value) (T : TypeId) (hk : Blk w b cs T) (n : Nat) (hi : (P.info? ty).map (·.size) = some n) (hs : cs.size = n) (hn : cells.size = n) (h1 : cells.all (·.oneCell') = true) {S : List Nat} {G : World → Prop} (hb : b ∈ S) (hG : ∀ w2, But b w w2 → Blk w2 b cells T → G w2) :
    ∃ w2, (execOp A.eval o).run P w = .ok .skip w2 ∧ ButIn S w w2 ∧ G w2 := by
  obtain ⟨w2, q1, q2, q3⟩ := exec_store_blk ty x y ho b cells hx hy cs T hk n hi hs hn h1
  exact ⟨w2, q1, ButIn.of_but q2 hb, hG w2 q2 q3⟩
end FlowB
end Go.Proofs.YtkakoiaahgchmaaDoor
namespace Go.Proofs.YtkakoiaahgchmaaDoor
set_option maxRecDepth 100000
open Go.ChangeShapes Go.WideShapes Go.ChangeAt Go.RowKit
/-- where a part of a row of digests begins -/
def cutD (a : Option Addr) (l cap : Nat) : Option Addr := if cap = l then a else a.map (·.add (l * 32))
theorem cutD_zero (a : Option Addr) (cap : Nat) : cutD a 0 cap = a := by
  unfold cutD
  split
  · rfl
  · cases a with
    | none => rfl
    | some a => obtain ⟨x, o, s⟩ := a; cases s <;> simp [Addr.add]
theorem DigsAt.cut {w : World} {a : Option Addr} {len cap : Nat} {ds : List (List Int)} (h : DigsAt w a len cap ds) (l hi : Nat) (hl : l ≤ hi) (hh : hi ≤ len) : DigsAt w (cutD a l cap) (hi - l) (cap - l) ((ds.drop l).take (hi - l)) := by
  obtain ⟨h1, h2, h3, h4, h5⟩ := h
  refine ⟨by simp; omega, by omega, by omega, fun x hx => h4 x (List.mem_of_mem_drop (List.mem_of_mem_take hx)), ?_⟩
  unfold cutD
  rcases h5 with ⟨rfl, rfl, rfl⟩ | ⟨x, o, s, rfl, hc⟩
  · left
    refine ⟨by split <;> rfl, by omega, by omega⟩
  · right
    split
    · exact ⟨x, o, s, rfl, fun j hj => by omega⟩
    · rcases Nat.eq_or_lt_of_le hl with rfl | hlt
      · rcases s with _ | s
        · exact ⟨x, o + l * 32, none, by rw [Option.map_some, Addr.add_mid], fun j hj => by omega⟩
        · cases ha : (⟨x, o, some s⟩ : Addr).add (l * 32) with
          | mk x' o' s' => exact ⟨x', o', s', by simp [ha], fun j hj => by omega⟩
      · obtain ⟨rfl, hx, _⟩ := hc l (by omega)
        refine ⟨x, o + l * 32, none, by rw [Option.map_some, Addr.add_mid], fun j hj => ⟨rfl, hx, ?_⟩⟩
        rw [show o + l * 32 + j * 32 = o + (l + j) * 32 by omega]
        have := (hc (l + j) (by omega)).2.2
        rw [show ((ds.drop l).take (hi - l)).getD j [] = ds.getD (l + j) [] by simp [List.getD_eq_getElem?_getD, show j < hi - l by omega]]
        exact this
section
variable {P : Program} {t e : TypeId}
theorem run_cutd_h (ht : P.underlying t = some (.slice e)) (hs : (P.info? e).map (·.size) = some 32) (a : Option Addr) (len cap : Nat) (hi : Int) (w : World) (h0 : 0 ≤ hi) (h2 : hi ≤ cap) :
    (Instr.slice t (.slice a len cap) none (some (.int .i64 hi)) none).run P w = .ok (.slice a hi.toNat cap) w := by
  have he : P.elem t = e := by simp [Program.elem, ht]
  rw [run_slice_h (w := w) t a len cap (by rw [he]; exact ht) _ hi h0 h2]
  obtain ⟨i, hi1, hi2⟩ := Option.map_eq_some_iff.1 hs
  have := cutD_zero a cap
  unfold cutD at this
  simp only [Nat.zero_mul] at this
  simp [sizeOf, typeInfo, he, hi1, hi2, sliced, this]
theorem run_cutd_l (ht : P.underlying t = some (.slice e)) (hs : (P.info? e).map (·.size) = some 32) (a : Option Addr) (len cap : Nat) (l : Int) (w : World) (h0 : 0 ≤ l) (h1 : l ≤ len) :
    (Instr.slice t (.slice a len cap) (some (.int .i64 l)) none none).run P w = .ok (.slice (cutD a l.toNat cap) (len - l.toNat) (cap - l.toNat)) w := by
  have he : P.elem t = e := by simp [Program.elem, ht]
  rw [run_slice_l (w := w) t a len cap (by rw [he]; exact ht) _ l h0 h1]
  obtain ⟨i, hi1, hi2⟩ := Option.map_eq_some_iff.1 hs
  simp [sizeOf, typeInfo, he, hi1, hi2, sliced, cutD]
end
theorem info_dig : (Tryd.prog.info? 23).map (fun i => (i.zero, i.size, i.bytes)) = some (some (.agg (zD.map (Value.int .u8)).toArray), 32, 32) := by kernel_rfl
theorem zD_rows (n : Nat) : madeCells (Value.agg (zD.map (Value.int .u8)).toArray).cells (n * 32) = (dcs (List.replicate n zD)) := by
  unfold dcs
  apply Array.ext'
  have hz : (List.replicate n zD).flatten = List.replicate (n * 32) 0 := by
    unfold zD
    rw [List.flatten_replicate_replicate]
  rw [hz]
  apply List.ext_getElem?
  intro j
  simp only [madeCells, Array.toList_map, Array.toList_range, List.map_replicate, List.getElem?_map, List.getElem?_replicate]
  rcases Nat.lt_or_ge j (n * 32) with hj | hj
  · rw [List.getElem?_range hj, if_pos hj]
    have hm : j % 32 < 32 := Nat.mod_lt _ (by omega)
    have hsz : (zD.map (Value.int .u8)).toArray.size = 32 := by rw [List.size_toArray, List.length_map, Dg.zero.len]
    have hc : (zD.map (Value.int .u8)).toArray[j % 32]! = Value.int .u8 0 := by
      rw [getElem!_pos _ _ (by rw [hsz]; exact hm)]
      simp only [zD, List.map_replicate, List.getElem_toArray, List.getElem_replicate]
    show some ((zD.map (Value.int .u8)).toArray[j % (zD.map (Value.int .u8)).toArray.size]!) = _
    rw [hsz, hc]
  · rw [List.getElem?_eq_none (by simpa using hj), if_neg (by omega)]
    rfl
/-- a row of digests is made -/
theorem make_digs (n : Nat) (i : Int) (hi : i = n) (hn : n ≤ 500000) (w0 : World) : (Instr.makeSlice 24 (.int .i64 i) (.int .i64 i)).run Tryd.prog w0 = .ok (.slice (some ⟨w0.heap.size, 0, none⟩) n n) (w0.alloc (.cells (dcs (List.replicate n zD)) 23)) := by
  subst hi
  obtain ⟨i0, hi, hz0, hz1, hz2⟩ := info_parts info_dig
  have hr := run_makeSlice (P := Tryd.prog) w0 24 23 i0 _ Tryd.underlying24 hi hz0 .i64 .i64 n n (by omega) (by omega) (by rw [hz1]; simp; omega) (by rw [hz2]; omega) (by omega)
  rw [hz1, Int.toNat_natCast, zD_rows] at hr
  exact hr
theorem zRow (n : Nat) : ∀ d ∈ List.replicate n zD, Dg d := fun d hd => by
  rw [List.eq_of_mem_replicate hd]; exact Dg.zero
end Go.Proofs.YtkakoiaahgchmaaDoor
namespace Go.Proofs.YtkakoiaahgchmaaDoor
set_option maxRecDepth 100000
open Go.ChangeShapes Go.WideShapes Go.ChangeAt Go.RowKit
@[irreducible] def joinZ (a b pub ad : List Int) : List Int :=
  hZ (atZ pub (setAd ad (ad.getD 5 0) (ad.getD 6 0) 0)) (xorD a (atZ pub (setAd ad (ad.getD 5 0) (ad.getD 6 0) 1))) (xorD b (atZ pub (setAd ad (ad.getD 5 0) (ad.getD 6 0) 2)))
end Go.Proofs.YtkakoiaahgchmaaDoor
namespace Go.Proofs.YtkakoiaahgchmaaDoor
set_option maxRecDepth 100000
open Go.ChangeShapes Go.WideShapes Go.ChangeAt Go.RowKit
/-- a digest is stored to a row -/
theorem wpList_store_dig {P : Program} {ops : Array Oper} {rest : List Oper} {op : Oper} {a : Act} {w : World} {Q : Exit → Act → World → Prop} (hgd : op.guard = none) (ty : TypeId) (x y : Operand) (ho : op.op = .store ty x y) (b j : Nat) (d : List Int) (hx : a.eval x = .pointer (some ⟨b, 0 + j * 32, none⟩)) (hy : a.eval y = .agg (d.map (Value.int .u8)).toArray)
    (ds : List (List Int)) (T : TypeId) (hk : Blk w b (dcs ds) T) (hds : ∀ d ∈ ds, Dg d) (hd : Dg d) (hj : j < ds.length) (hi : (P.info? ty).map (·.size) = some 32)
    (h : ∀ w', But b w w' → Blk w' b (dcs (ds.set j d)) T → wpList P ops Q rest (a.put op.dst undef) w') : wpList P ops Q (op :: rest) a w := by
  refine wpList_store_mid hgd ty x y ho b (0 + j * 32) (d.map (Value.int .u8)).toArray hx hy (fun k hk' => ⟨?_, hk.free _⟩) (by rw [hi, hd.size]) (ints_one _ _) ?_
  · rw [hd.size] at hk'
    rw [hk.cell, Array.getElem?_eq_getElem (by rw [dcs_size (Dg.lens hds)]; omega)]; rfl
  · rw [Nat.zero_add]
    exact h _ (But.setCells _ _ _ (But.of (Below.refl _ _))) (hk.set_dig hds hd hj)
def aboveZ (pub ad : List Int) (lev : Int) (ds : List (List Int)) : List (List Int) :=
  ((List.range (ds.length / 2)).map fun (i : Nat) => joinZ (ds.getD (2 * i) []) (ds.getD (2 * i + 1) []) pub (setAd ad lev i 0)) ++ ds.drop (ds.length - ds.length % 2)
/-- the row, while it is filled -/
def fillZ (pub ad : List Int) (lev : Int) (ds : List (List Int)) (k : Nat) : List (List Int) :=
  ((List.range k).map fun (i : Nat) => joinZ (ds.getD (2 * i) []) (ds.getD (2 * i + 1) []) pub (setAd ad lev i 0)) ++ (List.replicate (ds.length / 2 - k) zD ++ ds.drop (ds.length - ds.length % 2))
end Go.Proofs.YtkakoiaahgchmaaDoor
namespace Go.Proofs.YtkakoiaahgchmaaDoor
set_option maxRecDepth 100000
open Go.ChangeShapes Go.WideShapes Go.ChangeAt Go.RowKit
def compZ (pub ad : List Int) : Nat → Nat → List (List Int) → List Int
  | 0, _, ds => ds.getD 0 []
  | f + 1, lev, ds => if ds.length ≤ 1 then ds.getD 0 [] else compZ pub ad f (lev + 1) (aboveZ pub ad lev ds)
end Go.Proofs.YtkakoiaahgchmaaDoor
namespace Go.Proofs.YtkakoiaahgchmaaDoor
set_option maxRecDepth 100000
open Go.ChangeShapes Go.WideShapes Go.ChangeAt Go.RowKit
theorem fold_set : ∀ (vs : List Value) (k off : Nat) (acc : Array Value), off + k + vs.length ≤ acc.size → ((vs.zipIdx k).foldl (fun cs (x : Value × Nat) => cs.setIfInBounds (off + x.2) x.1) acc).toList = splice acc.toList (off + k) vs
  | [], k, off, acc, h => by simp [splice]
  | v :: vs, k, off, acc, h => by
    simp only [List.length_cons] at h
    rw [List.zipIdx_cons, List.foldl_cons, fold_set vs (k + 1) off _ (by rw [Array.size_setIfInBounds]; omega)]
    unfold splice
    rw [Array.toList_setIfInBounds, show off + (k + 1) = (off + k) + 1 by omega, List.drop_set_of_lt (by omega), List.length_cons, show off + k + 1 + vs.length = off + k + (vs.length + 1) by omega]
    rw [List.take_succ_eq_append_getElem (by rw [List.length_set, Array.length_toList]; omega), List.take_set_of_le (Nat.le_refl _), List.getElem_set_self]
    simp
section
variable {P : Program}
end
end Go.Proofs.YtkakoiaahgchmaaDoor
namespace Go.Proofs.YtkakoiaahgchmaaDoor
set_option maxRecDepth 100000
open Go.ChangeShapes Go.WideShapes Go.ChangeAt Go.RowKit
namespace FlowB
theorem ButIn.of_grown {w w' : World} {v : Value} (h : w.grownBy w' v.ownBlock) : ButIn v.ownBlock.toList w w' :=
  ⟨h.os, h.tape, h.output, h.size, fun k hk hc => h.block k hk (fun e => hc (by rw [← e]; simp))⟩
theorem st_butIn {S : List Nat} {w : World} (obj : Obj) (hS : ∀ g ∈ S, g < w.heap.size) : St (ButIn S) w obj := fun w1 w2 b _ h2 hb h => by
  rw [h2.block b (Array.getElem?_eq_some_iff.1 h).1 (fun e => by have := hS b e; omega)]
  exact h
end FlowB
end Go.Proofs.YtkakoiaahgchmaaDoor
namespace Go.Proofs.YtkakoiaahgchmaaDoor
set_option maxRecDepth 100000
open Go.ChangeShapes Go.WideShapes Go.ChangeAt Go.RowKit
def sD : List Int := 7 :: List.replicate 31 0
def zA : List Int := List.replicate 8 0
end Go.Proofs.YtkakoiaahgchmaaDoor
namespace Go.Proofs.YtkakoiaahgchmaaDoor
set_option maxRecDepth 100000
open Go.ChangeShapes Go.WideShapes Go.ChangeAt Go.RowKit
def rowW (P : Nat → List Int) : List (List Int) := (List.range 67).map P
def fillW (P : Nat → List Int) (k : Nat) : List (List Int) := (List.range k).map P ++ List.replicate (67 - k) zD
end Go.Proofs.YtkakoiaahgchmaaDoor
namespace Go.Proofs.YtkakoiaahgchmaaDoor
set_option maxRecDepth 100000
open Go.ChangeShapes Go.WideShapes Go.ChangeAt Go.RowKit
section
variable {P : Program} {ops : Array Oper} {rest : List Oper} {op : Oper} {a : Act} {w : World} {Q : Exit → Act → World → Prop}
theorem run_load_one {ty : TypeId} {ad : Addr} {v : Value} (w' : World) (hk : w'.cell? ad = some v) (d : TypeDesc) (hu : P.underlying ty = some d) (hd : d.isRow = false) : (loadVar ty ad).run P w' = .ok v w' := by
  have hagg : (isAgg ty).run P w' = .ok false w' := by
    unfold isAgg
    rw [Sem.run_bind, run_underlying hu w']
    cases d <;> simp_all
  simp [loadVar, Sem.run_bind, hagg, hk]
theorem quiet_load_one {C : World → Prop} {K : Act → Prop} (ty : TypeId) (x : Operand) (ho : op.op = .load ty x) (ad : Addr) (hx : a.eval x = .pointer (some ad)) (v : Value)
    (hk : ∀ w', C w' → w'.cell? ad = some v) (d : TypeDesc) (hu : P.underlying ty = some d) (hd : d.isRow = false)
    (h : K (a.put op.dst v)) : op.quiet P a C K :=
  ⟨v, fun w' hw' => by
    unfold Oper.quietAt execOp
    simp only [ho, hx, Instr.loadAt, Instr.sureAddr, Sem.run_bind, Sem.run_pure, Result.andThen_ok, run_load_one w' (hk w' hw') d hu hd]
    simp [Oper.quietUpon], h⟩
end
/-- The digit at a place. -/
def dgN (m : List Int) (i : Nat) : Nat := ((digits m).getD i 0).toNat
def partZ (seed ad : List Int) (i : Nat) : List Int := atZ seed (setAd ad i 0 0)
def pubP (seed pub ad : List Int) (i : Nat) : List Int := runZ pub (setAd ad i 0 0) (partZ seed ad i) 0 15
def sigP (m seed pub ad : List Int) (i : Nat) : List Int := runZ pub (setAd ad i 0 0) (partZ seed ad i) 0 (dgN m i)
def fromP (l : List (List Int)) (m pub ad : List Int) (i : Nat) : List Int := runZ pub (setAd ad i 0 0) (l.getD i zD) (dgN m i) (15 - dgN m i)
end Go.Proofs.YtkakoiaahgchmaaDoor
namespace Go.Proofs.YtkakoiaahgchmaaDoor
set_option maxRecDepth 100000
open Go.ChangeShapes Go.WideShapes Go.ChangeAt Go.RowKit
section
variable {P : Program} {ops : Array Oper} {rest : List Oper} {op : Oper} {a : Act} {w : World} {Q : Exit → Act → World → Prop}
end
end Go.Proofs.YtkakoiaahgchmaaDoor
namespace Go.Proofs.YtkakoiaahgchmaaDoor
set_option maxRecDepth 100000
open Go.ChangeShapes Go.WideShapes Go.ChangeAt Go.RowKit
def preW (P : Nat → List Int) (k : Nat) : List (List Int) := (List.range k).map P
/-- A row of digests, wherever it lies. -/
def RowV (n : Nat) (ds : List (List Int)) (v : Value) (w : World) : Prop := ∃ a cap, v = .slice a n cap ∧ DigsAt w a n cap ds
/-- 67 numbers, wherever they lie. -/
def IntV (F : Nat → Nat) (v : Value) (w : World) : Prop := ∃ g cap, v = .slice (some ⟨g, 0, none⟩) 67 cap ∧ g < w.heap.size ∧ ∀ i, i < 67 → w.cell? ⟨g, i, none⟩ = some (.int .i64 (F i : Int))
end Go.Proofs.YtkakoiaahgchmaaDoor
namespace Go.Proofs.YtkakoiaahgchmaaDoor
set_option maxRecDepth 100000
open Go.ChangeShapes Go.WideShapes Go.ChangeAt Go.RowKit
end Go.Proofs.YtkakoiaahgchmaaDoor
namespace Go.Proofs.YtkakoiaahgchmaaDoor
set_option maxRecDepth 100000
open Go.ChangeShapes Go.WideShapes Go.ChangeAt Go.RowKit
/-- The greatest power of two below a number. -/
def halfN (n : Nat) : Nat := 2 ^ Nat.log2 (n - 1)
/-- What a text's leaf is. -/
@[irreducible] def leafL (m : List Int) : List Int := sumZ (0 :: m)
/-- What the node above two is. -/
@[irreducible] def nodeL (a b : List Int) : List Int := sumZ (1 :: (a ++ b))
theorem Dg.leafL (m : List Int) : Dg (leafL m) := by unfold Go.Proofs.YtkakoiaahgchmaaDoor.leafL; exact Dg.sum _
theorem Dg.nodeL (a b : List Int) : Dg (nodeL a b) := by unfold Go.Proofs.YtkakoiaahgchmaaDoor.nodeL; exact Dg.sum _
/-- A log's root: so many calls are enough. -/
def rootL : Nat → List (List Int) → List Int
  | 0, _ => zD
  | f + 1, ts => if ts.length = 0 then zD else if ts.length = 1 then leafL (ts.getD 0 []) else nodeL (rootL f (ts.take (halfN ts.length))) (rootL f (ts.drop (halfN ts.length)))
/-- where a part of a row of texts begins -/
def cutS (a : Option Addr) (l cap : Nat) : Option Addr := if cap = l then a else a.map (·.add (l * 1))
set_option maxHeartbeats 4000000 in
theorem loleaf_any (ta : Option Addr) (tn tc : Nat) (m : List Int) (w : World) (hT : TextAt w ta tn tc m) (hn : tn ≤ 1000000000000000) (tab : ShaTab w) :
    Calls Tryd.prog 45 #[.slice ta tn tc] w fun e w' => e = .returned (.agg ((leafL m).map (Value.int .u8)).toArray) ∧ Below w.heap.size w w' := by
  have hTl := hT.length
  have CS := hid (fun (W : World) (g g0 : Nat) (h : Blk W g #[.slice (some ⟨g0, 0, none⟩) 1 1, .slice ta tn tc] 29) (h0 : Blk W g0 (([0] : List Int).map (Value.int .u8)).toArray 5) (ht : TextAt W ta tn tc m) (t : ShaTab W) => sum_any (some ⟨g, 0, none⟩) 2 2 [[0], m] W (TextsAt.of_blk h rfl (Nat.le_refl _) (by omega) fun j hj => by
    match j, hj with
    | 0, _ => exact ⟨_, _, _, rfl, TextAt.of_ints h0 rfl (by omega) (by simp)⟩
    | 1, _ => exact ⟨_, _, _, rfl, ht⟩) (by simp only [sumLen, List.map_cons, List.map_nil, List.sum_cons, List.sum_nil, List.length_cons, List.length_nil]; omega) t)
  have HX := hid (Dg.leafL m)
  rw [show ([[0], m] : List (List Int)).flatten = 0 :: m by simp, show sumZ (0 :: m) = leafL m by unfold leafL; rfl] at CS
  generalize leafL m = X at *
  have b1 := (Below.refl w.heap.size w).alloc (Nat.le_refl _) (.cells (byteCells 32 []) 23 (0, 0))
  have Kr := hid (Blk.new (w := w) (n := w.heap.size) rfl (byteCells 32 []) 23)
  have Hb := hid b1
  have hbz := b1.size
  have Hbs := hid (show w.heap.size + 1 = (w.alloc (.cells (byteCells 32 []) 23 (0, 0))).heap.size by simp only [World.size_alloc])
  have Htab := hid tab
  clear b1 tab 
  go_enter Tryd.func45, Tryd.ntmps45
  go_wp2_with fail
  have c1 := Hb.out.alloc Hb.out.size (.cells #[.int .u8 0] 5 (0, 0))
  have c2 := c1.alloc c1.size (.cells #[.slice (some ⟨w.heap.size + 1, 0, none⟩) 1 1, .slice ta tn tc] 29 (0, 0))
  have k1 : Blk (((w.alloc (.cells (byteCells 32 []) 23 (0, 0))).alloc (.cells #[.int .u8 0] 5 (0, 0))).alloc (.cells #[.slice (some ⟨w.heap.size + 1, 0, none⟩) 1 1, .slice ta tn tc] 29 (0, 0))) (w.heap.size + 1) (([0] : List Int).map (Value.int .u8)).toArray 5 := (Blk.new (w := (w.alloc (.cells (byteCells 32 []) 23 (0, 0)))) (n := w.heap.size + 1) (by simp only [World.size_alloc]) #[.int .u8 0] 5).old (.cells #[.slice (some ⟨w.heap.size + 1, 0, none⟩) 1 1, .slice ta tn tc] 29 (0, 0))
  have k2 : Blk (((w.alloc (.cells (byteCells 32 []) 23 (0, 0))).alloc (.cells #[.int .u8 0] 5 (0, 0))).alloc (.cells #[.slice (some ⟨w.heap.size + 1, 0, none⟩) 1 1, .slice ta tn tc] 29 (0, 0))) (w.heap.size + 1 + 1) #[.slice (some ⟨w.heap.size + 1, 0, none⟩) 1 1, .slice ta tn tc] 29 := Blk.new (w := (w.alloc (.cells (byteCells 32 []) 23 (0, 0))).alloc (.cells #[.int .u8 0] 5 (0, 0))) (n := w.heap.size + 1 + 1) (by simp only [World.size_alloc]) _ _
  have kr := (Kr.out.old (.cells #[.int .u8 0] 5 (0, 0))).old (.cells #[.slice (some ⟨w.heap.size + 1, 0, none⟩) 1 1, .slice ta tn tc] 29 (0, 0))
  refine (CS.out _ _ _ k2 k1 (hT.below c2) (Htab.out.below c2)).mono ?_
  rintro e w5 ⟨rfl, b5⟩
  have HBw5 := hid (Below.on c2 b5)
  have Krw5 := hid (kr.below b5)
  clear c1 c2 k1 k2 kr b5
  go_wp2_with (
      refine wpList_store_blk rfl 23 _ _ rfl (w.heap.size) (X.map (Value.int .u8)).toArray rfl rfl _ 23 Krw5.out 32 size_digest zsize HX.out.size (ints_one _ _) ?_
      intro w9 hb9 hk9
      have HB9 := hid (hb9.below HBw5.out HBw5.out.size (by omega))
      have HK9 := hid hk9
      clear hb9 hk9)
  exact bodyPost_ret (v := .agg (X.map (Value.int .u8)).toArray) (results_blk Tryd.results45 _ (w.heap.size) rfl _ 23 HK9.out _ Tryd.underlying23 rfl 32 size_digest HX.out.size) rfl ⟨rfl, HB9.out⟩
set_option maxHeartbeats 4000000 in
theorem lonode_any (a b : List Int) (w : World) (ha : Dg a) (hb_ : Dg b) (tab : ShaTab w) :
    Calls Tryd.prog 57 #[.agg (a.map (Value.int .u8)).toArray, .agg (b.map (Value.int .u8)).toArray] w fun e w' => e = .returned (.agg ((nodeL a b).map (Value.int .u8)).toArray) ∧ Below w.heap.size w w' := by
  have CS := hid (fun (W : World) (g g0 : Nat) (h : Blk W g #[.slice (some ⟨g0, 0, none⟩) 1 1, .slice (some ⟨w.heap.size, 0, none⟩) 32 32, .slice (some ⟨w.heap.size + 1, 0, none⟩) 32 32] 29) (h0 : Blk W g0 (([1] : List Int).map (Value.int .u8)).toArray 5) (ka : Blk W w.heap.size (a.map (Value.int .u8)).toArray 23) (kb : Blk W (w.heap.size + 1) (b.map (Value.int .u8)).toArray 23) (t : ShaTab W) => sum_any (some ⟨g, 0, none⟩) 3 3 [[1], a, b] W (TextsAt.of_blk h rfl (Nat.le_refl _) (by omega) fun j hj => by
    match j, hj with
    | 0, _ => exact ⟨_, _, _, rfl, TextAt.of_ints h0 rfl (by omega) (by simp)⟩
    | 1, _ => exact ⟨_, _, _, rfl, ha.text ka⟩
    | 2, _ => exact ⟨_, _, _, rfl, hb_.text kb⟩) (by simp only [sumLen, List.map_cons, List.map_nil, List.sum_cons, List.sum_nil, List.length_cons, List.length_nil, ha.len, hb_.len]; omega) t)
  have HX := hid (Dg.nodeL a b)
  rw [show ([[1], a, b] : List (List Int)).flatten = 1 :: (a ++ b) by simp, show sumZ (1 :: (a ++ b)) = nodeL a b by unfold nodeL; rfl] at CS
  generalize nodeL a b = X at *
  have b1 := (Below.refl w.heap.size w).alloc (Nat.le_refl _) (.cells (a.map (Value.int .u8)).toArray 23 (0, 0))
  have b2 := b1.alloc b1.size (.cells (b.map (Value.int .u8)).toArray 23 (0, 0))
  have b3 := b2.alloc b2.size (.cells (byteCells 32 []) 23 (0, 0))
  have Ka := hid (((Blk.new (w := w) (n := w.heap.size) rfl (a.map (Value.int .u8)).toArray 23).old (.cells (b.map (Value.int .u8)).toArray 23 (0, 0))).old (.cells (byteCells 32 []) 23 (0, 0)))
  have Kb := hid ((Blk.new (w := (w.alloc (.cells (a.map (Value.int .u8)).toArray 23 (0, 0)))) (n := w.heap.size + 1) (by simp only [World.size_alloc]) (b.map (Value.int .u8)).toArray 23).old (.cells (byteCells 32 []) 23 (0, 0)))
  have Kr := hid (Blk.new (w := ((w.alloc (.cells (a.map (Value.int .u8)).toArray 23 (0, 0))).alloc (.cells (b.map (Value.int .u8)).toArray 23 (0, 0)))) (n := w.heap.size + 1 + 1) (by simp only [World.size_alloc]) (byteCells 32 []) 23)
  have Hb := hid b3
  have hbz := b3.size
  have Hbs := hid (show w.heap.size + 1 + 1 + 1 = (((w.alloc (.cells (a.map (Value.int .u8)).toArray 23 (0, 0))).alloc (.cells (b.map (Value.int .u8)).toArray 23 (0, 0))).alloc (.cells (byteCells 32 []) 23 (0, 0))).heap.size by simp only [World.size_alloc])
  have Htab := hid tab
  clear b1 b2 b3 tab 
  go_enter Tryd.func57, Tryd.ntmps57
  go_wp2_with fail
  refine wp_region_flow 5 [1, 2] [0] [(.b 0, [], [3]), (.b 3, [4], [])] (by kernel_rfl) (by kernel_rfl) ?_
  apply Exists.intro
  refine ⟨fun w0 hb0 hF0 => ?_, ?_⟩
  · skip
    simp only [pick, List.getElem?_toArray, List.getElem?_cons_succ, List.getElem?_cons_zero, Option.toList_some, List.cons_append, List.nil_append]
    repeat (first | go_big_quiet_step (fail))
    exact wpQuiet_nil rfl
  refine AlChk.one rfl (fun b => .slice (some ⟨b, 0, none⟩) 1 1) (.cells #[.int .u8 1] 5 (0, 0)) rfl (fun w3 hb3 hF3 => by go_simp) ?_
  refine AlChk.nil ?_
  refine Walk.blk rfl (fun b => .slice (some ⟨b, 0, none⟩) 1 1) (.cells #[.int .u8 1] 5 (0, 0)) (by simp) ?_
  intro b8 w1 hb1 hF1 hge1 _
  apply Exists.intro
  refine ⟨fun w2 hb2 hF2 => wpQuiet_nil rfl, ?_⟩
  refine AlChk.one rfl (fun b => .slice (some ⟨b, 0, none⟩) 3 3) (.cells #[.slice (some ⟨b8, 0, none⟩) 1 1, .slice (some ⟨w.heap.size, 0, none⟩) 32 32, .slice (some ⟨w.heap.size + 1, 0, none⟩) 32 32] 29 (0, 0)) rfl (fun w3 hb3 hF3 => by go_simp) ?_
  refine AlChk.nil ?_
  refine Walk.blk rfl (fun b => .slice (some ⟨b, 0, none⟩) 3 3) (.cells #[.slice (some ⟨b8, 0, none⟩) 1 1, .slice (some ⟨w.heap.size, 0, none⟩) 32 32, .slice (some ⟨w.heap.size + 1, 0, none⟩) 32 32] 29 (0, 0)) (by simp) ?_
  intro b9 w2 hb2 hF2 hge2 _
  apply Exists.intro
  refine ⟨fun w0 hb0 hF0 => ?_, ?_⟩
  · have k9 : Blk w0 b9 #[.slice (some ⟨b8, 0, none⟩) 1 1, .slice (some ⟨w.heap.size, 0, none⟩) 32 32, .slice (some ⟨w.heap.size + 1, 0, none⟩) 32 32] 29 := hF0.2
    have k8 : Blk w0 b8 (([1] : List Int).map (Value.int .u8)).toArray 5 := hF0.1.2
    have hs := fun e : Ext w0 => CS.out e.at_ b9 b8 (k9.below e.same) (k8.below e.same) ((Ka.out.below hb0).below e.same) ((Kb.out.below hb0).below e.same) ((Htab.out.below (Below.on Hb.out hb0)).below e.same)
    simp only [pick, List.getElem?_toArray, List.getElem?_cons_succ, List.getElem?_cons_zero, Option.toList_some, List.cons_append, List.nil_append, Act.put, List.setIfInBounds_toArray, List.set_cons_zero, List.set_cons_succ]
    repeat (go_big_quiet_step (first | (go_at_call 59; exact Calls.ext (hs _))))
    exact wpQuiet_nil rfl
  refine AlChk.nil ?_
  refine Walk.fin fun w4 h4 _ _ => ?_
  simp only [List.drop_succ_cons, List.drop_zero]
  have HBw4 := hid (Below.on Hb.out h4)
  have hsw4 := HBw4.out.size
  have Kaw4 := hid (Ka.out.below h4)
  have Kbw4 := hid (Kb.out.below h4)
  have Krw4 := hid (Kr.out.below h4)
  clear h4
  go_wp2_with (
      refine wpList_store_blk rfl 23 _ _ rfl (w.heap.size + 1 + 1) (X.map (Value.int .u8)).toArray rfl rfl _ 23 Krw4.out 32 size_digest zsize HX.out.size (ints_one _ _) ?_
      intro w9 hb9 hk9
      have HB9 := hid (hb9.below HBw4.out HBw4.out.size (by omega))
      have HK9 := hid hk9
      clear hb9 hk9)
  exact bodyPost_ret (v := .agg (X.map (Value.int .u8)).toArray) (results_blk Tryd.results57 _ (w.heap.size + 1 + 1) rfl _ 23 HK9.out _ Tryd.underlying23 rfl 32 size_digest HX.out.size) rfl ⟨rfl, HB9.out⟩
end Go.Proofs.YtkakoiaahgchmaaDoor
namespace Go.Proofs.YtkakoiaahgchmaaDoor
set_option maxRecDepth 100000
open Go.ChangeShapes Go.WideShapes Go.ChangeAt Go.RowKit
section
variable {P : Program} {ops : Array Oper} {rest : List Oper} {op : Oper} {a : Act} {w : World} {Q : Exit → Act → World → Prop} {t e : TypeId}
/-- An element's address, of elements of s cells. -/
theorem run_indexAt_s (s : Nat) (ht : P.underlying t = some (.slice e)) (hs : (P.info? e).map (·.size) = some s) (b o len cap : Nat) (k : IntKind) (i : Int) (j : Nat) (hi : i = j) (hj : j < len) (w : World) :
    (Instr.indexAt t (.slice (some ⟨b, o, none⟩) len cap) (.int k i)).run P w = .ok (.pointer (some ⟨b, o + j * s, none⟩)) w := by
  subst hi
  obtain ⟨i0, hi0, h32⟩ := Option.map_eq_some_iff.1 hs
  have hlt : (0 : Int) ≤ j ∧ (j : Int) < len := by omega
  unfold Instr.indexAt
  simp [asIntOf, Sem.run_bind, run_underlying ht, hlt, sizeOf, typeInfo, hi0, h32, hj, Addr.add_mid]
theorem quiet_index_s (s : Nat) {C : World → Prop} {K : Act → Prop} (ty : TypeId) (x ix : Operand) (ho : op.op = .indexAddr ty x ix) (ht : P.underlying ty = some (.slice e)) (hs : (P.info? e).map (·.size) = some s) (b o len cap : Nat) (hx : a.eval x = .slice (some ⟨b, o, none⟩) len cap)
    (k : IntKind) (i : Int) (hix : a.eval ix = .int k i) (j : Nat) (hi : i = j) (hj : j < len) (h : K (a.put op.dst (.pointer (some ⟨b, o + j * s, none⟩)))) : op.quiet P a C K :=
  ⟨.pointer (some ⟨b, o + j * s, none⟩), fun w' hw' => by
    unfold Oper.quietAt execOp
    simp only [ho, hx, hix, Sem.run_bind, Sem.run_pure, Result.andThen_ok, run_indexAt_s s ht hs b o len cap k i j hi hj]
    simp [Oper.quietUpon], h⟩
end
/-- The way of a place. -/
def pathL : Nat → List (List Int) → Nat → List (List Int)
  | 0, _, _ => []
  | f + 1, ts, i => if ts.length = 1 then [] else if i < halfN ts.length then pathL f (ts.take (halfN ts.length)) i ++ [rootL f (ts.drop (halfN ts.length))] else pathL f (ts.drop (halfN ts.length)) (i - halfN ts.length) ++ [rootL f (ts.take (halfN ts.length))]
/-- The way from a beginning. -/
def growL : Nat → List (List Int) → Nat → Bool → List (List Int)
  | 0, _, _, _ => []
  | f + 1, ts, m, cut => if m = ts.length then (if cut then [rootL (f + 1) ts] else []) else if m ≤ halfN ts.length then growL f (ts.take (halfN ts.length)) m cut ++ [rootL f (ts.drop (halfN ts.length))] else growL f (ts.drop (halfN ts.length)) (m - halfN ts.length) true ++ [rootL f (ts.take (halfN ts.length))]
section
variable {P : Program} {ops : Array Oper} {rest : List Oper} {op : Oper} {a : Act} {w : World} {Q : Exit → Act → World → Prop}
end
end Go.Proofs.YtkakoiaahgchmaaDoor
namespace Go.Proofs.YtkakoiaahgchmaaDoor
set_option maxRecDepth 100000
open Go.ChangeShapes Go.WideShapes Go.ChangeAt Go.RowKit
section
variable {P : Program} {ops : Array Oper} {rest : List Oper} {op : Oper} {a : Act} {w : World} {Q : Exit → Act → World → Prop}
/-- One cell is stored. -/
theorem run_store_one {ty : TypeId} {b o : Nat} {v : Value} {cs : Array Value} {T : TypeId} (w : World) (hk : Blk w b cs T) (ho : o < cs.size) (hi : (P.info? ty).map (·.size) = some 1) (h1 : v.oneCell' = true) (hc : v.cells = #[v]) :
    (storeVar ty ⟨b, o, none⟩ v).run P w = .ok () (w.setCells b o [v]) := by
  have h := run_storeVar_mid (P := P) w b o ty #[v] (fun j hj => ⟨by
    simp only [List.size_toArray, List.length_cons, List.length_nil] at hj
    rw [hk.cell, Array.getElem?_eq_getElem (by omega)]; rfl, hk.free _⟩) (by rw [hi]; rfl) (by simp [h1])
  unfold storeVar at *
  rw [hc]
  exact h
theorem wpList_store_cell (hgd : op.guard = none) (ty : TypeId) (x y : Operand) (ho : op.op = .store ty x y) (b o : Nat) (v : Value) (hx : a.eval x = .pointer (some ⟨b, o, none⟩)) (hy : a.eval y = v) (h1 : v.oneCell' = true) (hc : v.cells = #[v])
    (cs : Array Value) (T : TypeId) (hk : Blk w b cs T) (hlt : o < cs.size) (hi : (P.info? ty).map (·.size) = some 1)
    (h : ∀ w', But b w w' → Blk w' b (cs.setIfInBounds o v) T → wpList P ops Q rest (a.put op.dst undef) w') : wpList P ops Q (op :: rest) a w :=
  wpList_plain hgd fun K hK => by
    unfold Oper.wp execOp
    simp only [ho, hx, hy, Instr.storeAt, Instr.sureAddr, Sem.run_bind, Sem.run_pure, Result.andThen_ok, run_store_one w hk hlt hi h1 hc, Oper.upon_skip]
    exact hK _ _ (h _ (But.setCells [v] o w (But.of (Below.refl _ _))) (hk.set o v))
end
/-- What is taken, where so many are left. -/
def takeZ (ds : List (List Int)) (left : Int) : List Int := if left - 1 < 0 then zD else ds.getD (left - 1).toNat []
/-- What lies around while a way is climbed. -/
structure HEnv (w : World) (bb bt ba bl bw : Nat) (ta : Option Addr) (tn tc : Nat) (m : List Int) (ya : Option Addr) (yn yc : Nat) (ds : List (List Int)) : Prop where
  kb : Blk w bb #[.slice ta tn tc] 29
  kt : Blk w bt #[.func (.func 75) #[] #[.pointer (some ⟨bl, 0, none⟩), .pointer (some ⟨bw, 0, none⟩)]] 88
  ka : Blk w ba #[.func (.func 55) #[] #[.pointer (some ⟨bb, 0, none⟩), .pointer (some ⟨bt, 0, none⟩), .pointer (some ⟨ba, 0, none⟩)]] 91
  kw : Blk w bw #[.slice ya yn yc] 24
  text : TextAt w ta tn tc m
  way : DigsAt w ya yn yc ds
  tab : ShaTab w
  nb : bb ≠ bl
  nt : bt ≠ bl
  na : ba ≠ bl
  nw : bw ≠ bl
/-- What climbing from a leaf comes to, and how many digests are left then. -/
def upZ : Nat → List Int → Nat → Int → List (List Int) → Int → List Int × Int
  | 0, X, _, _, _, left => (X, left)
  | f + 1, X, n, i, ds, left => if n = 1 then (X, left) else if i < halfN n then
      (nodeL (upZ f X (halfN n) i ds (left - 1)).1 (takeZ ds left), (upZ f X (halfN n) i ds (left - 1)).2)
    else (nodeL (takeZ ds left) (upZ f X (n - halfN n) (i - halfN n) ds (left - 1)).1, (upZ f X (n - halfN n) (i - halfN n) ds (left - 1)).2)
end Go.Proofs.YtkakoiaahgchmaaDoor
namespace Go.Proofs.YtkakoiaahgchmaaDoor
set_option maxRecDepth 100000
open Go.ChangeShapes Go.WideShapes Go.ChangeAt Go.RowKit
theorem st_butIn {b : Nat} {w : World} (obj : Obj) (hb : b < w.heap.size) : FlowB.St (FlowB.ButIn [b]) w obj := fun w1 w2 c h1 h2 hc ho => by
  have hlt : c < w1.heap.size := by
    have := (Array.getElem?_eq_some_iff.1 ho).1
    exact this
  rw [h2.block c hlt (by simp only [List.mem_cons, List.not_mem_nil, or_false]; omega)]
  exact ho
end Go.Proofs.YtkakoiaahgchmaaDoor
namespace Go.Proofs.YtkakoiaahgchmaaDoor
set_option maxRecDepth 100000
open Go.ChangeShapes Go.WideShapes Go.ChangeAt Go.RowKit
/-- Climbing, as the reference does it: with the digests that are left. -/
def upR : Nat → List Int → Nat → Nat → List (List Int) → List Int × Bool
  | 0, X, _, _, _ => (X, false)
  | f + 1, X, n, i, ds => if n = 1 then (X, decide (ds.length = 0)) else if ds.length = 0 then (X, false) else if i < halfN n then
      (nodeL (upR f X (halfN n) i (ds.take (ds.length - 1))).1 (ds.getD (ds.length - 1) []), (upR f X (halfN n) i (ds.take (ds.length - 1))).2)
    else (nodeL (ds.getD (ds.length - 1) []) (upR f X (n - halfN n) (i - halfN n) (ds.take (ds.length - 1))).1, (upR f X (n - halfN n) (i - halfN n) (ds.take (ds.length - 1))).2)
end Go.Proofs.YtkakoiaahgchmaaDoor
namespace Go.Proofs.YtkakoiaahgchmaaDoor
set_option maxRecDepth 100000
open Go.ChangeShapes Go.WideShapes Go.ChangeAt Go.RowKit
structure GEnv (w : World) (ba bt bs bl bw : Nat) (A : List Int) (ya : Option Addr) (yn yc : Nat) (ds : List (List Int)) : Prop where
  kb : Blk w ba (A.map (Value.int .u8)).toArray 23
  kt : Blk w bt #[.func (.func 75) #[] #[.pointer (some ⟨bl, 0, none⟩), .pointer (some ⟨bw, 0, none⟩)]] 88
  ka : Blk w bs #[.func (.func 58) #[] #[.pointer (some ⟨ba, 0, none⟩), .pointer (some ⟨bt, 0, none⟩), .pointer (some ⟨bs, 0, none⟩)]] 93
  kw : Blk w bw #[.slice ya yn yc] 24
  way : DigsAt w ya yn yc ds
  tab : ShaTab w
  nb : ba ≠ bl
  nt : bt ≠ bl
  na : bs ≠ bl
  nw : bw ≠ bl
/-- What climbing from a beginning comes to, and how many digests are left then. -/
def groZ : Nat → List Int → Nat → Nat → Bool → List (List Int) → Int → (List Int × List Int) × Int
  | 0, A, _, _, _, _, left => ((A, A), left)
  | f + 1, A, m, n, cut, ds, left => if m = n then (if cut then ((takeZ ds left, takeZ ds left), left - 1) else ((A, A), left))
    else if m ≤ halfN n then
      (((groZ f A m (halfN n) cut ds (left - 1)).1.1, nodeL (groZ f A m (halfN n) cut ds (left - 1)).1.2 (takeZ ds left)), (groZ f A m (halfN n) cut ds (left - 1)).2)
    else ((nodeL (takeZ ds left) (groZ f A (m - halfN n) (n - halfN n) true ds (left - 1)).1.1, nodeL (takeZ ds left) (groZ f A (m - halfN n) (n - halfN n) true ds (left - 1)).1.2), (groZ f A (m - halfN n) (n - halfN n) true ds (left - 1)).2)
end Go.Proofs.YtkakoiaahgchmaaDoor
namespace Go.Proofs.YtkakoiaahgchmaaDoor
set_option maxRecDepth 100000
open Go.ChangeShapes Go.WideShapes Go.ChangeAt Go.RowKit
/-- The empty node of a level. -/
def emptyL : Nat → List Int
  | 0 => sumZ [2]
  | k + 1 => nodeL (emptyL k) (emptyL k)
theorem Dg.emptyL (k : Nat) : Dg (emptyL k) := by
  cases k with
  | zero => exact Dg.sum _
  | succ k => exact Dg.nodeL _ _
/-- The first empty nodes. -/
def empN (n : Nat) : List (List Int) := (List.range n).map emptyL
theorem empN_length (n : Nat) : (empN n).length = n := by simp [empN]
theorem empN_each (n : Nat) : ∀ d ∈ empN n, Dg d := fun d hd => by
  obtain ⟨i, _, rfl⟩ := List.mem_map.1 hd
  exact Dg.emptyL i
theorem empN_succ (n : Nat) : empN (n + 1) = empN n ++ [emptyL n] := by simp [empN, List.range_succ]
theorem empN_get {n k : Nat} (h : k < n) : (empN n).getD k [] = emptyL k := by simp [empN, h]
/-- The row, while it is filled. -/
@[irreducible] def fillE (m k : Nat) : List (List Int) := empN k ++ List.replicate (m - k) zD
theorem fillE_length {m k : Nat} (h : k ≤ m) : (fillE m k).length = m := by
  simp only [fillE, List.length_append, empN_length, List.length_replicate]
  omega
theorem fillE_each (m k : Nat) : ∀ d ∈ fillE m k, Dg d := fun d hd => by
  unfold fillE at hd
  rcases List.mem_append.1 hd with hd | hd
  · exact empN_each k d hd
  · exact zRow _ d hd
theorem fillE_set {m k : Nat} (h : k < m) : (fillE m k).set k (emptyL k) = fillE m (k + 1) := by
  unfold fillE
  rw [List.set_append_right _ _ (by rw [empN_length]; exact Nat.le_refl _), empN_length, Nat.sub_self, show m - k = (m - (k + 1)) + 1 by omega, List.replicate_succ, List.set_cons_zero, empN_succ, List.append_assoc]
  rfl
theorem fillE_zero (m : Nat) : fillE m 0 = List.replicate m zD := by simp [fillE, empN]
theorem fillE_done (m : Nat) : fillE m m = empN m := by simp [fillE]
theorem fillE_get {m k j : Nat} (h : j < k) : (fillE m k).getD j [] = emptyL j := by
  unfold fillE
  rw [List.getD_eq_getElem?_getD, List.getElem?_append_left (by rw [empN_length]; exact h), ← List.getD_eq_getElem?_getD, empN_get h]
theorem dig_rng {w : World} {g : Nat} {ds : List (List Int)} {T : TypeId} (hk : Blk w g (dcs ds) T) (hds : ∀ d ∈ ds, Dg d) {j : Nat} (hj : j < ds.length) : w.rangeAt g (0 + j * 32) ((ds.getD j []).map (Value.int .u8)) := by
  rw [Nat.zero_add]
  exact hk.digs hds j hj
set_option maxHeartbeats 4000000 in
theorem empty_any (w : World) (tab : ShaTab w) :
    Calls Tryd.prog 32 #[] w fun e w' => e = .returned (.slice (some ⟨w.heap.size, 0, none⟩) 257 257) ∧ Below w.heap.size w w' ∧ Blk w' w.heap.size (dcs (empN 257)) 23 := by
  have hmk := fun W : World => make_digs 257 257 rfl (by omega) W
  rw [← fillE_zero 257] at hmk
  have CS := hid (fun (W : World) (g g0 : Nat) (h : Blk W g #[.slice (some ⟨g0, 0, none⟩) 1 1] 29) (h0 : Blk W g0 (([2] : List Int).map (Value.int .u8)).toArray 5) (t : ShaTab W) => sum_any (some ⟨g, 0, none⟩) 1 1 [[2]] W (TextsAt.of_blk h rfl (Nat.le_refl _) (by omega) fun j hj => by
    match j, hj with
    | 0, _ => exact ⟨_, _, _, rfl, TextAt.of_ints h0 rfl (by omega) (by simp)⟩) (by simp only [sumLen, List.map_cons, List.map_nil, List.sum_cons, List.sum_nil, List.length_cons, List.length_nil]; omega) t)
  rw [show ([[2]] : List (List Int)).flatten = [2] by simp, show sumZ [2] = emptyL 0 from rfl] at CS
  have Htab := hid tab
  go_enter Tryd.func32, Tryd.ntmps32
  go_wp2_with fail
  have c0 := (Below.refl w.heap.size w).alloc (Nat.le_refl _) (.cells (dcs (fillE 257 0)) 23 (0, 0))
  have c1 := c0.alloc c0.size (.cells #[.int .u8 2] 5 (0, 0))
  have c2 := c1.alloc c1.size (.cells #[.slice (some ⟨w.heap.size + 1, 0, none⟩) 1 1] 29 (0, 0))
  have k1 : Blk (((w.alloc (.cells (dcs (fillE 257 0)) 23 (0, 0))).alloc (.cells #[.int .u8 2] 5 (0, 0))).alloc (.cells #[.slice (some ⟨w.heap.size + 1, 0, none⟩) 1 1] 29 (0, 0))) (w.heap.size + 1) (([2] : List Int).map (Value.int .u8)).toArray 5 := (Blk.new (w := w.alloc (.cells (dcs (fillE 257 0)) 23 (0, 0))) (n := w.heap.size + 1) (by simp only [World.size_alloc]) #[.int .u8 2] 5).old (.cells #[.slice (some ⟨w.heap.size + 1, 0, none⟩) 1 1] 29 (0, 0))
  have k2 : Blk (((w.alloc (.cells (dcs (fillE 257 0)) 23 (0, 0))).alloc (.cells #[.int .u8 2] 5 (0, 0))).alloc (.cells #[.slice (some ⟨w.heap.size + 1, 0, none⟩) 1 1] 29 (0, 0))) (w.heap.size + 1 + 1) #[.slice (some ⟨w.heap.size + 1, 0, none⟩) 1 1] 29 := Blk.new (w := (w.alloc (.cells (dcs (fillE 257 0)) 23 (0, 0))).alloc (.cells #[.int .u8 2] 5 (0, 0))) (n := w.heap.size + 1 + 1) (by simp only [World.size_alloc]) _ _
  have k0 : Blk (((w.alloc (.cells (dcs (fillE 257 0)) 23 (0, 0))).alloc (.cells #[.int .u8 2] 5 (0, 0))).alloc (.cells #[.slice (some ⟨w.heap.size + 1, 0, none⟩) 1 1] 29 (0, 0))) w.heap.size (dcs (fillE 257 0)) 23 := ((Blk.new rfl _ _).old (.cells #[.int .u8 2] 5 (0, 0))).old (.cells #[.slice (some ⟨w.heap.size + 1, 0, none⟩) 1 1] 29 (0, 0))
  refine (CS.out _ _ _ k2 k1 (Htab.out.below c2)).mono ?_
  rintro e w5 ⟨rfl, b5⟩
  have Hb5 := hid (Below.on c2 b5)
  have Kg5 := hid (k0.below b5)
  have hs5 := Hb5.out.size
  have hg5 := Kg5.out.lt
  clear c0 c1 c2 k0 k1 k2 b5
  go_wp2_with (first
     | (refine wpList_index_digs rfl 24 _ _ rfl Tryd.underlying24 size_digest w.heap.size 0 257 257 rfl _ _ rfl 0 rfl (by omega) ?_)
     | (
        refine wpList_store_dig rfl _ _ _ rfl w.heap.size 0 (emptyL 0) rfl rfl _ 23 Kg5.out (fillE_each 257 0) (Dg.emptyL 0) (by rw [fillE_length (by omega)]; omega) size_digest ?_
        intro w6 hb6 hk6
        rw [fillE_set (by omega)] at hk6
        have Kg6 := hid hk6
        have Hb6 := hid (hb6.below Hb5.out hs5 (Nat.le_refl _))
        clear hb6 hk6))
  go_loopw [9] (fun v wr => ∃ k : Nat, k ≤ 256 ∧ v = .int .i64 k ∧ Blk wr w.heap.size (dcs (fillE 257 (k + 1))) 23 ∧ Below w.heap.size w wr) (fun v _ => 256 - (intOf v).toNat)
  case atStart => exact ⟨0, Nat.zero_le _, rfl, Kg6.out, Hb6.out⟩
  case round =>
    clear Kg6 Hb6 Kg5 Hb5
    obtain ⟨k, hk, rfl, kg, bel⟩ := hrel
    have Kgwr := hid kg
    have HBwr := hid bel
    have hswr := bel.size
    have hgwr := kg.lt
    clear kg bel
    by_cases hlt : k < 256
    · skip
      have hc0 : (k : Int) < 256 := by omega
      go_wp2_with fail
      have HE := hid (Dg.emptyL k)
      have Hrg := hid (dig_rng Kgwr.out (fillE_each 257 (k + 1)) (j := k) (by rw [fillE_length (by omega)]; omega))
      rw [fillE_get (by omega)] at Hrg
      have HNX := hid (show emptyL (k + 1) = nodeL (emptyL k) (emptyL k) from rfl)
      have CN := hid (fun (W : World) (t : ShaTab W) => lonode_any (emptyL k) (emptyL k) W HE.out HE.out t)
      rw [← HNX.out] at CN
      have HX := hid (Dg.emptyL (k + 1))
      generalize hX1 : emptyL (k + 1) = X at *
      generalize emptyL k = E at *
      refine wp_region_flow 12 (List.range 12) [] [] (by kernel_rfl) (by kernel_rfl) ?_
      apply Exists.intro
      refine ⟨fun w0 hb0 hF0 => ?_, ?_⟩
      · skip
        have c0 := fun e : Ext w0 => CN.out e.at_ (Htab.out.below (Below.on (Below.on HBwr.out hb0) e.same))
        have yr : ∀ w', (∃ x : Ext w0, w' = x.at_) → w'.rangeAt w.heap.size (0 + k * 32) (E.map (Value.int .u8)) := fun w' ⟨x, hx⟩ j v hv => by rw [hx]; exact ((Below.on hb0 x.same).cell (p := ⟨w.heap.size, 0 + k * 32 + j, none⟩) hgwr).trans (Hrg.out j v hv)
        simp only [pick, List.range, List.range.loop, List.getElem?_toArray, List.getElem?_cons_succ, List.getElem?_cons_zero, Option.toList_some, List.cons_append, List.nil_append]
        repeat (first | (go_big_quiet_want; refine quiet_index_digs 24 _ _ rfl Tryd.underlying24 size_digest w.heap.size 0 257 257 rfl _ _ rfl k rfl (by omega) ?_; go_big_quiet_on; simp only [Act.put, List.setIfInBounds_toArray, List.set_cons_zero, List.set_cons_succ]) | (go_big_quiet_want; refine quiet_load_mid 23 _ rfl w.heap.size (0 + k * 32) rfl _ yr _ Tryd.underlying23 rfl (by rw [List.length_map, HE.out.len]; exact size_digest) ?_; go_big_quiet_on; simp only [Act.put, List.setIfInBounds_toArray, List.set_cons_zero, List.set_cons_succ]) | go_big_quiet_step (first | (go_at_call 57; with_reducible exact Calls.ext (c0 _))))
        exact wpQuiet_nil rfl
      refine AlChk.nil ?_
      refine Walk.fin fun w21 hw21 _ _ => ?_
      simp only [List.drop_succ_cons, List.drop_zero]
      have HBw21 := hid (Below.on HBwr.out hw21)
      have hsw21 := HBw21.out.size
      have Hw21 := hw21
      clear hw21
      go_wp2_with (first
         | (refine wpList_index_digs rfl 24 _ _ rfl Tryd.underlying24 size_digest w.heap.size 0 257 257 rfl _ _ rfl (k + 1) rfl (by omega) ?_)
         | (
            refine wpList_store_dig rfl _ _ _ rfl w.heap.size (k + 1) X rfl rfl _ 23 (Kgwr.out.below Hw21) (fillE_each 257 (k + 1)) HX.out (by rw [fillE_length (by omega)]; omega) size_digest ?_
            intro w9 hb9 hk9
            rw [← hX1, fillE_set (by omega)] at hk9
            have Kg9 := hid hk9
            have Hb9 := hid (hb9.below HBw21.out HBw21.out.size (Nat.le_refl _))
            clear hb9 hk9))
      exact ⟨⟨k + 1, by omega, by first | rfl | simp, Kg9.out, Hb9.out⟩, by simp [intOf]; omega⟩
    · skip
      have hk7 : k = 256 := by omega
      subst hk7
      have hc0 : ¬ ((256 : Int) < 256) := by omega
      go_wp2_with fail
      go_returns
      rw [show 256 + 1 = 257 from rfl, fillE_done] at Kgwr
      exact ⟨rfl, HBwr.out, Kgwr.out⟩
end Go.Proofs.YtkakoiaahgchmaaDoor
namespace Go.Proofs.YtkakoiaahgchmaaDoor
set_option maxRecDepth 100000
open Go.ChangeShapes Go.WideShapes Go.ChangeAt Go.RowKit
/-- What an entry's node is. -/
@[irreducible] def leafE (a b : List Int) : List Int := sumZ (0 :: (a ++ b))
theorem Dg.leafE (a b : List Int) : Dg (leafE a b) := by unfold Go.Proofs.YtkakoiaahgchmaaDoor.leafE; exact Dg.sum _
/-- An entry's bytes. -/
def entL (a b : List Int) : List Int := a ++ b
theorem two_front {a b : List Int} (ha : Dg a) {w : World} {g : Nat} {T : TypeId} (h : Blk w g ((entL a b).map (Value.int .u8)).toArray T) : TextAt w (some ⟨g, 0, none⟩) 32 32 a :=
  TextAt.of_blk h ha.len (Nat.le_refl _) (by omega) ha.small fun j hj => by
    rw [List.getElem?_toArray, Nat.zero_add, entL, List.map_append, List.getElem?_append_left (by rw [List.length_map, ha.len]; exact hj), List.getElem?_map, List.getD_eq_getElem?_getD, List.getElem?_eq_getElem (by rw [ha.len]; exact hj)]
    rfl
theorem two_back {a b : List Int} (ha : Dg a) (hb : Dg b) {w : World} {g : Nat} {T : TypeId} (h : Blk w g ((entL a b).map (Value.int .u8)).toArray T) : TextAt w (some ⟨g, 32, none⟩) 32 32 b :=
  TextAt.of_blk h hb.len (Nat.le_refl _) (by omega) hb.small fun j hj => by
    rw [List.getElem?_toArray, entL, List.map_append, List.getElem?_append_right (by rw [List.length_map, ha.len]; omega), List.length_map, ha.len, show 32 + j - 32 = j by omega, List.getElem?_map, List.getD_eq_getElem?_getD, List.getElem?_eq_getElem (by rw [hb.len]; exact hj)]
    rfl
theorem two_size {a b : List Int} (ha : Dg a) (hb : Dg b) : ((entL a b).map (Value.int .u8)).toArray.size = 64 := by simp [entL, ha.len, hb.len]
set_option maxHeartbeats 4000000 in
theorem leaf_any (a b : List Int) (w : World) (ha : Dg a) (hb_ : Dg b) (tab : ShaTab w) :
    Calls Tryd.prog 33 #[.agg ((entL a b).map (Value.int .u8)).toArray] w fun e w' => e = .returned (.agg ((leafE a b).map (Value.int .u8)).toArray) ∧ Below w.heap.size w w' := by
  have CS := hid (fun (W : World) (g g0 : Nat) (h : Blk W g #[.slice (some ⟨g0, 0, none⟩) 1 1, .slice (some ⟨w.heap.size, 0, none⟩) 32 32, .slice (some ⟨w.heap.size, 32, none⟩) 32 32] 29) (h0 : Blk W g0 (([0] : List Int).map (Value.int .u8)).toArray 5) (ka : Blk W w.heap.size ((entL a b).map (Value.int .u8)).toArray 64) (t : ShaTab W) => sum_any (some ⟨g, 0, none⟩) 3 3 [[0], a, b] W (TextsAt.of_blk h rfl (Nat.le_refl _) (by omega) fun j hj => by
    match j, hj with
    | 0, _ => exact ⟨_, _, _, rfl, TextAt.of_ints h0 rfl (by omega) (by simp)⟩
    | 1, _ => exact ⟨_, _, _, rfl, two_front ha ka⟩
    | 2, _ => exact ⟨_, _, _, rfl, two_back ha hb_ ka⟩) (by simp only [sumLen, List.map_cons, List.map_nil, List.sum_cons, List.sum_nil, List.length_cons, List.length_nil, ha.len, hb_.len]; omega) t)
  have HX := hid (Dg.leafE a b)
  rw [show ([[0], a, b] : List (List Int)).flatten = 0 :: (a ++ b) by simp, show sumZ (0 :: (a ++ b)) = leafE a b by unfold leafE; rfl] at CS
  generalize leafE a b = X at *
  have b1 := (Below.refl w.heap.size w).alloc (Nat.le_refl _) (.cells ((entL a b).map (Value.int .u8)).toArray 64 (0, 0))
  have b2 := b1.alloc b1.size (.cells (byteCells 32 []) 23 (0, 0))
  have Kx := hid ((Blk.new (w := w) (n := w.heap.size) rfl ((entL a b).map (Value.int .u8)).toArray 64).old (.cells (byteCells 32 []) 23 (0, 0)))
  have Kr := hid (Blk.new (w := (w.alloc (.cells ((entL a b).map (Value.int .u8)).toArray 64 (0, 0)))) (n := w.heap.size + 1) (by simp only [World.size_alloc]) (byteCells 32 []) 23)
  have Hb := hid b2
  have hbz := b2.size
  have Hbs := hid (show w.heap.size + 1 + 1 = ((w.alloc (.cells ((entL a b).map (Value.int .u8)).toArray 64 (0, 0))).alloc (.cells (byteCells 32 []) 23 (0, 0))).heap.size by simp only [World.size_alloc])
  have Htab := hid tab
  clear b1 b2 tab 
  go_enter Tryd.func33, Tryd.ntmps33
  go_wp2_with fail
  refine wp_region_flow 7 [1, 2, 3, 4] [0] [(.b 0, [], [5]), (.b 5, [6], [])] (by kernel_rfl) (by kernel_rfl) ?_
  apply Exists.intro
  refine ⟨fun w0 hb0 hF0 => ?_, ?_⟩
  · skip
    simp only [pick, List.getElem?_toArray, List.getElem?_cons_succ, List.getElem?_cons_zero, Option.toList_some, List.cons_append, List.nil_append]
    repeat (first | go_big_quiet_step (fail))
    exact wpQuiet_nil rfl
  refine AlChk.one rfl (fun b => .slice (some ⟨b, 0, none⟩) 1 1) (.cells #[.int .u8 0] 5 (0, 0)) rfl (fun w3 hb3 hF3 => by go_simp) ?_
  refine AlChk.nil ?_
  refine Walk.blk rfl (fun b => .slice (some ⟨b, 0, none⟩) 1 1) (.cells #[.int .u8 0] 5 (0, 0)) (by simp) ?_
  intro b8 w1 hb1 hF1 hge1 _
  apply Exists.intro
  refine ⟨fun w2 hb2 hF2 => wpQuiet_nil rfl, ?_⟩
  refine AlChk.one rfl (fun b => .slice (some ⟨b, 0, none⟩) 3 3) (.cells #[.slice (some ⟨b8, 0, none⟩) 1 1, .slice (some ⟨w.heap.size, 0, none⟩) 32 32, .slice (some ⟨w.heap.size, 32, none⟩) 32 32] 29 (0, 0)) rfl (fun w3 hb3 hF3 => by go_simp) ?_
  refine AlChk.nil ?_
  refine Walk.blk rfl (fun b => .slice (some ⟨b, 0, none⟩) 3 3) (.cells #[.slice (some ⟨b8, 0, none⟩) 1 1, .slice (some ⟨w.heap.size, 0, none⟩) 32 32, .slice (some ⟨w.heap.size, 32, none⟩) 32 32] 29 (0, 0)) (by simp) ?_
  intro b9 w2 hb2 hF2 hge2 _
  apply Exists.intro
  refine ⟨fun w0 hb0 hF0 => ?_, ?_⟩
  · have k9 : Blk w0 b9 #[.slice (some ⟨b8, 0, none⟩) 1 1, .slice (some ⟨w.heap.size, 0, none⟩) 32 32, .slice (some ⟨w.heap.size, 32, none⟩) 32 32] 29 := hF0.2
    have k8 : Blk w0 b8 (([0] : List Int).map (Value.int .u8)).toArray 5 := hF0.1.2
    have hs := fun e : Ext w0 => CS.out e.at_ b9 b8 (k9.below e.same) (k8.below e.same) ((Kx.out.below hb0).below e.same) ((Htab.out.below (Below.on Hb.out hb0)).below e.same)
    simp only [pick, List.getElem?_toArray, List.getElem?_cons_succ, List.getElem?_cons_zero, Option.toList_some, List.cons_append, List.nil_append, Act.put, List.setIfInBounds_toArray, List.set_cons_zero, List.set_cons_succ]
    repeat (go_big_quiet_step (first | (go_at_call 59; exact Calls.ext (hs _))))
    exact wpQuiet_nil rfl
  refine AlChk.nil ?_
  refine Walk.fin fun w4 h4 _ _ => ?_
  simp only [List.drop_succ_cons, List.drop_zero]
  have HBw4 := hid (Below.on Hb.out h4)
  have hsw4 := HBw4.out.size
  have Kxw4 := hid (Kx.out.below h4)
  have Krw4 := hid (Kr.out.below h4)
  clear h4
  go_wp2_with (
      refine wpList_store_blk rfl 23 _ _ rfl (w.heap.size + 1) (X.map (Value.int .u8)).toArray rfl rfl _ 23 Krw4.out 32 size_digest zsize HX.out.size (ints_one _ _) ?_
      intro w9 hb9 hk9
      have HB9 := hid (hb9.below HBw4.out HBw4.out.size (by omega))
      have HK9 := hid hk9
      clear hb9 hk9)
  exact bodyPost_ret (v := .agg (X.map (Value.int .u8)).toArray) (results_blk Tryd.results33 _ (w.heap.size + 1) rfl _ 23 HK9.out _ Tryd.underlying23 rfl 32 size_digest HX.out.size) rfl ⟨rfl, HB9.out⟩
end Go.Proofs.YtkakoiaahgchmaaDoor
namespace Go.Proofs.YtkakoiaahgchmaaDoor
set_option maxRecDepth 100000
open Go.ChangeShapes Go.WideShapes Go.ChangeAt Go.RowKit
/-- On which side the node of a level is. -/
def bitL (d : List Int) (k : Nat) : Int := d.getD (31 - k / 8) 0 / 2 ^ (k % 8) % 2
/-- A byte of an index, turned down by a bit. -/
def halfB (d : List Int) (i : Nat) : Int := d.getD i 0 / 2 + (if i = 0 then 0 else d.getD (i - 1) 0 % 2 * 128)
def halfL (d : List Int) : List Int := (List.range 32).map (halfB d)
def halfP (d : List Int) (k : Nat) : List Int := (List.range k).map (halfB d) ++ List.replicate (32 - k) 0
theorem dg_at {d : List Int} (h : Dg d) (i : Nat) : 0 ≤ d.getD i 0 ∧ d.getD i 0 < 256 := by
  rw [List.getD_eq_getElem?_getD]
  by_cases hi : i < d.length
  · rw [List.getElem?_eq_getElem hi]
    exact h.small _ (List.getElem_mem hi)
  · rw [List.getElem?_eq_none (by omega)]
    simp
def halfK : Nat → List Int → List Int
  | 0, d => d
  | k + 1, d => halfL (halfK k d)
theorem and_one : ∀ x : Fin 256, bits .and .u8 ((x.val : Nat) : Int) 1 = ((x.val % 2 : Nat) : Int) := by decide +kernel
theorem and_one' {x : Int} (h : 0 ≤ x ∧ x < 256) : bits .and .u8 x 1 = x % 2 := by
  have := and_one ⟨x.toNat, by omega⟩
  simp only at this
  rw [show ((x.toNat : Nat) : Int) = x by omega] at this
  rw [this]
  omega
set_option maxHeartbeats 4000000 in
theorem bit_in (d : List Int) (k : Nat) (w : World) (hd : Dg d) (hk : k < 256) :
    Calls Tryd.prog 37 #[.agg (d.map (Value.int .u8)).toArray, .int .i64 k] w fun e w' => e = .returned (.int .i64 (bitL d k)) ∧ Below w.heap.size w w' := by
  have hI0 : ¬ (k : Int) < 0 := by omega
  have hI1 : ¬ (256 : Int) ≤ (k : Int) := by omega
  have hxx := dg_at hd (31 - k / 8)
  have hlen := hd.len
  have hxe : d[31 - k / 8]? = some (d.getD (31 - k / 8) 0) := by rw [List.getD_eq_getElem?_getD, List.getElem?_eq_getElem (by omega)]; rfl
  unfold bitL
  generalize d.getD (31 - k / 8) 0 = x at *
  have b1 := (Below.refl w.heap.size w).alloc (Nat.le_refl _) (.cells (d.map (Value.int .u8)).toArray 23 (0, 0))
  have Kd := hid (Blk.new (w := w) (n := w.heap.size) rfl (d.map (Value.int .u8)).toArray 23)
  have Hb := hid b1
  have hbz := b1.size
  have Hbs := hid (show w.heap.size + 1 = (w.alloc (.cells (d.map (Value.int .u8)).toArray 23 (0, 0))).heap.size by simp only [World.size_alloc])
  clear b1 
  go_enter Tryd.func37, Tryd.ntmps37
  go_wp2_with fail
  go_returns
  refine ⟨?_, Hb.out⟩
  have h2 : 0 ≤ x / 2 ^ (k % 8) ∧ x / 2 ^ (k % 8) < 256 := ⟨Int.ediv_nonneg hxx.1 (Int.le_of_lt (Int.pow_pos (by omega))), Int.lt_of_le_of_lt (Int.ediv_le_self _ hxx.1) hxx.2⟩
  show Ending.returned (.int .i64 (wrap64 (bits .and .u8 (x / 2 ^ (k % 8)) 1))) = _
  rw [and_one' h2]
  generalize x / 2 ^ (k % 8) = y at *
  rw [show wrap64 (y % 2) = y % 2 by unfold wrap64; omega]
end Go.Proofs.YtkakoiaahgchmaaDoor
namespace Go.Proofs.YtkakoiaahgchmaaDoor
set_option maxRecDepth 100000
open Go.ChangeShapes Go.WideShapes Go.ChangeAt Go.RowKit
open Go.WideMaps (KeyLaw)
open Go.ChangeMaps (setBlock)
/-- An index was counted so often. -/
def MapN (r : Nat) (kv : Value) (n : Nat) (w : World) : Prop := (n = 0 ∧ w.heap[r]? = some (.map #[] 0)) ∨ w.heap[r]? = some (.map #[⟨kv, .int .i64 n, 0⟩] 1)
/-- The entries of a row. -/
structure EntsAt (w : World) (a : Option Addr) (len cap : Nat) (es : List (List Int × List Int)) : Prop where
  length : es.length = len
  le : len ≤ cap
  each : ∀ x ∈ es, Dg x.1 ∧ Dg x.2
  mem : len = 0 ∨ ∃ x o, a = some ⟨x, o, none⟩ ∧ x < w.heap.size ∧ ∀ j, j < len → w.rangeAt x (o + j * 64) ((entL (es.getD j ([], [])).1 (es.getD j ([], [])).2).map (Value.int .u8))
/-- The world goes on, and the map keeps its number. -/
def MapR (r : Nat) (kv : Value) (n : Nat) (a b : World) : Prop := FlowB.ButIn [r] a b ∧ (MapN r kv n a → MapN r kv n b)
end Go.Proofs.YtkakoiaahgchmaaDoor
namespace Go.Proofs.YtkakoiaahgchmaaDoor
set_option maxRecDepth 100000
open Go.ChangeShapes Go.WideShapes Go.ChangeAt Go.RowKit
theorem fill_part (place : Nat → Option (Nat × Nat)) (cells : Array Value) (i off : Nat) (v : Value) (rest : List (Nat × Value)) (hp : place i = some (off, v.cells.size)) (hs : off + v.cells.size ≤ cells.size) :
    Instr.fill place cells ((i, v) :: rest) = Instr.fill place (splice cells.toList off v.cells.toList).toArray rest := by
  rw [Instr.fill]
  simp only [hp]
  rw [if_neg (by simp only [ne_eq, not_true_eq_false, decide_false, Bool.false_or, decide_eq_true_eq]; omega)]
  congr 1
  have hf := fold_set v.cells.toList 0 off cells (by simpa using hs)
  apply Array.ext'
  rw [Nat.add_zero] at hf
  rw [← hf]
  have : v.cells.zipIdx = ((v.cells.toList.zipIdx 0)).toArray := by
    apply Array.ext'
    simp
  rw [this, List.foldl_toArray']
  all_goals first | rfl | simp
end Go.Proofs.YtkakoiaahgchmaaDoor
namespace Go.Proofs.YtkakoiaahgchmaaDoor
set_option maxRecDepth 100000
open Go.ChangeShapes Go.WideShapes Go.ChangeAt Go.RowKit
/-- Is a place's sibling known? -/
def knB (d : List Int) (k : Nat) : Bool := decide (d.getD (k / 8) 0 / 2 ^ (k % 8) % 2 = 1)
/-- How many of the first places' siblings are known. -/
def knN (d : List Int) : Nat → Nat
  | 0 => 0
  | k + 1 => knN d k + (if knB d k then 1 else 0)
theorem knN_le (d : List Int) (k : Nat) : knN d k ≤ k := by
  induction k with
  | zero => exact Nat.le_refl _
  | succ k ih => unfold knN; split <;> omega
theorem knN_mono (d : List Int) {j k : Nat} (h : j ≤ k) : knN d j ≤ knN d k := by
  induction h with
  | refl => exact Nat.le_refl _
  | step _ ih => exact Nat.le_trans ih (by rw [knN]; omega)
def onesB (x : Int) : Nat := (if x / 2 ^ 0 % 2 = 1 then 1 else 0) + (if x / 2 ^ 1 % 2 = 1 then 1 else 0) + (if x / 2 ^ 2 % 2 = 1 then 1 else 0) + (if x / 2 ^ 3 % 2 = 1 then 1 else 0) + (if x / 2 ^ 4 % 2 = 1 then 1 else 0) + (if x / 2 ^ 5 % 2 = 1 then 1 else 0) + (if x / 2 ^ 6 % 2 = 1 then 1 else 0) + (if x / 2 ^ 7 % 2 = 1 then 1 else 0)
theorem pop8_ones (x : Int) (h0 : 0 ≤ x) (h1 : x ≤ 255) : Lib.pop8 x = (onesB x : Int) := by
  obtain ⟨n, rfl⟩ := Int.eq_ofNat_of_zero_le h0
  exact (by decide +kernel : ∀ i : Fin 256, Lib.pop8 ((i.val : Nat) : Int) = (onesB ((i.val : Nat) : Int) : Int)) ⟨n, by omega⟩
theorem onesB_le (x : Int) : onesB x ≤ 8 := by
  unfold onesB
  repeat' split
  all_goals omega
theorem knN_step (d : List Int) (i : Nat) : knN d (8 * (i + 1)) = knN d (8 * i) + onesB (d.getD i 0) := by
  have h (j : Nat) (hj : j < 8) : knB d (8 * i + j) = decide (d.getD i 0 / 2 ^ j % 2 = 1) := by
    unfold knB
    rw [show (8 * i + j) / 8 = i by omega, show (8 * i + j) % 8 = j by omega]
  have h0 := h 0 (by omega)
  rw [Nat.add_zero] at h0
  rw [show 8 * (i + 1) = 8 * i + 1 + 1 + 1 + 1 + 1 + 1 + 1 + 1 by omega]
  simp only [knN]
  rw [h0, h 1 (by omega), h 2 (by omega), h 3 (by omega), h 4 (by omega), h 5 (by omega), h 6 (by omega), h 7 (by omega)]
  simp only [decide_eq_true_eq]
  unfold onesB
  omega
section
variable {P : Program} {ops : Array Oper} {rest : List Oper} {op : Oper} {a : Act} {w : World} {Q : Exit → Act → World → Prop}
theorem wpList_index_pop8 (hgd : op.guard = none) (t : TypeId) (s : ByteArray) (x : Operand) (ho : op.op = .index t (.const (.string s)) x) (hs : s = Lib.pop8tab) (ht : P.underlying t = some .string) (k : IntKind) (i : Int) (hx : a.eval x = .int k i) (h0 : 0 ≤ i) (h1 : i ≤ 255)
    (h : wpList P ops Q rest (a.put op.dst (.int .u8 (Lib.pop8 i))) w) : wpList P ops Q (op :: rest) a w :=
  wpList_plain hgd fun K hK => by
    subst hs
    unfold Oper.wp execOp
    have hc : a.eval (.const (.string Lib.pop8tab)) = .string Lib.pop8tab := rfl
    simp only [ho, hx, hc, Sem.run_bind, Sem.run_pure, Result.andThen_ok, Lib.run_index_pop8tab w t k i ht h0 h1, Oper.upon_value]
    exact hK _ _ h
end
set_option maxHeartbeats 4000000 in
theorem ones_any (x : Int) (w : World) (h0 : 0 ≤ x) (h1 : x < 256) : Calls Tryd.prog 82 #[.int .u8 x] w fun e w' => e = .returned (.int .i64 (onesB x)) ∧ w' = w := by
  have h6 : wrap64 (Lib.pop8 x) = (onesB x : Int) := by
    rw [pop8_ones x h0 (by omega)]
    have := onesB_le x
    unfold wrap64
    omega
  go_enter Tryd.func82, Tryd.ntmps82
  go_wp2_with (refine wpList_index_pop8 rfl _ _ _ rfl (by kernel_rfl) Tryd.underlying9 .u8 x rfl (by omega) (by omega) ?_)
  go_ret
  exact ⟨by first | rfl | (rw [h6]; rfl) | (rw [← h6]; rfl), rfl⟩
end Go.Proofs.YtkakoiaahgchmaaDoor
namespace Go.Proofs.YtkakoiaahgchmaaDoor
set_option maxRecDepth 100000
open Go.ChangeShapes Go.WideShapes Go.ChangeAt Go.RowKit
theorem size_proof : (Tryd.prog.info? 26).map (·.size) = some 33 := by kernel_rfl
/-- A proof's cells. -/
def prC (d : List Int) (v : Value) : List Value := d.map (Value.int .u8) ++ [v]
theorem prC_size {d : List Int} (h : Dg d) (v : Value) : (prC d v).toArray.size = 33 := by simp [prC, h.len]
theorem prC_nodes {d : List Int} {v : Value} {w : World} {b : Nat} {T : TypeId} (h : Dg d) (k : Blk w b (prC d v).toArray T) : w.cell? ⟨b, 32, none⟩ = some v := by
  rw [k.cell, List.getElem?_toArray]
  simp [prC, h.len]
theorem prC_known {d : List Int} {v : Value} {w : World} {b : Nat} {T : TypeId} (k : Blk w b (prC d v).toArray T) : w.rangeAt b 0 (d.map (Value.int .u8)) := fun j u hu => by
  have hj : j < d.length := by have := (List.getElem?_eq_some_iff.1 hu).1; simpa using this
  rw [Nat.zero_add, k.cell, List.getElem?_toArray, ← hu]
  unfold prC
  rw [List.getElem?_append_left (by simpa using hj)]
set_option maxHeartbeats 4000000 in
theorem complete_any (d : List Int) (ad : Option Addr) (len cap : Nat) (w : World) (hd : Dg d) :
    Calls Tryd.prog 61 #[.agg (prC d (.slice ad len cap)).toArray] w fun e w' => e = .returned (.bool (decide (knN d 256 = len))) ∧ Below w.heap.size w w' := by
  have b1 := (Below.refl w.heap.size w).alloc (Nat.le_refl _) (.cells (prC d (.slice ad len cap)).toArray 26 (0, 0))
  have Kp := hid (Blk.new (w := w) (n := w.heap.size) rfl (prC d (.slice ad len cap)).toArray 26)
  have Hb := hid b1
  have hbz := b1.size
  have Hbs := hid (show w.heap.size + 1 = (w.alloc (.cells (prC d (.slice ad len cap)).toArray 26 (0, 0))).heap.size by simp only [World.size_alloc])
  clear b1 
  go_enter Tryd.func61, Tryd.ntmps61
  go_wp2_with (refine wpList_load_mid rfl 23 _ rfl (w.heap.size) 0 rfl _ _ (prC_known Kp.out) Tryd.underlying23 rfl (by rw [List.length_map, hd.len]; exact size_digest) ?_)
  go_loopw [3, 8] (fun nv iv wr => ∃ k : Nat, k ≤ 32 ∧ iv = .int .i64 k ∧ nv = .int .i64 (knN d (8 * k) : Nat) ∧ Blk wr w.heap.size (prC d (.slice ad len cap)).toArray 26 ∧ Below w.heap.size w wr) (fun _ iv _ => 32 - (intOf iv).toNat)
  case atStart => exact ⟨0, Nat.zero_le _, rfl, rfl, Kp.out, Hb.out⟩
  case round =>
    obtain ⟨k, hk, rfl, rfl, kd, bel⟩ := hrel
    have Kpwr := hid kd
    have HBwr := hid bel
    have hswr := bel.size
    clear kd bel
    have hnk := knN_le d (8 * k)
    by_cases hlt : k < 32
    · skip
      have hc0 : (k : Int) < 32 := by omega
      have hxx := dg_at hd k
      have hlen := hd.len
      have hix := fun W : World => run_index_ints (P := Tryd.prog) (t := 23) (e := 5) (n := 32) (k' := .i64) Tryd.underlying23 Tryd.underlying5 rfl rfl d hlen k hlt W
      have hob := onesB_le (d.getD k 0)
      have CK := hid (fun W : World => ones_any (d.getD k 0) W hxx.1 hxx.2)
      have HD0 := hid hd
      have HN := hid (knN_step d k)
      generalize d.getD k 0 = x at *
      generalize onesB x = z at *
      generalize hN : knN d (8 * k) = n at *
      clear hN
      go_wp2_with (go_at_call 82; refine (CK.out _).mono ?_; rintro e w' ⟨rfl, rfl⟩)
      exact ⟨⟨k + 1, by omega, by first | rfl | simp, by rw [HN.out]; first | rfl | simp, Kpwr.out, HBwr.out⟩, by simp [intOf]; omega⟩
    · skip
      have hk7 : k = 32 := by omega
      subst hk7
      have hc0 : ¬ ((32 : Int) < 32) := by omega
      have g32 := prC_nodes hd Kpwr.out
      generalize hN : knN d (8 * 32) = n at *
      have HN := hid hN
      clear hN
      go_wp2_with fail
      go_returns
      refine ⟨?_, HBwr.out⟩
      rw [show (256 : Nat) = 8 * 32 from rfl, HN.out]
      by_cases hz : n = len
      · subst hz; rw [decide_eq_true rfl]; first | rfl | (show Ending.returned (.bool ((n : Int) == (n : Int))) = _; simp)
      · rw [decide_eq_false hz]; show Ending.returned (.bool ((len : Int) == (n : Int))) = _; rw [show ((len : Int) == (n : Int)) = false by simp; omega]
end Go.Proofs.YtkakoiaahgchmaaDoor
namespace Go.Proofs.YtkakoiaahgchmaaDoor
set_option maxRecDepth 100000
open Go.ChangeShapes Go.WideShapes Go.ChangeAt Go.RowKit
set_option maxHeartbeats 4000000 in
theorem climb_bad (x i d : List Int) (ad : Option Addr) (len cap : Nat) (w : World) (hd : Dg d) (hn : ¬ knN d 256 = len) :
    Calls Tryd.prog 35 #[.agg (x.map (Value.int .u8)).toArray, .agg (i.map (Value.int .u8)).toArray, .agg (prC d (.slice ad len cap)).toArray] w fun e w' => e = .returned (.tuple #[.agg (byteCells 32 []), .int .i64 2]) ∧ Below w.heap.size w w' := by
  have b1 := (Below.refl w.heap.size w).alloc (Nat.le_refl _) (.cells (x.map (Value.int .u8)).toArray 23 (0, 0))
  have b2 := b1.alloc b1.size (.cells (i.map (Value.int .u8)).toArray 23 (0, 0))
  have b3 := b2.alloc b2.size (.cells (prC d (.slice ad len cap)).toArray 26 (0, 0))
  have b4 := b3.alloc b3.size (.cells (byteCells 32 []) 23 (0, 0))
  have Kx := hid ((((Blk.new (w := w) (n := w.heap.size) rfl (x.map (Value.int .u8)).toArray 23).old (.cells (i.map (Value.int .u8)).toArray 23 (0, 0))).old (.cells (prC d (.slice ad len cap)).toArray 26 (0, 0))).old (.cells (byteCells 32 []) 23 (0, 0)))
  have Ki := hid (((Blk.new (w := (w.alloc (.cells (x.map (Value.int .u8)).toArray 23 (0, 0)))) (n := w.heap.size + 1) (by simp only [World.size_alloc]) (i.map (Value.int .u8)).toArray 23).old (.cells (prC d (.slice ad len cap)).toArray 26 (0, 0))).old (.cells (byteCells 32 []) 23 (0, 0)))
  have Kp := hid ((Blk.new (w := ((w.alloc (.cells (x.map (Value.int .u8)).toArray 23 (0, 0))).alloc (.cells (i.map (Value.int .u8)).toArray 23 (0, 0)))) (n := w.heap.size + 1 + 1) (by simp only [World.size_alloc]) (prC d (.slice ad len cap)).toArray 26).old (.cells (byteCells 32 []) 23 (0, 0)))
  have Kr := hid (Blk.new (w := (((w.alloc (.cells (x.map (Value.int .u8)).toArray 23 (0, 0))).alloc (.cells (i.map (Value.int .u8)).toArray 23 (0, 0))).alloc (.cells (prC d (.slice ad len cap)).toArray 26 (0, 0)))) (n := w.heap.size + 1 + 1 + 1) (by simp only [World.size_alloc]) (byteCells 32 []) 23)
  have Hb := hid b4
  have hbz := b4.size
  have Hbs := hid (show w.heap.size + 1 + 1 + 1 + 1 = ((((w.alloc (.cells (x.map (Value.int .u8)).toArray 23 (0, 0))).alloc (.cells (i.map (Value.int .u8)).toArray 23 (0, 0))).alloc (.cells (prC d (.slice ad len cap)).toArray 26 (0, 0))).alloc (.cells (byteCells 32 []) 23 (0, 0))).heap.size by simp only [World.size_alloc])
  clear b1 b2 b3 b4 
  go_enter Tryd.func35, Tryd.ntmps35
  go_wp2_with (refine wpList_load_blk rfl 26 _ rfl (w.heap.size + 1 + 1) rfl _ 26 Kp.out _ Tryd.underlying26 rfl 33 size_proof (prC_size hd _) ?_)
  have CK := hid (fun W : World => complete_any d ad len cap W hd)
  rw [decide_eq_false hn] at CK
  refine (CK.out _).mono ?_
  rintro e w1 ⟨rfl, bw1⟩
  have HBw1 := hid (Below.on Hb.out bw1)
  have hsw1 := HBw1.out.size
  have Kxw1 := hid (Kx.out.below bw1)
  have Kiw1 := hid (Ki.out.below bw1)
  have Kpw1 := hid (Kp.out.below bw1)
  have Krw1 := hid (Kr.out.below bw1)
  clear bw1
  go_wp2_with (
      refine wpList_store_blk rfl 23 _ _ rfl (w.heap.size + 1 + 1 + 1) (byteCells 32 []) rfl rfl _ 23 Krw1.out 32 size_digest zsize zsize (by decide +kernel) ?_
      intro w9 hb9 hk9
      have HB9 := hid (hb9.below HBw1.out HBw1.out.size (by omega))
      have HK9 := hid hk9
      clear hb9 hk9)
  exact bodyPost_ret (v := .tuple #[.agg (byteCells 32 []), .int .i64 2]) (results_blk_tmp Tryd.results35 _ (w.heap.size + 1 + 1 + 1) rfl _ rfl _ 23 HK9.out _ Tryd.underlying23 rfl 32 size_digest zsize) rfl ⟨rfl, HB9.out⟩
end Go.Proofs.YtkakoiaahgchmaaDoor
namespace Go.Proofs.YtkakoiaahgchmaaDoor
set_option maxRecDepth 100000
open Go.ChangeShapes Go.WideShapes Go.ChangeAt Go.RowKit
/-- The sibling of a level. -/
def sibL (d : List Int) (ns : List (List Int)) (k : Nat) : List Int := if knB d k then ns.getD (knN d k) [] else emptyL k
/-- A step up. -/
def stepL (i : List Int) (k : Nat) (x s : List Int) : List Int := if bitL i k = 0 then nodeL x s else nodeL s x
/-- Where one comes to. -/
def climbK (d i : List Int) (ns : List (List Int)) (x : List Int) : Nat → List Int
  | 0 => x
  | k + 1 => stepL i k (climbK d i ns x k) (sibL d ns k)
theorem Dg.stepL (i : List Int) (k : Nat) (x s : List Int) : Dg (stepL i k x s) := by
  unfold Go.Proofs.YtkakoiaahgchmaaDoor.stepL
  split
  · exact Dg.nodeL _ _
  · exact Dg.nodeL _ _
theorem Dg.climbK {x : List Int} (hx : Dg x) (d i : List Int) (ns : List (List Int)) (k : Nat) : Dg (climbK d i ns x k) := by
  cases k with
  | zero => exact hx
  | succ k => exact Dg.stepL _ _ _ _
end Go.Proofs.YtkakoiaahgchmaaDoor
namespace Go.Proofs.YtkakoiaahgchmaaDoor
set_option maxRecDepth 100000
open Go.ChangeShapes Go.WideShapes Go.ChangeAt Go.RowKit
set_option maxHeartbeats 4000000 in
theorem leads_ok (x o i d T : List Int) (ad : Option Addr) (len cap : Nat) (ns : List (List Int)) (w : World) (hx : Dg x) (ho : Dg o) (hi : Dg i) (hd : Dg d) (hT : Dg T) (hns : DigsAt w ad len cap ns) (tab : ShaTab w)
    (cu : ∀ W : World, DigsAt W ad len cap ns → ShaTab W → Calls Tryd.prog 35 #[.agg (x.map (Value.int .u8)).toArray, .agg (i.map (Value.int .u8)).toArray, .agg (prC d (.slice ad len cap)).toArray] W fun e w' => e = .returned (.tuple #[.agg (T.map (Value.int .u8)).toArray, .int .i64 0]) ∧ Below W.heap.size W w') :
    Calls Tryd.prog 52 #[.agg (x.map (Value.int .u8)).toArray, .agg (o.map (Value.int .u8)).toArray, .agg (i.map (Value.int .u8)).toArray, .agg (prC d (.slice ad len cap)).toArray] w fun e w' => e = .returned (.bool (decide (T = o))) ∧ Below w.heap.size w w' := by
  have b1 := (Below.refl w.heap.size w).alloc (Nat.le_refl _) (.cells (x.map (Value.int .u8)).toArray 23 (0, 0))
  have b2 := b1.alloc b1.size (.cells (o.map (Value.int .u8)).toArray 23 (0, 0))
  have b3 := b2.alloc b2.size (.cells (i.map (Value.int .u8)).toArray 23 (0, 0))
  have b4 := b3.alloc b3.size (.cells (prC d (.slice ad len cap)).toArray 26 (0, 0))
  have Kx := hid ((((Blk.new (w := w) (n := w.heap.size) rfl (x.map (Value.int .u8)).toArray 23).old (.cells (o.map (Value.int .u8)).toArray 23 (0, 0))).old (.cells (i.map (Value.int .u8)).toArray 23 (0, 0))).old (.cells (prC d (.slice ad len cap)).toArray 26 (0, 0)))
  have Ko := hid (((Blk.new (w := (w.alloc (.cells (x.map (Value.int .u8)).toArray 23 (0, 0)))) (n := w.heap.size + 1) (by simp only [World.size_alloc]) (o.map (Value.int .u8)).toArray 23).old (.cells (i.map (Value.int .u8)).toArray 23 (0, 0))).old (.cells (prC d (.slice ad len cap)).toArray 26 (0, 0)))
  have Ki := hid ((Blk.new (w := ((w.alloc (.cells (x.map (Value.int .u8)).toArray 23 (0, 0))).alloc (.cells (o.map (Value.int .u8)).toArray 23 (0, 0)))) (n := w.heap.size + 1 + 1) (by simp only [World.size_alloc]) (i.map (Value.int .u8)).toArray 23).old (.cells (prC d (.slice ad len cap)).toArray 26 (0, 0)))
  have Kp := hid (Blk.new (w := (((w.alloc (.cells (x.map (Value.int .u8)).toArray 23 (0, 0))).alloc (.cells (o.map (Value.int .u8)).toArray 23 (0, 0))).alloc (.cells (i.map (Value.int .u8)).toArray 23 (0, 0)))) (n := w.heap.size + 1 + 1 + 1) (by simp only [World.size_alloc]) (prC d (.slice ad len cap)).toArray 26)
  have Hb := hid b4
  have hbz := b4.size
  have Hbs := hid (show w.heap.size + 1 + 1 + 1 + 1 = ((((w.alloc (.cells (x.map (Value.int .u8)).toArray 23 (0, 0))).alloc (.cells (o.map (Value.int .u8)).toArray 23 (0, 0))).alloc (.cells (i.map (Value.int .u8)).toArray 23 (0, 0))).alloc (.cells (prC d (.slice ad len cap)).toArray 26 (0, 0))).heap.size by simp only [World.size_alloc])
  clear b1 b2 b3 b4 
  go_enter Tryd.func52, Tryd.ntmps52
  go_wp2_with (first
     | (refine wpList_load_blk rfl 23 _ rfl (w.heap.size) rfl _ 23 Kx.out _ Tryd.underlying23 rfl 32 size_digest hx.size ?_)
     | (refine wpList_load_blk rfl 23 _ rfl (w.heap.size + 1 + 1) rfl _ 23 Ki.out _ Tryd.underlying23 rfl 32 size_digest hi.size ?_)
     | (refine wpList_load_blk rfl 26 _ rfl (w.heap.size + 1 + 1 + 1) rfl _ 26 Kp.out _ Tryd.underlying26 rfl 33 size_proof (prC_size hd _) ?_))
  refine (cu _ (hns.below Hb.out) (tab.below Hb.out)).mono ?_
  rintro e w1 ⟨rfl, bw1⟩
  have HBw1 := hid (Below.on Hb.out bw1)
  have hsw1 := HBw1.out.size
  have Kxw1 := hid (Kx.out.below bw1)
  have Kow1 := hid (Ko.out.below bw1)
  have Kiw1 := hid (Ki.out.below bw1)
  have Kpw1 := hid (Kp.out.below bw1)
  clear bw1
  have q1 := fun W => eqD T o hT.len ho.len W
  go_wp2_with (first
     | (
        refine wpList_store_blk rfl 23 _ _ rfl (w1.heap.size) (T.map (Value.int .u8)).toArray rfl rfl _ 23 (Blk.new rfl (byteCells 32 []) _) 32 size_digest zsize hT.size (ints_one _ _) ?_
        intro w2 hbw2 hkw2
        have hw2 := hbw2.below ((Below.refl w1.heap.size w1).alloc (Nat.le_refl _) _) (by simp only [World.size_alloc]; omega) (Nat.le_refl _)
        have HBw2 := hid (Below.on HBw1.out hw2)
        have hsw2 := HBw2.out.size
        have Kxw2 := hid (Kxw1.out.below hw2)
        have hlxw2 := Kxw1.out.lt
        have Kow2 := hid (Kow1.out.below hw2)
        have hlow2 := Kow1.out.lt
        have Kiw2 := hid (Kiw1.out.below hw2)
        have hliw2 := Kiw1.out.lt
        have Kpw2 := hid (Kpw1.out.below hw2)
        have hlpw2 := Kpw1.out.lt
        have Ktw2 := hid hkw2
        have hfw2 : w.heap.size ≤ w1.heap.size := HBw1.out.size
        clear hbw2 hkw2 hw2)
     | (refine wpList_load_blk_if (by first | rfl | go_simp) 23 _ rfl (w1.heap.size) rfl _ 23 Ktw2.out _ Tryd.underlying23 rfl 32 size_digest hT.size ?_)
     | (refine wpList_load_blk_if (by first | rfl | go_simp) 23 _ rfl (w.heap.size + 1) rfl _ 23 Kow2.out _ Tryd.underlying23 rfl 32 size_digest ho.size ?_))
  go_returns
  exact ⟨by first | rfl | simp, HBw2.out⟩
set_option maxHeartbeats 4000000 in
theorem leads_no (x o i d T : List Int) (ad : Option Addr) (len cap : Nat) (ns : List (List Int)) (w : World) (hx : Dg x) (hi : Dg i) (hd : Dg d) (hT : Dg T) (hns : DigsAt w ad len cap ns) (tab : ShaTab w)
    (cu : ∀ W : World, DigsAt W ad len cap ns → ShaTab W → Calls Tryd.prog 35 #[.agg (x.map (Value.int .u8)).toArray, .agg (i.map (Value.int .u8)).toArray, .agg (prC d (.slice ad len cap)).toArray] W fun e w' => e = .returned (.tuple #[.agg (T.map (Value.int .u8)).toArray, .int .i64 2]) ∧ Below W.heap.size W w') :
    Calls Tryd.prog 52 #[.agg (x.map (Value.int .u8)).toArray, .agg (o.map (Value.int .u8)).toArray, .agg (i.map (Value.int .u8)).toArray, .agg (prC d (.slice ad len cap)).toArray] w fun e w' => e = .returned (.bool false) ∧ Below w.heap.size w w' := by
  have b1 := (Below.refl w.heap.size w).alloc (Nat.le_refl _) (.cells (x.map (Value.int .u8)).toArray 23 (0, 0))
  have b2 := b1.alloc b1.size (.cells (o.map (Value.int .u8)).toArray 23 (0, 0))
  have b3 := b2.alloc b2.size (.cells (i.map (Value.int .u8)).toArray 23 (0, 0))
  have b4 := b3.alloc b3.size (.cells (prC d (.slice ad len cap)).toArray 26 (0, 0))
  have Kx := hid ((((Blk.new (w := w) (n := w.heap.size) rfl (x.map (Value.int .u8)).toArray 23).old (.cells (o.map (Value.int .u8)).toArray 23 (0, 0))).old (.cells (i.map (Value.int .u8)).toArray 23 (0, 0))).old (.cells (prC d (.slice ad len cap)).toArray 26 (0, 0)))
  have Ko := hid (((Blk.new (w := (w.alloc (.cells (x.map (Value.int .u8)).toArray 23 (0, 0)))) (n := w.heap.size + 1) (by simp only [World.size_alloc]) (o.map (Value.int .u8)).toArray 23).old (.cells (i.map (Value.int .u8)).toArray 23 (0, 0))).old (.cells (prC d (.slice ad len cap)).toArray 26 (0, 0)))
  have Ki := hid ((Blk.new (w := ((w.alloc (.cells (x.map (Value.int .u8)).toArray 23 (0, 0))).alloc (.cells (o.map (Value.int .u8)).toArray 23 (0, 0)))) (n := w.heap.size + 1 + 1) (by simp only [World.size_alloc]) (i.map (Value.int .u8)).toArray 23).old (.cells (prC d (.slice ad len cap)).toArray 26 (0, 0)))
  have Kp := hid (Blk.new (w := (((w.alloc (.cells (x.map (Value.int .u8)).toArray 23 (0, 0))).alloc (.cells (o.map (Value.int .u8)).toArray 23 (0, 0))).alloc (.cells (i.map (Value.int .u8)).toArray 23 (0, 0)))) (n := w.heap.size + 1 + 1 + 1) (by simp only [World.size_alloc]) (prC d (.slice ad len cap)).toArray 26)
  have Hb := hid b4
  have hbz := b4.size
  have Hbs := hid (show w.heap.size + 1 + 1 + 1 + 1 = ((((w.alloc (.cells (x.map (Value.int .u8)).toArray 23 (0, 0))).alloc (.cells (o.map (Value.int .u8)).toArray 23 (0, 0))).alloc (.cells (i.map (Value.int .u8)).toArray 23 (0, 0))).alloc (.cells (prC d (.slice ad len cap)).toArray 26 (0, 0))).heap.size by simp only [World.size_alloc])
  clear b1 b2 b3 b4 
  go_enter Tryd.func52, Tryd.ntmps52
  go_wp2_with (first
     | (refine wpList_load_blk rfl 23 _ rfl (w.heap.size) rfl _ 23 Kx.out _ Tryd.underlying23 rfl 32 size_digest hx.size ?_)
     | (refine wpList_load_blk rfl 23 _ rfl (w.heap.size + 1 + 1) rfl _ 23 Ki.out _ Tryd.underlying23 rfl 32 size_digest hi.size ?_)
     | (refine wpList_load_blk rfl 26 _ rfl (w.heap.size + 1 + 1 + 1) rfl _ 26 Kp.out _ Tryd.underlying26 rfl 33 size_proof (prC_size hd _) ?_))
  refine (cu _ (hns.below Hb.out) (tab.below Hb.out)).mono ?_
  rintro e w1 ⟨rfl, bw1⟩
  have HBw1 := hid (Below.on Hb.out bw1)
  have hsw1 := HBw1.out.size
  have Kxw1 := hid (Kx.out.below bw1)
  have Kow1 := hid (Ko.out.below bw1)
  have Kiw1 := hid (Ki.out.below bw1)
  have Kpw1 := hid (Kp.out.below bw1)
  clear bw1
  go_wp2_with (
        refine wpList_store_blk rfl 23 _ _ rfl (w1.heap.size) (T.map (Value.int .u8)).toArray rfl rfl _ 23 (Blk.new rfl (byteCells 32 []) _) 32 size_digest zsize hT.size (ints_one _ _) ?_
        intro w2 hbw2 hkw2
        have hw2 := hbw2.below ((Below.refl w1.heap.size w1).alloc (Nat.le_refl _) _) (by simp only [World.size_alloc]; omega) (Nat.le_refl _)
        have HBw2 := hid (Below.on HBw1.out hw2)
        have hsw2 := HBw2.out.size
        have Kxw2 := hid (Kxw1.out.below hw2)
        have hlxw2 := Kxw1.out.lt
        have Kow2 := hid (Kow1.out.below hw2)
        have hlow2 := Kow1.out.lt
        have Kiw2 := hid (Kiw1.out.below hw2)
        have hliw2 := Kiw1.out.lt
        have Kpw2 := hid (Kpw1.out.below hw2)
        have hlpw2 := Kpw1.out.lt
        have Ktw2 := hid hkw2
        have hfw2 : w.heap.size ≤ w1.heap.size := HBw1.out.size
        clear hbw2 hkw2 hw2)
  go_returns
  exact ⟨by first | rfl | simp, HBw2.out⟩
end Go.Proofs.YtkakoiaahgchmaaDoor
namespace Go.Proofs.YtkakoiaahgchmaaDoor
set_option maxRecDepth 100000
open Go.ChangeShapes Go.WideShapes Go.ChangeAt Go.RowKit
theorem run_build_ent {a b : List Int} (ha : Dg a) (hb : Dg b) (w : World) : (Instr.build 64 #[(0, .agg (a.map (Value.int .u8)).toArray), (1, .agg (b.map (Value.int .u8)).toArray)]).run Tryd.prog w = .ok (.agg ((entL a b).map (Value.int .u8)).toArray) w := by
  refine run_build w _ _ _ ?_
  obtain ⟨i0, hi, hz0⟩ := Option.map_eq_some_iff.1 (show (Tryd.prog.info? 64).map (·.zero) = some (some (.agg ((entL zD zD).map (Value.int .u8)).toArray)) by kernel_rfl)
  obtain ⟨fields, hu, hq⟩ : ∃ fields, Tryd.prog.underlying 64 = some (.struct fields) ∧ fields.toList.mapM (fun f => (Tryd.prog.info? f.type).map fun i => (f.offset, i.size)) = some [(0, 32), (32, 32)] := ⟨_, Tryd.underlying64, by kernel_rfl⟩
  have hz : (Value.agg ((entL zD zD).map (Value.int .u8)).toArray).cells = ((entL zD zD).map (Value.int .u8)).toArray := rfl
  unfold Program.built
  simp only [hi, hu, hz0, hq, hz]
  have hs0 : (Value.agg (a.map (Value.int .u8)).toArray).cells.size = 32 := ha.size
  have hs1 : (Value.agg (b.map (Value.int .u8)).toArray).cells.size = 32 := hb.size
  have t0 : splice (((entL zD zD).map (Value.int .u8)).toArray).toList 0 (Value.agg (a.map (Value.int .u8)).toArray).cells.toList = (entL a zD).map (Value.int .u8) := by
    show splice ((entL zD zD).map (Value.int .u8)) 0 (a.map (Value.int .u8)) = _
    unfold splice entL
    rw [List.take_zero, List.nil_append, List.length_map, ha.len, List.map_append, List.drop_append_of_le_length (by rw [List.length_map, Dg.zero.len]; omega), List.drop_eq_nil_of_le (by rw [List.length_map, Dg.zero.len]; omega), List.nil_append, List.map_append]
  have t1 : splice ((entL a zD).map (Value.int .u8)) 32 (Value.agg (b.map (Value.int .u8)).toArray).cells.toList = (entL a b).map (Value.int .u8) := by
    show splice ((entL a zD).map (Value.int .u8)) 32 (b.map (Value.int .u8)) = _
    unfold splice entL
    rw [List.map_append, List.take_append_of_le_length (by rw [List.length_map, ha.len]; omega), List.take_of_length_le (by rw [List.length_map, ha.len]; omega), List.length_map, hb.len, List.drop_eq_nil_of_le (by simp [ha.len, Dg.zero.len]), List.append_nil, List.map_append]
  rw [fill_part _ _ 0 0 _ _ (by rw [hs0]; rfl) (by rw [hs0, two_size Dg.zero Dg.zero]; omega), t0]
  rw [fill_part _ _ 1 32 _ _ (by rw [hs1]; rfl) (by rw [hs1, two_size ha Dg.zero]; omega), List.toList_toArray, t1, Instr.fill]
theorem quiet_build_ent {op : Oper} {a : Act} {C : World → Prop} {K : Act → Prop} (x y : Operand) (u v r : Value) (ho : op.op = .build 64 #[(0, x), (1, y)]) (hx : a.eval x = u) (hy : a.eval y = v) (hr : ∀ w', (Instr.build 64 #[(0, u), (1, v)]).run Tryd.prog w' = .ok r w') (h : K (a.put op.dst r)) : op.quiet Tryd.prog a C K :=
  ⟨r, fun w' _ => by
    unfold Oper.quietAt execOp
    simp only [ho, List.map_toArray, List.map_cons, List.map_nil, hx, hy, Sem.run_bind, hr w', Result.andThen_ok, Sem.run_pure]
    simp [Oper.quietUpon], h⟩
set_option maxHeartbeats 4000000 in
theorem present_any (o i c d : List Int) (ad : Option Addr) (len cap : Nat) (ns : List (List Int)) (b : Bool) (w : World) (ho : Dg o) (hi : Dg i) (hc : Dg c) (hd : Dg d) (hns : DigsAt w ad len cap ns) (tab : ShaTab w)
    (cl : ∀ W : World, DigsAt W ad len cap ns → ShaTab W → Calls Tryd.prog 52 #[.agg ((leafE i c).map (Value.int .u8)).toArray, .agg (o.map (Value.int .u8)).toArray, .agg (i.map (Value.int .u8)).toArray, .agg (prC d (.slice ad len cap)).toArray] W fun e w' => e = .returned (.bool b) ∧ Below W.heap.size W w') :
    Calls Tryd.prog 23 #[.agg (o.map (Value.int .u8)).toArray, .agg (i.map (Value.int .u8)).toArray, .agg (c.map (Value.int .u8)).toArray, .agg (prC d (.slice ad len cap)).toArray] w fun e w' => e = .returned (.bool b) ∧ Below w.heap.size w w' := by
  have CL := hid (fun (W : World) (t : ShaTab W) => leaf_any i c W hi hc t)
  have CD := hid cl
  have HBE := hid (fun W : World => run_build_ent hi hc W)
  clear cl
  generalize leafE i c = L at *
  have b1 := (Below.refl w.heap.size w).alloc (Nat.le_refl _) (.cells (o.map (Value.int .u8)).toArray 23 (0, 0))
  have b2 := b1.alloc b1.size (.cells (i.map (Value.int .u8)).toArray 23 (0, 0))
  have b3 := b2.alloc b2.size (.cells (c.map (Value.int .u8)).toArray 23 (0, 0))
  have b4 := b3.alloc b3.size (.cells (prC d (.slice ad len cap)).toArray 26 (0, 0))
  have Ko := hid ((((Blk.new (w := w) (n := w.heap.size) rfl (o.map (Value.int .u8)).toArray 23).old (.cells (i.map (Value.int .u8)).toArray 23 (0, 0))).old (.cells (c.map (Value.int .u8)).toArray 23 (0, 0))).old (.cells (prC d (.slice ad len cap)).toArray 26 (0, 0)))
  have Ki := hid (((Blk.new (w := (w.alloc (.cells (o.map (Value.int .u8)).toArray 23 (0, 0)))) (n := w.heap.size + 1) (by simp only [World.size_alloc]) (i.map (Value.int .u8)).toArray 23).old (.cells (c.map (Value.int .u8)).toArray 23 (0, 0))).old (.cells (prC d (.slice ad len cap)).toArray 26 (0, 0)))
  have Kc := hid ((Blk.new (w := ((w.alloc (.cells (o.map (Value.int .u8)).toArray 23 (0, 0))).alloc (.cells (i.map (Value.int .u8)).toArray 23 (0, 0)))) (n := w.heap.size + 1 + 1) (by simp only [World.size_alloc]) (c.map (Value.int .u8)).toArray 23).old (.cells (prC d (.slice ad len cap)).toArray 26 (0, 0)))
  have Kp := hid (Blk.new (w := (((w.alloc (.cells (o.map (Value.int .u8)).toArray 23 (0, 0))).alloc (.cells (i.map (Value.int .u8)).toArray 23 (0, 0))).alloc (.cells (c.map (Value.int .u8)).toArray 23 (0, 0)))) (n := w.heap.size + 1 + 1 + 1) (by simp only [World.size_alloc]) (prC d (.slice ad len cap)).toArray 26)
  have Hb := hid b4
  have hbz := b4.size
  have Hbs := hid (show w.heap.size + 1 + 1 + 1 + 1 = ((((w.alloc (.cells (o.map (Value.int .u8)).toArray 23 (0, 0))).alloc (.cells (i.map (Value.int .u8)).toArray 23 (0, 0))).alloc (.cells (c.map (Value.int .u8)).toArray 23 (0, 0))).alloc (.cells (prC d (.slice ad len cap)).toArray 26 (0, 0))).heap.size by simp only [World.size_alloc])
  have Htab := hid tab
  clear b1 b2 b3 b4 tab 
  go_enter Tryd.func23, Tryd.ntmps23
  go_wp2_with fail
  refine wp_region_flow 8 (List.range 8) [] [] (by kernel_rfl) (by kernel_rfl) ?_
  apply Exists.intro
  refine ⟨fun w0 hb0 hF0 => ?_, ?_⟩
  · skip
    have x0 : ∀ w', (∃ x : Ext w0, w' = x.at_) → ∃ T, Blk w' (w.heap.size) (o.map (Value.int .u8)).toArray T := fun w' ⟨x, hx⟩ => ⟨_, hx ▸ (Ko.out.below hb0).below x.same⟩
    have x1 : ∀ w', (∃ x : Ext w0, w' = x.at_) → ∃ T, Blk w' (w.heap.size + 1) (i.map (Value.int .u8)).toArray T := fun w' ⟨x, hx⟩ => ⟨_, hx ▸ (Ki.out.below hb0).below x.same⟩
    have x2 : ∀ w', (∃ x : Ext w0, w' = x.at_) → ∃ T, Blk w' (w.heap.size + 1 + 1) (c.map (Value.int .u8)).toArray T := fun w' ⟨x, hx⟩ => ⟨_, hx ▸ (Kc.out.below hb0).below x.same⟩
    have x3 : ∀ w', (∃ x : Ext w0, w' = x.at_) → ∃ T, Blk w' (w.heap.size + 1 + 1 + 1) (prC d (.slice ad len cap)).toArray T := fun w' ⟨x, hx⟩ => ⟨_, hx ▸ (Kp.out.below hb0).below x.same⟩
    have c0 := fun e : Ext w0 => CL.out e.at_ (Htab.out.below (Below.on (Below.on Hb.out hb0) e.same))
    have c1 := fun e : Ext w0 => CD.out e.at_ (hns.below (Below.on (Below.on Hb.out hb0) e.same)) (Htab.out.below (Below.on (Below.on Hb.out hb0) e.same))
    simp only [pick, List.range, List.range.loop, List.getElem?_toArray, List.getElem?_cons_succ, List.getElem?_cons_zero, Option.toList_some, List.cons_append, List.nil_append]
    repeat (first | (go_big_quiet_want; refine quiet_load_blk 23 _ rfl (w.heap.size) rfl _ x0 _ Tryd.underlying23 rfl 32 size_digest ho.size ?_; go_big_quiet_on; simp only [Act.put, List.setIfInBounds_toArray, List.set_cons_zero, List.set_cons_succ]) | (go_big_quiet_want; refine quiet_load_blk 23 _ rfl (w.heap.size + 1) rfl _ x1 _ Tryd.underlying23 rfl 32 size_digest hi.size ?_; go_big_quiet_on; simp only [Act.put, List.setIfInBounds_toArray, List.set_cons_zero, List.set_cons_succ]) | (go_big_quiet_want; refine quiet_load_blk 23 _ rfl (w.heap.size + 1 + 1) rfl _ x2 _ Tryd.underlying23 rfl 32 size_digest hc.size ?_; go_big_quiet_on; simp only [Act.put, List.setIfInBounds_toArray, List.set_cons_zero, List.set_cons_succ]) | (go_big_quiet_want; refine quiet_load_blk 26 _ rfl (w.heap.size + 1 + 1 + 1) rfl _ x3 _ Tryd.underlying26 rfl 33 size_proof (prC_size hd _) ?_; go_big_quiet_on; simp only [Act.put, List.setIfInBounds_toArray, List.set_cons_zero, List.set_cons_succ]) | (go_big_quiet_want; refine quiet_build_ent (.tmp 9) (.tmp 10) _ _ _ rfl rfl rfl HBE.out ?_; go_big_quiet_on; simp only [Act.put, List.setIfInBounds_toArray, List.set_cons_zero, List.set_cons_succ]) | go_big_quiet_step (first | (go_at_call 33; with_reducible exact Calls.ext (c0 _)) | (go_at_call 52; with_reducible exact Calls.ext (c1 _))))
    exact wpQuiet_nil rfl
  refine AlChk.nil ?_
  refine Walk.fin fun w1 hw1 _ _ => ?_
  simp only [List.drop_succ_cons, List.drop_zero]
  have HBw1 := hid (Below.on Hb.out hw1)
  have hsw1 := HBw1.out.size
  have Kow1 := hid (Ko.out.below hw1)
  have Kiw1 := hid (Ki.out.below hw1)
  have Kcw1 := hid (Kc.out.below hw1)
  have Kpw1 := hid (Kp.out.below hw1)
  clear hw1
  go_wp2_with fail
  go_returns
  exact ⟨rfl, HBw1.out⟩
end Go.Proofs.YtkakoiaahgchmaaDoor
