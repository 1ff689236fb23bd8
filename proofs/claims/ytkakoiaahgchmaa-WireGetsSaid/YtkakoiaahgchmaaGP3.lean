/-
  Layer 20: digests are taken from bytes.
-/
import Derived.Test.YtkakoiaahgchmaaGP2
namespace Go.Proofs.Ytkakoiaahgchmaa
open Go.ChangeShapes Go.WideShapes Go.ChangeAt Go.RowKit

section
variable {P : Program}
set_option maxRecDepth 100000 in
/-- copy, a text into a part of a block -/
theorem run_copy_text (w : World) (dT sT ty elem : TypeId) (hu : P.underlying dT = some (.slice elem)) (hs : (P.info? elem).map (·.size) = some 1) {b : Nat} {cs : Array Value} {T : TypeId} (hk : Blk w b cs T) (off dLen dCap : Nat) {a : Option Addr} {len cap : Nat} {t : List Int} (hT : TextAt w a len cap t)
    (hfit : off + dLen ≤ cs.size) : (Builtin.copy_ #[dT, sT] ty #[.slice (some ⟨b, off, none⟩) dLen dCap, .slice a len cap]).run P w = .ok (.int .i64 (Nat.min len dLen : Nat)) (w.setCells b off ((t.take (Nat.min len dLen)).map (Value.int .u8))) := by
  rcases Nat.eq_zero_or_pos (Nat.min len dLen) with h0 | h0
  · rw [run_copy_none w dT sT ty elem _ a dLen dCap len cap hu hs h0, h0]
    simp [World.setCells, goInt]
  · have hle : Nat.min len dLen ≤ len := Nat.min_le_left _ _
    have hle2 : Nat.min len dLen ≤ dLen := Nat.min_le_right _ _
    obtain ⟨x, o, rfl, hx, hc⟩ := hT.at_ (by omega)
    have hl : ((t.take (Nat.min len dLen)).map (Value.int .u8)).length = Nat.min len dLen := by rw [List.length_map, List.length_take, hT.length]; omega
    have := run_copy_cells (P := P) w dT sT ty elem b off dLen dCap ⟨x, o, none⟩ len cap ((t.take (Nat.min len dLen)).map (Value.int .u8)) hu hs hl (fun j v hv => by
      have hj : j < Nat.min len dLen := by
        have := (List.getElem?_eq_some_iff.1 hv).1
        omega
      rw [Addr.add_mid, hc j (by omega)]
      rw [List.getElem?_map, List.getElem?_take_of_lt hj, List.getElem?_eq_getElem (by rw [hT.length]; omega)] at hv
      rw [List.getD_eq_getElem?_getD, List.getElem?_eq_getElem (by rw [hT.length]; omega)]
      exact hv) (fun j hj => by rw [hk.cell, Array.getElem?_eq_getElem (by omega)]; rfl) (fun j _ => hk.free _) (fun v hv => by
      obtain ⟨y, _, rfl⟩ := List.mem_map.1 hv
      rfl)
    rw [this, hl]
    rfl
end
set_option maxRecDepth 100000 in
/-- .. as operations of a walk -/
theorem wpList_copy_text {P : Program} {ops : Array Oper} {rest : List Oper} {op : Oper} {act : Act} {w : World} {Q : Exit → Act → World → Prop} (hgd : op.guard = none) (d s : Operand) (dT sT : TypeId)
    (ho : op.op = .call { callee := .builtin .copy, args := #[d, s], argTypes := #[dT, sT] }) (elem : TypeId) (hu : P.underlying dT = some (.slice elem)) (hs : (P.info? elem).map (·.size) = some 1)
    (b off dLen dCap : Nat) (hd : act.eval d = .slice (some ⟨b, off, none⟩) dLen dCap) (a : Option Addr) (len cap : Nat) (hse : act.eval s = .slice a len cap) (cs : Array Value) (T : TypeId) (hk : Blk w b cs T) (t : List Int) (hT : TextAt w a len cap t) (hfit : off + dLen ≤ cs.size) (n : Nat) (hn : n = Nat.min len dLen)
    (h : wpList P ops Q rest (act.put op.dst (.int .i64 (n : Nat))) (w.setCells b off ((t.take n).map (Value.int .u8)))) : wpList P ops Q (op :: rest) act w := by
  subst hn
  refine wpList_plain hgd fun K hK => ?_
  have hrun := run_copy_text (P := P) w dT sT op.type elem hu hs hk off dLen dCap hT hfit
  unfold Oper.wp execOp
  simp only [ho, resolve, invoke, builtin, Sem.run_bind, Sem.run_pure, Result.andThen_ok, List.map_toArray, List.map_cons, List.map_nil, hd, hse, hrun]
  exact hK _ _ h
set_option maxRecDepth 100000 in
theorem TextAt.from {w : World} {a : Option Addr} {len cap : Nat} {t : List Int} (h : TextAt w a len cap t) (l : Nat) (hl : l ≤ len) : TextAt w (cutA a l cap) (len - l) (cap - l) (t.drop l) := by
  have := h.cut l len hl (Nat.le_refl _)
  rwa [List.take_of_length_le (by simp [h.length])] at this
set_option maxRecDepth 100000 in
theorem TextAt.to {w : World} {a : Option Addr} {len cap : Nat} {t : List Int} (h : TextAt w a len cap t) (l : Nat) (hl : l ≤ len) : TextAt w a l cap (t.take l) := by
  have := h.cut 0 l (Nat.zero_le _) hl
  rwa [cutA_zero, Nat.sub_zero, Nat.sub_zero, List.drop_zero] at this
theorem take_next (zs : List Int) (k : Nat) (h : k < zs.length) : zs.take (k + 1) = zs.take k ++ [zs.getD k 0] := by
  rw [List.take_succ_eq_append_getElem h]; simp [h]
theorem numOf_bounds : ∀ (bs : List Int), (∀ x ∈ bs, 0 ≤ x ∧ x < 256) → 0 ≤ numOf bs ∧ numOf bs < (256 : Int) ^ bs.length := by
  intro bs
  have key : ∀ (k : Nat), k ≤ bs.length → (∀ x ∈ bs, 0 ≤ x ∧ x < 256) → 0 ≤ numOf (bs.take k) ∧ numOf (bs.take k) < (256 : Int) ^ k := by
    intro k
    induction k with
    | zero => intro _ _; simp [numOf]
    | succ k ih =>
      intro hk hb
      have h1 := ih (by omega) hb
      have h2 := hb bs[k] (List.getElem_mem _)
      rw [take_next bs k (by omega), numOf_snoc, show bs.getD k 0 = bs[k] by simp [show k < bs.length by omega], Int.pow_succ]
      generalize (256 : Int) ^ k = p at *
      omega
  intro hb
  have := key bs.length (Nat.le_refl _) hb
  simpa using this
theorem or_next (n x : Int) (h0 : 0 ≤ n) (h1 : n < 72057594037927936) (h2 : 0 ≤ x) (h3 : x < 256) : bits .or .u64 (n * 256) x = 256 * n + x := by
  rw [u64_or _ _ (by omega) (by omega) h2 (by omega)]
  obtain ⟨m, rfl⟩ := Int.eq_ofNat_of_zero_le h0
  obtain ⟨y, rfl⟩ := Int.eq_ofNat_of_zero_le h2
  have h4 : y < 2 ^ 8 := by omega
  have h5 := Nat.shiftLeft_add_eq_or_of_lt h4 m
  rw [Nat.shiftLeft_eq] at h5
  have e1 : ((m : Int) * 256).toNat = m * 2 ^ 8 := by omega
  have e2 : ((y : Int)).toNat = y := by omega
  rw [e1, e2, ← h5]
  omega
set_option maxHeartbeats 1000000 in
set_option maxRecDepth 100000 in
theorem of_bytes (b off : Nat) (bs : List Int) (len cap : Nat) (w : World) (hl : bs.length = len) (h8 : len ≤ 8) (hb : ∀ x ∈ bs, 0 ≤ x ∧ x < 256)
    (hc : ∀ i, i < len → w.cell? ⟨b, off + i, none⟩ = some (.int .u8 (bs.getD i 0))) :
    Calls Try.prog 22 #[.slice (some ⟨b, off, none⟩) len cap] w fun e w' => e = .returned (.tuple #[.int .u64 (numOf bs), .int .i64 0]) ∧ w = w' := by
  have h1 : decide ((8 : Int) < (len : Int)) = false := by simp; omega
  have Hl := hid hl
  replace hc := hid hc
  clear hl
  go_enter Try.func22, Try.ntmps22
  go_wp2
  go_loop [4, 12] (fun n i => ∃ k : Nat, k ≤ len ∧ i = .int .i64 k ∧ n = .int .u64 (numOf (bs.take k))) (fun _ i => len - (intOf i).toNat)
  case atStart => exact ⟨0, by omega, rfl, rfl⟩
  case round =>
    obtain ⟨k, hk, rfl, rfl⟩ := hrel
    by_cases hlt : k < len
    · have hck : w.cell? ⟨b, off + k, none⟩ = some (.int .u8 (bs.getD k 0)) := hc.out k hlt
      have hkl : k < bs.length := by rw [Hl.out]; exact hlt
      have HS := hid (take_next bs k hkl)
      have hbd := numOf_bounds (bs.take k) (fun x hx => hb x (List.mem_of_mem_take hx))
      have hp : (256 : Int) ^ (bs.take k).length ≤ 72057594037927936 := by
        rw [List.length_take, Nat.min_eq_left (by omega), show (72057594037927936 : Int) = (256 : Int) ^ 7 by decide]
        exact_mod_cast Nat.pow_le_pow_right (show 0 < 256 by decide) (show k ≤ 7 by omega)
      have hx := hb (bs.getD k 0) (by rw [show bs.getD k 0 = bs[k] by simp [hkl]]; exact List.getElem_mem _)
      obtain ⟨hn0, hn1⟩ := hbd
      have hn2 := Int.lt_of_lt_of_le hn1 hp
      clear hn1 hp
      have HN := hid (numOf_snoc (bs.take k) (bs.getD k 0))
      generalize numOf (bs.take k) = n at *
      generalize bs.getD k 0 = x at hck hx HS HN
      obtain ⟨hx0, hx1⟩ := hx
      have HO := hid (or_next n x hn0 (by omega) hx0 hx1)
      clear hkl
      go_wp2
      go_round
      case rel => exact ⟨k + 1, by omega, by go_num, by rw [HS.out, HN.out, HO.out]⟩
      case measure => simp [intOf]; omega
    · obtain rfl : k = len := by omega
      have HF := hid (show numOf (bs.take k) = numOf bs by rw [List.take_of_length_le (by rw [Hl.out]; omega)])
      go_wp2
      go_ret2
      exact ⟨by rw [← HF.out]; rfl, rfl⟩
set_option maxHeartbeats 1000000 in
set_option maxRecDepth 100000 in
theorem ref_of (b off : Nat) (bs : List Int) (len cap : Nat) (w : World) (hl : bs.length = len) (h8 : len ≤ 8) (hb : ∀ x ∈ bs, 0 ≤ x ∧ x < 256)
    (hc : ∀ i, i < len → w.cell? ⟨b, off + i, none⟩ = some (.int .u8 (bs.getD i 0))) :
    Calls Try.prog 27 #[.slice (some ⟨b, off, none⟩) len cap] w fun e w' => e = .returned (.int .u64 (numOf bs)) ∧ w = w' := by
  have Hl := hid hl
  replace hc := hid hc
  clear hl
  go_enter Try.func27, Try.ntmps27
  go_wp2
  go_loop [3, 4] (fun n i => ∃ k : Nat, k ≤ len ∧ i = .int .i64 k ∧ n = .int .u64 (numOf (bs.take k))) (fun _ i => len - (intOf i).toNat)
  case atStart => exact ⟨0, by omega, rfl, rfl⟩
  case round =>
    obtain ⟨k, hk, rfl, rfl⟩ := hrel
    by_cases hlt : k < len
    · have hck : w.cell? ⟨b, off + k, none⟩ = some (.int .u8 (bs.getD k 0)) := hc.out k hlt
      have hkl : k < bs.length := by rw [Hl.out]; exact hlt
      have HS := hid (take_next bs k hkl)
      have hbd := numOf_bounds (bs.take k) (fun x hx => hb x (List.mem_of_mem_take hx))
      have hp : (256 : Int) ^ (bs.take k).length ≤ 72057594037927936 := by
        rw [List.length_take, Nat.min_eq_left (by omega), show (72057594037927936 : Int) = (256 : Int) ^ 7 by decide]
        exact_mod_cast Nat.pow_le_pow_right (show 0 < 256 by decide) (show k ≤ 7 by omega)
      have hx := hb (bs.getD k 0) (by rw [show bs.getD k 0 = bs[k] by simp [hkl]]; exact List.getElem_mem _)
      obtain ⟨hn0, hn1⟩ := hbd
      have hn2 := Int.lt_of_lt_of_le hn1 hp
      clear hn1 hp
      have HN := hid (numOf_snoc (bs.take k) (bs.getD k 0))
      generalize numOf (bs.take k) = n at *
      generalize bs.getD k 0 = x at hck hx HS HN
      obtain ⟨hx0, hx1⟩ := hx
      clear hkl
      go_wp2
      go_round
      case rel => exact ⟨k + 1, by omega, by go_num, by rw [HS.out, HN.out]⟩
      case measure => simp [intOf]; omega
    · obtain rfl : k = len := by omega
      have HF := hid (show numOf (bs.take k) = numOf bs by rw [List.take_of_length_le (by rw [Hl.out]; omega)])
      go_wp2
      go_ret
      exact ⟨by rw [← HF.out]; rfl, rfl⟩
/-- Digests, one behind the other, out of bytes. -/
def rowsZ (t : List Int) (n : Nat) : List (List Int) := (List.range n).map fun j => (t.drop (j * 32)).take 32
theorem rowsZ_length (t : List Int) (n : Nat) : (rowsZ t n).length = n := by simp [rowsZ]
theorem rowsZ_succ (t : List Int) (n : Nat) : rowsZ t (n + 1) = rowsZ t n ++ [(t.drop (n * 32)).take 32] := by simp [rowsZ, List.range_succ]
theorem rowsZ_each {t : List Int} {n : Nat} (hl : n * 32 ≤ t.length) (hs : ∀ x ∈ t, 0 ≤ x ∧ x < 256) : ∀ d ∈ rowsZ t n, Dg d := by
  intro d hd
  unfold rowsZ at hd
  obtain ⟨j, hj, rfl⟩ := List.mem_map.1 hd
  have hj := List.mem_range.1 hj
  exact ⟨by rw [List.length_take, List.length_drop]; omega, fun x hx => hs x (List.mem_of_mem_drop (List.mem_of_mem_take hx))⟩
/-- The first k digests, and zeros behind them. -/
def fillR (t : List Int) (n k : Nat) : List (List Int) := rowsZ t k ++ List.replicate (n - k) zD
theorem fillR_length (t : List Int) {n k : Nat} (hk : k ≤ n) : (fillR t n k).length = n := by simp [fillR, rowsZ_length]; omega
theorem fillR_each {t : List Int} {n k : Nat} (hl : k * 32 ≤ t.length) (hs : ∀ x ∈ t, 0 ≤ x ∧ x < 256) : ∀ d ∈ fillR t n k, Dg d := by
  intro d hd
  rcases List.mem_append.1 hd with h | h
  · exact rowsZ_each hl hs d h
  · rw [(List.mem_replicate.1 h).2]; exact Dg.zero
theorem fillR_set (t : List Int) {n k : Nat} (hk : k < n) : (fillR t n k).set k ((t.drop (k * 32)).take 32) = fillR t n (k + 1) := by
  unfold fillR
  rw [rowsZ_succ, List.set_append_right _ _ (by rw [rowsZ_length]; omega), rowsZ_length, Nat.sub_self]
  rw [show n - k = (n - (k + 1)) + 1 by omega, List.replicate_succ, List.set_cons_zero, List.append_assoc]
  rfl
theorem FlowB.ButIn.but_new {S : List Nat} {g : Nat} {w wr w2 : World} (h : FlowB.ButIn S w wr) (hb : But g wr w2) (hg : w.heap.size ≤ g) : FlowB.ButIn S w w2 :=
  ⟨hb.os.trans h.os, hb.tape.trans h.tape, hb.output.trans h.output, Nat.le_trans h.size hb.size, fun k hk hc => (hb.block k (Nat.lt_of_lt_of_le hk h.size) (by omega)).trans (h.block k hk hc)⟩
theorem FlowB.ButIn.but_in {S : List Nat} {g : Nat} {w wr w2 : World} (h : FlowB.ButIn S w wr) (hb : But g wr w2) (hg : g ∈ S) : FlowB.ButIn S w w2 :=
  ⟨hb.os.trans h.os, hb.tape.trans h.tape, hb.output.trans h.output, Nat.le_trans h.size hb.size, fun k hk hc => (hb.block k (Nat.lt_of_lt_of_le hk h.size) (fun e => hc (e ▸ hg))).trans (h.block k hk hc)⟩
theorem FlowB.ButIn.on {S : List Nat} {w wr w2 : World} (h : FlowB.ButIn S w wr) (hb : Below wr.heap.size wr w2) : FlowB.ButIn S w w2 :=
  ⟨hb.os.trans h.os, hb.tape.trans h.tape, hb.output.trans h.output, Nat.le_trans h.size hb.size, fun k hk hc => (hb.block k (Nat.lt_of_lt_of_le hk h.size)).trans (h.block k hk hc)⟩
theorem size_text1 : (Try.prog.info? 31).map (·.size) = some 1 := by kernel_rfl
theorem size_byte_ : (Try.prog.info? 5).map (·.size) = some 1 := by kernel_rfl
section
variable {P : Program} {ops : Array Oper} {rest : List Oper} {op : Oper} {a : Act} {w : World} {Q : Exit → Act → World → Prop}
/-- One cell is stored. -/
theorem run_store_one {ty : TypeId} {b o : Nat} {v : Value} {cs : Array Value} {T : TypeId} (w : World) (hk : Blk w b cs T) (ho : o < cs.size) (hi : (P.info? ty).map (·.size) = some 1) (h1 : v.oneCell' = true) (hc : v.cells = #[v]) :
    (storeVar ty ⟨b, o, none⟩ v).run P w = .ok () (w.setCells b o [v]) := by
  have h := run_storeVar_mid (P := P) w b o ty #[v] (fun j hj => ⟨by
    simp only [List.size_toArray, List.length_cons, List.length_nil] at hj
    rw [hk.cell, Array.getElem?_eq_getElem (by omega)]; rfl, hk.free _⟩) (by rw [hi]; rfl) (by simp [h1])
  unfold storeVar at *
  rw [hc]
  exact h
theorem wpList_store_cell (hgd : op.guard = none) (ty : TypeId) (x y : Operand) (ho : op.op = .store ty x y) (b o : Nat) (v : Value) (hx : a.eval x = .pointer (some ⟨b, o, none⟩)) (hy : a.eval y = v) (h1 : v.oneCell' = true) (hc : v.cells = #[v])
    (cs : Array Value) (T : TypeId) (hk : Blk w b cs T) (hlt : o < cs.size) (hi : (P.info? ty).map (·.size) = some 1)
    (h : ∀ w', But b w w' → Blk w' b (cs.setIfInBounds o v) T → wpList P ops Q rest (a.put op.dst undef) w') : wpList P ops Q (op :: rest) a w :=
  wpList_plain hgd fun K hK => by
    unfold Oper.wp execOp
    simp only [ho, hx, hy, Instr.storeAt, Instr.sureAddr, Sem.run_bind, Sem.run_pure, Result.andThen_ok, run_store_one w hk hlt hi h1 hc, Oper.upon_skip]
    exact hK _ _ (h _ (But.setCells [v] o w (But.of (Below.refl _ _))) (hk.set o v))
end

set_option maxHeartbeats 4000000 in
set_option maxRecDepth 100000 in
theorem take_any (br : Nat) (ra : Option Addr) (rl rc : Nat) (t : List Int) (n : Nat) (W0 w : World) (kr : Blk w br #[.slice ra rl rc] 31) (hT : TextAt W0 ra rl rc t) (hW : Below W0.heap.size W0 w) (hbr : W0.heap.size ≤ br) (hn1 : 1 ≤ n) (hn : n ≤ 1000) (hl : n * 32 ≤ rl) :
    Calls Try.prog 23 #[.pointer (some ⟨br, 0, none⟩), .int .i64 n] w fun e w' => e = .returned (.slice (some ⟨w.heap.size, 0, none⟩) n n) ∧ Blk w' w.heap.size (dcs (rowsZ t n)) 25 ∧ (∃ ra' rc', Blk w' br #[.slice ra' (rl - n * 32) rc'] 31 ∧ TextAt W0 ra' (rl - n * 32) rc' (t.drop (n * 32))) ∧ FlowB.ButIn [br] w w' := by
  have Kr := hid kr
  have HT := hid hT
  have HW := hid hW
  have htl := hT.length
  have HSM := hid hT.small
  have hbl := kr.lt
  have hmk := fun W : World => make_digs n n rfl (by omega) W
  clear kr hT hW
  go_enter Try.func23, Try.ntmps23
  go_wp2_with fail
  have HI0 := hid ((FlowB.rel_butIn [br]).of ((Below.refl w.heap.size w).alloc (Nat.le_refl _) (.cells (dcs (List.replicate n zD)) 25 (0, 0))))
  have Kg0 := hid (Blk.new (w := w) (n := w.heap.size) rfl (dcs (List.replicate n zD)) 25)
  have Kr0 := hid (Kr.out.old (.cells (dcs (List.replicate n zD)) 25 (0, 0)))
  clear hmk
  go_loopw [11] (fun iv wr => ∃ (k : Nat) (xa : Option Addr) (xc : Nat), k ≤ n ∧ iv = .int .i64 k ∧ Blk wr w.heap.size (dcs (fillR t n k)) 25 ∧ Blk wr br #[.slice xa (rl - k * 32) xc] 31 ∧ TextAt W0 xa (rl - k * 32) xc (t.drop (k * 32)) ∧ FlowB.ButIn [br] w wr) (fun iv _ => n - (intOf iv).toNat)
  case atStart => exact ⟨0, ra, rc, Nat.zero_le _, rfl, by simpa [fillR, rowsZ] using Kg0.out, by simpa using Kr0.out, by simpa using HT.out, HI0.out⟩
  case round =>
    obtain ⟨k, xa, xc, hk, rfl, kg, kr, hx, hi⟩ := hrel
    have Kg := hid kg
    have Kr1 := hid kr
    have HX := hid hx
    have HI := hid hi
    have HWr := hid (hi.below HW.out HW.out.size (by simp; omega))
    have hglt := kg.lt
    have hne1 : ¬ w.heap.size = br := by omega
    have hne2 : ¬ br = w.heap.size := by omega
    clear kg kr hx hi
    by_cases hlt : k < n
    · have hc0 : (k : Int) < n := by omega
      have hRl : k * 32 + 32 ≤ rl := by omega
      obtain ⟨r1, hr1⟩ : ∃ r, r = rl - k * 32 := ⟨_, rfl⟩
      have hr32 : 32 ≤ r1 := by omega
      rw [← hr1] at Kr1 HX
      have hrn := hid hr1
      clear hr1
      go_wp2_with fail
      refine wp_region_flow 7 [0, 1, 2, 3, 4, 5, 6] [] [] (by kernel_rfl) (by kernel_rfl) ?_
      apply Exists.intro
      refine ⟨fun w0 hb0 hF0 => ?_, ?_⟩
      · skip
        have y0 : ∀ w', (∃ x : Ext w0, w' = x.at_) → w'.cell? ⟨br, 0, none⟩ = some (.slice xa r1 xc) := fun w' ⟨x, hx⟩ => by rw [hx, ((Kr1.out.below hb0).below x.same).cell]; rfl
        simp only [pick, List.getElem?_toArray, List.getElem?_cons_succ, List.getElem?_cons_zero, Option.toList_some, List.cons_append, List.nil_append]
        repeat (first | (go_big_quiet_want; refine quiet_index_digs 44 _ _ rfl Try.underlying44 size_digest w.heap.size 0 n n rfl _ _ rfl k rfl hlt ?_; go_big_quiet_on; simp only [Act.put, List.setIfInBounds_toArray, List.set_cons_zero, List.set_cons_succ]) | (go_big_quiet_want; refine quiet_load_one 31 _ rfl ⟨br, 0, none⟩ rfl _ y0 _ Try.underlying31 rfl ?_; go_big_quiet_on; simp only [Act.put, List.setIfInBounds_toArray, List.set_cons_zero, List.set_cons_succ]) | go_big_quiet_step (fail))
        exact wpQuiet_nil rfl
      refine AlChk.nil ?_
      refine Walk.fin fun w1 h1 _ _ => ?_
      simp only [List.drop_succ_cons, List.drop_zero]
      have Kg1 := hid (Kg.out.below h1)
      have Kr2 := hid (Kr1.out.below h1)
      have HI1 := hid (HI.out.on h1)
      have HT1 := hid (HX.out.below (Below.on HWr.out h1))
      have hg1 := Nat.lt_of_lt_of_le hglt h1.size
      have HXD := hid (show Dg ((t.drop (k * 32)).take 32) from ⟨by rw [List.length_take, List.length_drop]; omega, fun x hx => HSM.out x (List.mem_of_mem_drop (List.mem_of_mem_take hx))⟩)
      have HFS := hid (fillR_set t hlt)
      clear h1
      have hfe : ∀ d ∈ fillR t n k, Dg d := fillR_each (by omega) HSM.out
      have hfl : (fillR t n k).length = n := fillR_length t hk
      have hcz : (dcs (fillR t n k)).size = n * 32 := by rw [dcs_size (Dg.lens hfe), hfl]
      have hfit : k * 32 + 32 ≤ (dcs (fillR t n k)).size := by rw [hcz]; omega
      have hn0 : 32 = Nat.min r1 32 := (Nat.min_eq_right hr32).symm
      with_reducible refine wpList_copy_text rfl _ _ _ _ rfl 5 Try.underlying31 size_byte_ w.heap.size (k * 32) 32 32 rfl _ r1 _ rfl _ 25 Kg1.out _ HT1.out hfit 32 hn0 ?_

      have kg2 := Kg1.out.set_dig hfe HXD.out (j := k) (by rw [hfl]; exact hlt)
      rw [HFS.out] at kg2
      have b2 : But w.heap.size w1 (w1.setCells w.heap.size (k * 32) (((t.drop (k * 32)).take 32).map (Value.int .u8))) := But.setCells _ _ _ (But.of (Below.refl _ _))
      generalize w1.setCells w.heap.size (k * 32) (((t.drop (k * 32)).take 32).map (Value.int .u8)) = w2 at *
      have Kg2 := hid kg2
      have Kr3 := hid (b2.blk Kr2.out hne2)
      have HI2 := hid (HI1.out.but_new b2 (Nat.le_refl _))
      have hcut := fun W : World => run_cut_l (P := Try.prog) Try.underlying31 size_byte_ xa r1 xc 32 W (by omega) (by omega)
      have cr : w2.cell? ⟨br, 0, none⟩ = some (.slice xa r1 xc) := by rw [Kr3.out.cell]; rfl
      clear kg2 b2 hn0 hfit hcz hfe hfl
      have HXC := hid (show TextAt W0 (cutA xa 32 xc) (rl - (k + 1) * 32) (xc - 32) (t.drop ((k + 1) * 32)) from by
        have h := HX.out.from 32 (by omega)
        rw [List.drop_drop, hrn.out] at h
        rw [show (k + 1) * 32 = k * 32 + 32 by omega, ← Nat.sub_sub]
        exact h)
      rw [show Int.toNat 32 = 32 from rfl] at hcut
      generalize cutA xa 32 xc = xa2 at *
      go_wp2_with (
        refine wpList_store_cell rfl 31 _ _ rfl br 0 (.slice xa2 (r1 - 32) (xc - 32)) rfl rfl rfl rfl _ 31 Kr3.out (by simp) size_text1 ?_
        intro w3 hb3 hk3
        have Kg3 := hid (hb3.blk Kg2.out hne1)
        have Kr4 := hid (show Blk w3 br #[.slice xa2 (r1 - 32) (xc - 32)] 31 from hk3)
        have HI3 := hid (HI2.out.but_in hb3 (by simp))
        clear hb3 hk3)
      exact ⟨⟨k + 1, xa2, xc - 32, by omega, by first | rfl | simp, Kg3.out, by rw [show rl - (k + 1) * 32 = r1 - 32 by rw [hrn.out]; omega]; exact Kr4.out, HXC.out, HI3.out⟩, by simp [intOf]; omega⟩
    · have hkn : k = n := by omega
      subst hkn
      have hc0 : ¬ (k : Int) < k := by omega
      have hfd : fillR t k k = rowsZ t k := by simp [fillR]
      rw [hfd] at Kg
      go_wp2_with fail
      go_returns
      exact ⟨rfl, Kg.out, ⟨xa, xc, Kr1.out, HX.out⟩, HI.out⟩
end Go.Proofs.Ytkakoiaahgchmaa
