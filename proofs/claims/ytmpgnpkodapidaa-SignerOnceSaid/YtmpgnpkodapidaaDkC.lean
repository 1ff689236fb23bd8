/-
  Layer 12: what waits is put on the disk; the power fails; a sector is read.
-/
import Derived.Test.YtmpgnpkodapidaaDkB
import Derived.Deep.MidRow
namespace Go.Proofs.Ytmpgnpkodapidaa
open Go.ChangeShapes Go.WideShapes Go.ChangeAt Go.RowKit

section
variable {P : Program} {ops : Array Oper} {rest : List Oper} {op : Oper} {a : Act} {w : World} {Q : Exit → Act → World → Prop} {t e : TypeId}
/-- An element's address, of elements of s cells. -/
theorem run_indexAt_s (s : Nat) (ht : P.underlying t = some (.slice e)) (hs : (P.info? e).map (·.size) = some s) (b o len cap : Nat) (k : IntKind) (i : Int) (j : Nat) (hi : i = j) (hj : j < len) (w : World) :
    (Instr.indexAt t (.slice (some ⟨b, o, none⟩) len cap) (.int k i)).run P w = .ok (.pointer (some ⟨b, o + j * s, none⟩)) w := by
  subst hi
  obtain ⟨i0, hi0, h32⟩ := Option.map_eq_some_iff.1 hs
  have hlt : (0 : Int) ≤ j ∧ (j : Int) < len := by omega
  unfold Instr.indexAt
  simp [asIntOf, Sem.run_bind, run_underlying ht, hlt, sizeOf, typeInfo, hi0, h32, hj, Addr.add_mid]
theorem wpList_index_s (s : Nat) (hw : Region.wanted op (yielded ops a.tmps) = true) (ty : TypeId) (x ix : Operand) (ho : op.op = .indexAddr ty x ix) (ht : P.underlying ty = some (.slice e)) (hs : (P.info? e).map (·.size) = some s) (b o len cap : Nat) (hx : a.eval x = .slice (some ⟨b, o, none⟩) len cap)
    (k : IntKind) (i : Int) (hix : a.eval ix = .int k i) (j : Nat) (hi : i = j) (hj : j < len) (h : wpList P ops Q rest (a.put op.dst (.pointer (some ⟨b, o + j * s, none⟩))) w) : wpList P ops Q (op :: rest) a w := by
  unfold wpList
  rw [if_pos hw]
  refine .inl ?_
  unfold Oper.wp execOp
  simp only [ho, hx, hix, Sem.run_bind, Sem.run_pure, Result.andThen_ok, run_indexAt_s s ht hs b o len cap k i j hi hj, Oper.upon_value]
  exact h
theorem quiet_index_s (s : Nat) {C : World → Prop} {K : Act → Prop} (ty : TypeId) (x ix : Operand) (ho : op.op = .indexAddr ty x ix) (ht : P.underlying ty = some (.slice e)) (hs : (P.info? e).map (·.size) = some s) (b o len cap : Nat) (hx : a.eval x = .slice (some ⟨b, o, none⟩) len cap)
    (k : IntKind) (i : Int) (hix : a.eval ix = .int k i) (j : Nat) (hi : i = j) (hj : j < len) (h : K (a.put op.dst (.pointer (some ⟨b, o + j * s, none⟩)))) : op.quiet P a C K :=
  ⟨.pointer (some ⟨b, o + j * s, none⟩), fun w' hw' => by
    unfold Oper.quietAt execOp
    simp only [ho, hx, hix, Sem.run_bind, Sem.run_pure, Result.andThen_ok, run_indexAt_s s ht hs b o len cap k i j hi hj]
    simp [Oper.quietUpon], h⟩
end

theorem TextAt.headT {w : World} {a : Option Addr} {len cap : Nat} {t : List Int} (h : TextAt w a len cap t) (m : Nat) (hm : m ≤ len) : TextAt w a m cap (t.take m) := by
  have hc := h.cut 0 m (Nat.zero_le _) hm
  rw [cutA_zero] at hc
  simpa using hc
/-- What is on the disk, once the first of the writes are there. -/
def syncN (z : Nat) (ws : List (Nat × List Int)) (B : List Int) : Nat → List Int
  | 0 => B
  | j + 1 => putS z (ws.getD j (0, [])).1 (ws.getD j (0, [])).2 z (syncN z ws B j)
/-- As many bytes as a list says. -/
def clampZ (z : Nat) (k : Int) : Nat := if k < 0 then 0 else if (z : Int) < k then z else k.toNat
def crashN (z : Nat) (ks : List Int) (ws : List (Nat × List Int)) (B : List Int) : Nat → List Int
  | 0 => B
  | j + 1 => if j < ks.length then putS z (ws.getD j (0, [])).1 (ws.getD j (0, [])).2 (clampZ z (ks.getD j 0)) (crashN z ks ws B j) else crashN z ks ws B j
def readN (z i : Nat) (ws : List (Nat × List Int)) (B : List Int) : Nat → List Int
  | 0 => (B.drop (i * z)).take z
  | j + 1 => if (ws.getD j (0, [])).1 = i then (ws.getD j (0, [])).2 else readN z i ws B j
theorem clampZ_le (z : Nat) (k : Int) : clampZ z k ≤ z := by
  unfold clampZ
  split
  · omega
  · split <;> omega
structure IntsAt (w : World) (S : List Nat) (ka : Option Addr) (ks : List Int) : Prop where
  mem : ks.length = 0 ∨ ∃ x o, ka = some ⟨x, o, none⟩ ∧ x ∉ S ∧ x < w.heap.size ∧ ∀ j, j < ks.length → w.cell? ⟨x, o + j, none⟩ = some (.int .i64 (ks.getD j 0))
theorem IntsAt.butIn {w w' : World} {S : List Nat} {ka : Option Addr} {ks : List Int} (h : IntsAt w S ka ks) (hb : FlowB.ButIn S w w') : IntsAt w' S ka ks := by
  obtain ⟨h2 | ⟨x, o, rfl, hx, hlt, hc⟩⟩ := h
  · exact ⟨.inl h2⟩
  · refine ⟨.inr ⟨x, o, rfl, hx, Nat.lt_of_lt_of_le hlt hb.size, fun j hj => ?_⟩⟩
    rw [← hc j hj]
    unfold World.cell?
    rw [hb.block x hlt hx]
/-- The sector's part of a disk is written. -/
theorem DkAt.put {w : World} {p bb z n : Nat} {B : List Int} {wv : Value} {on set : Bool} {af : Int} {kv : Value} (h : DkAt w p bb z n B wv on set af kv) (i : Nat) (hi : i < n) (t : List Int) (m : Nat) (hm : m ≤ z) (hm2 : m ≤ t.length) (ht : ∀ x ∈ t, 0 ≤ x ∧ x < 256) :
    DkAt (w.setCells bb (i * z) ((t.take m).map (Value.int .u8))) p bb z n (putS z i t m B) wv on set af kv ∧ FlowB.ButIn [p, bb] w (w.setCells bb (i * z) ((t.take m).map (Value.int .u8))) := by
  have hf : i * z + z ≤ B.length := by
    rw [h.len, ← Nat.succ_mul]
    exact Nat.mul_le_mul_right z hi
  have hB := But.setCells ((t.take m).map (Value.int .u8)) (i * z) w (But.of (b := bb) (Below.refl _ _))
  refine ⟨⟨?_, putS_blk h.kb hm2 (by omega), h.ne, ?_, h.z1, h.z2, h.n1, h.n2, putS_small ht h.small⟩, ButIn.of_but hB (by simp)⟩
  · rw [putS_length hm2 (by omega)]
    exact hB.blk h.kp h.ne
  · rw [putS_length hm2 (by omega)]
    exact h.len

set_option maxHeartbeats 4000000 in
set_option maxRecDepth 100000 in
theorem sync_any (w : World) (p bb z n : Nat) (B : List Int) (af : Int) (kv : Value) (wa : Option Addr) (wc : Nat) (ws : List (Nat × List Int)) (hd : DkAt w p bb z n B (.slice wa ws.length wc) true false af kv) (hW : WaitAt w [p, bb] z wa wc ws) (hi : ∀ x ∈ ws, x.1 < n ∧ x.2.length = z) (hlw : ws.length ≤ 1000) :
    Calls Try.prog 17 #[.pointer (some ⟨p, 0, none⟩)] w fun e w' => e = .returned (.int .i64 0) ∧ FlowB.ButIn [p, bb] w w' ∧ DkAt w' p bb z n (syncN z ws B ws.length) (.slice none 0 0) true false af kv := by
  have Kd := hid hd.kp
  have Hb := hid (Below.refl w.heap.size w)
  have HD := hid hd
  have cd0 : w.cell? ⟨p, 0, none⟩ = some (.int .i64 z) := by rw [Kd.out.cell]; rfl
  have cd2 : w.cell? ⟨p, 2, none⟩ = some ((.slice wa ws.length wc)) := by rw [Kd.out.cell]; rfl
  have cd3 : w.cell? ⟨p, 3, none⟩ = some (.bool true) := by rw [Kd.out.cell]; rfl
  go_enter Try.func17, Try.ntmps17
  go_wp2_with fail
  refine (fails_unset _ p bb z n B _ true af kv (HD.out.below Hb.out)).mono ?_
  rintro e w1 ⟨rfl, bw1⟩
  have HBw1 := hid (Below.on Hb.out bw1)
  have hsw1 := HBw1.out.size
  have Kdw1 := hid (Kd.out.below bw1)
  clear bw1
  have cd0w1 : w1.cell? ⟨p, 0, none⟩ = some (.int .i64 z) := by rw [Kdw1.out.cell]; rfl
  have cd2w1 : w1.cell? ⟨p, 2, none⟩ = some (.slice wa ws.length wc) := by rw [Kdw1.out.cell]; rfl
  have cd3w1 : w1.cell? ⟨p, 3, none⟩ = some (.bool true) := by rw [Kdw1.out.cell]; rfl
  go_wp2_with fail
  go_loopw [27] (fun iv wr => ∃ j : Nat, j ≤ ws.length ∧ iv = .int .i64 j ∧ FlowB.ButIn [p, bb] w wr ∧ DkAt wr p bb z n (syncN z ws B j) (.slice wa ws.length wc) true false af kv) (fun iv _ => ws.length - (intOf iv).toNat)
  case atStart => exact ⟨0, Nat.zero_le _, rfl, ButIn.of_below HBw1.out, HD.out.below HBw1.out⟩
  case round =>
    obtain ⟨j, hj, rfl, hbi, hdr⟩ := hrel
    have HIwr := hid hbi
    have HDr := hid hdr
    clear hbi hdr
    by_cases hlt : j < ws.length
    · skip
      have HRr := hid (Below.refl wr.heap.size wr)
      have Kdwr := hid HDr.out.kp
      have Kbwr := hid HDr.out.kb
      have hcI : (j : Int) < ws.length := by omega
      have HWr := hid (hW.butIn HIwr.out)
      have hwj0 := hi (ws.getD j (0, [])) (by rw [List.getD_eq_getElem?_getD, List.getElem?_eq_getElem hlt]; exact List.getElem_mem _)
      obtain ⟨hwle, hw0 | ⟨x, o, rfl, hx, hxl, hcell⟩⟩ := HWr.out
      · omega
      obtain ⟨hc0, ta, tc, hc1, hto⟩ := hcell j hlt
      obtain ⟨qi, qt, hX⟩ : ∃ qi qt, ws.getD j (0, []) = (qi, qt) := ⟨_, _, rfl⟩
      have Hnx := hid (show syncN z ws B (j + 1) = putS z qi qt z (syncN z ws B j) by rw [syncN, hX])
      have hwj : qi < n ∧ qt.length = z := by rw [hX] at hwj0; exact hwj0
      rw [hX] at hc0 hto
      have HTO := hid (show TextO wr [p, bb] ta z tc qt from hto)
      have hRg : Hid (wr.rangeAt x (o + j * 2) [.int .i64 (qi : Int), .slice ta z tc]) := hid (fun k v hv => by
        match k, hv with
        | 0, hv => rw [Nat.add_zero, hc0]; exact hv
        | 1, hv => rw [hc1]; exact hv)
      clear hcell hto hc0 hc1 hX hwj0
      have Kvw1 := hid (Blk.new (w := wr) rfl #[.int .i64 (qi : Int), .slice ta z tc] 85)
      have HBw1 := hid (HRr.out.alloc HRr.out.size (.cells #[.int .i64 (qi : Int), .slice ta z tc] 85 (0, 0)))
      have hsw1 := HBw1.out.size
      have hfw1 : wr.heap.size ≤ wr.heap.size := HRr.out.size
      go_wp2_with (first
         | (refine wpList_index_s 2 rfl 73 _ _ rfl Try.underlying73 size_write x o ws.length wc rfl _ _ rfl j rfl hlt ?_)
         | (refine wpList_load_mid rfl 85 _ rfl x (o + j * 2) rfl _ _ hRg.out Try.underlying85 rfl size_write ?_))
      refine wp_region_flow 6 (List.range 6) [] [] (by kernel_rfl) (by kernel_rfl) ?_
      apply Exists.intro
      refine ⟨fun w0 hb0 hF0 => ?_, ?_⟩
      · skip
        have y0 : ∀ w', (∃ x : Ext w0, w' = x.at_) → w'.cell? ⟨wr.heap.size, 0, none⟩ = some (.int .i64 (qi : Int)) := fun w' ⟨x, hx⟩ => by rw [hx, ((Kvw1.out.below hb0).below x.same).cell]; rfl
        have y1 : ∀ w', (∃ x : Ext w0, w' = x.at_) → w'.cell? ⟨wr.heap.size, 1, none⟩ = some (.slice ta z tc) := fun w' ⟨x, hx⟩ => by rw [hx, ((Kvw1.out.below hb0).below x.same).cell]; rfl
        have c0 := fun e : Ext w0 => sector_any e.at_ p bb z n _ _ true false af kv (HDr.out.below (Below.on (Below.on HBw1.out hb0) e.same)) qi hwj.1
        simp only [pick, List.range, List.range.loop, List.getElem?_toArray, List.getElem?_cons_succ, List.getElem?_cons_zero, Option.toList_some, List.cons_append, List.nil_append]
        repeat (first | (go_big_quiet_want; refine quiet_load_one 3 _ rfl ⟨wr.heap.size, 0, none⟩ rfl _ y0 _ Try.underlying3 rfl ?_; go_big_quiet_on; simp only [Act.put, List.setIfInBounds_toArray, List.set_cons_zero, List.set_cons_succ]) | (go_big_quiet_want; refine quiet_load_one 31 _ rfl ⟨wr.heap.size, 1, none⟩ rfl _ y1 _ Try.underlying31 rfl ?_; go_big_quiet_on; simp only [Act.put, List.setIfInBounds_toArray, List.set_cons_zero, List.set_cons_succ]) | go_big_quiet_step (first | (go_at_call 45; with_reducible exact Calls.ext (c0 _))))
        exact wpQuiet_nil rfl
      refine AlChk.nil ?_
      refine Walk.fin fun w2 hw2 _ _ => ?_
      simp only [List.drop_succ_cons, List.drop_zero]
      have HBw2 := hid (Below.on HBw1.out hw2)
      have hsw2 := HBw2.out.size
      have Kvw2 := hid (Kvw1.out.below hw2)
      clear hw2
      have hDz := HDr.out.below HBw2.out
      have hTz := HTO.out.text.below HBw2.out
      have hml : qi * z + z ≤ (syncN z ws B j).length := by
        rw [hDz.len, ← Nat.succ_mul]
        exact Nat.mul_le_mul_right z hwj.1
      obtain ⟨hP, hQ⟩ := hDz.put qi hwj.1 qt z (Nat.le_refl _) (by rw [hTz.length]; exact Nat.le_refl _) hTz.small
      rw [List.map_take] at hP hQ
      have Hn0 := hid (show z = Nat.min z z from (Nat.min_self z).symm)
      have Hfit := hid (show qi * z + z ≤ ((syncN z ws B j).map (Value.int .u8)).toArray.size by rw [List.size_toArray, List.length_map]; exact hml)
      have HP := hid hP
      have HQ := hid (ButIn.on (ButIn.of_below (S := [p, bb]) HBw2.out) hQ)
      have HDz := hid hDz
      have HTz := hid hTz
      clear hDz hTz hP hQ
      go_wp2_with (with_reducible refine wpList_copy_text rfl _ _ _ _ rfl 5 Try.underlying31 size_u8 bb (qi * z) z ((syncN z ws B j).length - qi * z) rfl _ z _ rfl _ 5 HDz.out.kb _ HTz.out Hfit.out z Hn0.out ?_)
      exact ⟨⟨j + 1, by omega, by first | rfl | simp, ButIn.on HIwr.out HQ.out, by rw [Hnx.out]; exact HP.out⟩, by simp [intOf]; omega⟩
    · skip
      have hjn : j = ws.length := by omega
      subst hjn
      have hcI : ¬ ((ws.length : Int) < ws.length) := by omega
      go_wp2_with (
            refine wpList_store_cell rfl 73 _ _ rfl p 2 (.slice none 0 0) rfl rfl rfl rfl _ 75 HDr.out.kp (by simp [dkC]) size_waits ?_
            intro w9 hb9 hk9
            have Hb9 := hid hb9
            have Kd9 := hid (show Blk w9 p (dkC z (syncN z ws B ws.length).length bb (.slice none 0 0) true false af kv) 75 from hk9)
            clear hb9 hk9)
      go_returns
      exact ⟨by first | rfl | simp, ButIn.on HIwr.out (ButIn.of_but Hb9.out (by simp)), Kd9.out, Hb9.out.blk HDr.out.kb (Ne.symm HDr.out.ne), HDr.out.ne, HDr.out.len, HDr.out.z1, HDr.out.z2, HDr.out.n1, HDr.out.n2, HDr.out.small⟩
end Go.Proofs.Ytmpgnpkodapidaa
