/-
  Contract of (*sha.Hash).finish: the sum of what was written.
-/
import Derived.Test.YthaicocfbmpnmaaDoorLMShaP
namespace Go.Proofs.YthaicocfbmpnmaaDoor
open Go.ChangeShapes Go.WideShapes Go.ChangeAt Go.RowKit

set_option maxRecDepth 100000 in
theorem wpList_clear_hash {P : Program} {ops : Array Oper} {rest : List Oper} {op : Oper} {act : Act} {w : World} {Q : Exit → Act → World → Prop} (hgd : op.guard = none) (s : Operand) (t : TypeId)
    (ho : op.op = .call { callee := .builtin .clear, args := #[s], argTypes := #[t] }) (e : TypeId) (ht : P.underlying t = some (.slice e)) (hv : ∀ w, (zeroValue e).run P w = .ok (.int .u8 0) w)
    (ph o n c : Nat) (d : Option Addr) (hse : act.eval s = .slice d n c) (hd : 0 < n → d = some ⟨ph, 8 + o, none⟩) (st : Sha.St) (R : List Int) (N : Nat) (T : TypeId) (hk : Blk w ph (hashCells st R N).toArray T) (hR : R.length = 64) (hfit : o + n ≤ 64)
    (h : ∀ w', Hid (But ph w w') → Hid (Blk w' ph (hashCells st (splice R o (List.replicate n 0)) N).toArray T) → wpList P ops Q rest (act.put op.dst (.tuple #[])) w') : wpList P ops Q (op :: rest) act w := by
  have hs := hashCells_size st R N hR
  refine wpList_clear_blk hgd s t ho e ht hv ph (8 + o) n c d hse hd _ T hk (by omega) (h _ (But.setCells _ _ _ (But.of (Below.refl _ _))) ?_)
  have := hk.hash_put hR o (List.replicate n 0) (by simpa using hfit)
  rwa [List.map_replicate] at this

set_option maxRecDepth 100000 in
theorem splice_one (A B : List Int) (x y : Int) : splice (A ++ x :: B) A.length [y] = A ++ y :: B := by
  unfold splice
  rw [List.take_left, List.length_singleton, List.singleton_append, ← List.drop_drop, List.drop_left]
  rfl

set_option maxRecDepth 100000 in
theorem put_byte (R : List Int) (hR : R.length = 64) (N j : Nat) (hj : j < 8) (v : Int) (hv : v = ((N / 256 ^ j % 256 : Nat) : Int)) : splice (R.take (64 - j) ++ toZ (Sha.nbe j N)) (63 - j) [v] = R.take (63 - j) ++ toZ (Sha.nbe (j + 1) N) := by
  have h1 : R.take (64 - j) = R.take (63 - j) ++ [R.getD (63 - j) 0] := by
    rw [show 64 - j = 63 - j + 1 by omega, List.take_succ_eq_append_getElem (by omega), List.getD_eq_getElem?_getD, List.getElem?_eq_getElem (by omega)]
    rfl
  have h2 : (R.take (63 - j)).length = 63 - j := by rw [List.length_take]; omega
  have := splice_one (R.take (63 - j)) (toZ (Sha.nbe j N)) (R.getD (63 - j) 0) v
  rw [h2] at this
  rw [h1, List.append_assoc, List.singleton_append, this, nbe_succ, hv]
  rfl

set_option maxRecDepth 100000 in
theorem size_digest : (Tryd.prog.info? 23).map (·.size) = some 32 := by kernel_rfl
set_option maxRecDepth 100000 in
theorem flat_len : ∀ l : List Nat, (l.flatMap (Sha.nbe 4)).length = 4 * l.length
  | [] => rfl
  | a :: l => by rw [List.flatMap_cons, List.length_append, flat_len l, nbe_length, List.length_cons]; omega
set_option maxRecDepth 100000 in
theorem words_lt {s : Sha.St} (h : Ok s) (i : Nat) : (words s).getD i 0 < 4294967296 := by
  obtain ⟨a, b, c, d, e, f, g, hh⟩ := h
  unfold words
  match i with
  | 0 => exact a
  | 1 => exact b
  | 2 => exact c
  | 3 => exact d
  | 4 => exact e
  | 5 => exact f
  | 6 => exact g
  | 7 => exact hh
  | n + 8 => simp
set_option maxRecDepth 100000 in
theorem byteCells_zero (n : Nat) (bs : List Int) (j : Nat) (h0 : bs.length ≤ j) (h : j < n) : (byteCells n bs)[j]? = some (.int .u8 0) := by
  unfold byteCells
  rw [List.getElem?_toArray, List.getElem?_append_right (by simpa using h0), List.getElem?_replicate, if_pos (by simp; omega)]

set_option maxRecDepth 100000 in
theorem put_four {w : World} {b i : Nat} {T : TypeId} {L : List Int} (h : Blk w b (byteCells 32 L) T) (hl : L.length = 4 * i) (hi : i < 8) (X : Nat) (hX : X < 4294967296) :
    Blk ((((w.setCell ⟨b, 4 * i, none⟩ (.int .u8 ((X : Int) / 16777216))).setCell ⟨b, 4 * i + 1, none⟩ (.int .u8 ((X : Int) / 65536 % 256))).setCell ⟨b, 4 * i + 2, none⟩ (.int .u8 ((X : Int) / 256 % 256))).setCell ⟨b, 4 * i + 3, none⟩ (.int .u8 ((X : Int) % 256))) b (byteCells 32 (L ++ toZ (Sha.nbe 4 X))) T := by
  have h0 := h.set (4 * i) (.int .u8 ((X : Int) / 16777216))
  rw [← hl, byteCells_set 32 L _ (by omega)] at h0
  have h1 := h0.set (4 * i + 1) (.int .u8 ((X : Int) / 65536 % 256))
  rw [show 4 * i + 1 = (L ++ [(X : Int) / 16777216]).length by simp [hl], byteCells_set 32 _ _ (by simp; omega)] at h1
  have h2 := h1.set (4 * i + 2) (.int .u8 ((X : Int) / 256 % 256))
  rw [show 4 * i + 2 = (L ++ [(X : Int) / 16777216] ++ [(X : Int) / 65536 % 256]).length by simp [hl], byteCells_set 32 _ _ (by simp; omega)] at h2
  have h3 := h2.set (4 * i + 3) (.int .u8 ((X : Int) % 256))
  rw [show 4 * i + 3 = (L ++ [(X : Int) / 16777216] ++ [(X : Int) / 65536 % 256] ++ [(X : Int) / 256 % 256]).length by simp [hl], byteCells_set 32 _ _ (by simp; omega)] at h3
  have e : L ++ toZ (Sha.nbe 4 X) = L ++ [(X : Int) / 16777216] ++ [(X : Int) / 65536 % 256] ++ [(X : Int) / 256 % 256] ++ [(X : Int) % 256] := by
    simp only [Sha.nbe, toZ, List.nil_append, List.cons_append, List.map_cons, List.map_nil, List.append_assoc]
    have e0 : (((X / 256 / 256 / 256 % 256 : Nat)) : Int) = (X : Int) / 16777216 := by omega
    have e1 : (((X / 256 / 256 % 256 : Nat)) : Int) = (X : Int) / 65536 % 256 := by omega
    have e2 : (((X / 256 % 256 : Nat)) : Int) = (X : Int) / 256 % 256 := by omega
    have e3 : (((X % 256 : Nat)) : Int) = (X : Int) % 256 := by omega
    rw [e0, e1, e2, e3]
  rw [e]
  simp only [List.length_append, List.length_cons, List.length_nil, hl] at h3
  exact h3

set_option maxRecDepth 100000 in
theorem But.fresh {b c : Nat} {w w' w'' : World} (h : But b w w') (h2 : But c w' w'') (hc : w.heap.size ≤ c) : But b w w'' :=
  ⟨h2.os.trans h.os, h2.tape.trans h.tape, h2.output.trans h.output, Nat.le_trans h.size h2.size, fun k hk hne => (h2.block k (Nat.lt_of_lt_of_le hk h.size) (by omega)).trans (h.block k hk hne)⟩

/-- the hash while it is finished -/
structure FinW (ph : Nat) (T : TypeId) (w : World) (st : Sha.St) (R : List Int) (N : Nat) (wr : World) : Prop where
  hash : Blk wr ph (hashCells st R N).toArray T
  res : Blk wr w.heap.size (byteCells 32 []) 23
  tab : ShaTab wr
  but : But ph w wr
set_option maxRecDepth 100000 in
theorem FinW.next {ph : Nat} {T : TypeId} {w : World} {st st' : Sha.St} {R R' : List Int} {N : Nat} {wr wr' : World} (h : FinW ph T w st R N wr) (hb : But ph wr wr') (hk : Blk wr' ph (hashCells st' R' N).toArray T) (hne : ph < w.heap.size) (hp1 : ph ≠ 1) (hp0 : ph ≠ 0) : FinW ph T w st' R' N wr' :=
  ⟨hk, hb.blk h.res (by omega), h.tab.but hb hp1 hp0, h.but.trans hb⟩
set_option maxRecDepth 100000 in
theorem FinW.below {ph : Nat} {T : TypeId} {w : World} {st : Sha.St} {R : List Int} {N : Nat} {wr wr' : World} (h : FinW ph T w st R N wr) (hb : Below wr.heap.size wr wr') : FinW ph T w st R N wr' :=
  ⟨h.hash.below hb, h.res.below hb, h.tab.below hb, h.but.ext hb⟩

set_option maxHeartbeats 8000000 in
set_option maxRecDepth 100000 in
theorem finish_any (ph : Nat) (T : TypeId) (bs : List Int) (w : World) (hH : HashAt w ph T bs) (hbnd : bs.length < 1152921504606846976) (tab : ShaTab w) (hp1 : ph ≠ 1) (hp0 : ph ≠ 0) :
    Calls Tryd.prog 75 #[.pointer (some ⟨ph, 0, none⟩)] w fun e w' => e = .returned (.agg ((sumZ bs).map (Value.int .u8)).toArray) ∧ But ph w w' := by
  obtain ⟨hbs, R, hR, hRs, hRt, hk⟩ := hH
  have hlt := hk.lt
  obtain ⟨m, hm⟩ : ∃ m : Nat, (bs.length : Int) % 64 = m := ⟨bs.length % 64, by omega⟩
  have hm64 : m < 64 := by omega
  have qS : w.cell? ⟨ph, 72, none⟩ = some (.int .u64 (bs.length : Nat)) := (hk.cell 72).trans (hashCells_len _ _ _ hR)
  have qm : w.cell? ⟨ph, 8 + m, none⟩ = some (.int .u8 (R.getD m 0)) := (hk.cell (8 + m)).trans (hashCells_rest _ _ _ _ hR hm64)
  have f1 := hk.free
  have HF1 : Hid (FinW ph T w (Sha.run Sha.start (natB bs) (bs.length / 64)) (splice R m [128]) bs.length ((w.setCell ⟨ph, 8 + m, none⟩ (.int .u8 128)).alloc (.cells #[.int .u8 0, .int .u8 0, .int .u8 0, .int .u8 0, .int .u8 0, .int .u8 0, .int .u8 0, .int .u8 0, .int .u8 0, .int .u8 0, .int .u8 0, .int .u8 0, .int .u8 0, .int .u8 0, .int .u8 0, .int .u8 0, .int .u8 0, .int .u8 0, .int .u8 0, .int .u8 0, .int .u8 0, .int .u8 0, .int .u8 0, .int .u8 0, .int .u8 0, .int .u8 0, .int .u8 0, .int .u8 0, .int .u8 0, .int .u8 0, .int .u8 0, .int .u8 0] 23))) := hid (by
    have hw := hk.hash_put hR m [128] (by simp; omega)
    have but1 := (But.of (b := ph) (Below.refl w.heap.size w)).set (p := ⟨ph, 8 + m, none⟩) (.inl rfl) (.int .u8 128)
    refine ⟨Blk.old hw _, Blk.new ?_ (byteCells 32 []) _, (tab.but but1 hp1 hp0).below ((Below.refl _ _).alloc (Nat.le_refl _) _), but1.ext ((Below.refl _ _).alloc (Nat.le_refl _) _)⟩
    simp [World.setCell])
  have HRt := hid hRt
  have Hbl : Hid (bs.length = 64 * (bs.length / 64) + m) := hid (by omega)
  obtain ⟨d, hd, hsl⟩ : ∃ d : Option Addr, (0 < 63 - m → d = some ⟨ph, 8 + (m + 1), none⟩) ∧ ∀ W : World, (Instr.sliceAt 107 (.pointer (some ⟨ph, 8, none⟩)) (some (.int .i64 ((m : Int) + 1))) none none).run Tryd.prog W = .ok (.slice d (63 - m) (63 - m)) W := by
    refine ⟨some (if 64 = m + 1 then ⟨ph, 8, none⟩ else ⟨ph, 8 + (m + 1), none⟩), fun h => by rw [if_neg (by omega)], fun W => ?_⟩
    have hal : Tryd.prog.arrayLen 107 = 64 := by kernel_rfl
    rw [run_sliceAt_array_l W 107 ⟨ph, 8, none⟩ (by kernel_rfl) .i64 ((m : Int) + 1) (by omega) (by rw [hal]; omega), hal]
    have hsi : (sizeOf (Tryd.prog.elem 107)).run Tryd.prog W = .ok 1 W := by kernel_rfl
    rw [hsi, Result.andThen_ok]
    unfold slicedAt
    rw [show ((m : Int) + 1).toNat = m + 1 by omega, Nat.mul_one, Addr.add_mid, show 64 - (m + 1) = 63 - m by omega]
  have Hd := hid hd
  have hsa : ∀ W : World, (Instr.sliceAt 107 (.pointer (some ⟨ph, 8, none⟩)) none none none).run Tryd.prog W = .ok (.slice (some ⟨ph, 8, none⟩) 64 64) W := fun W => by
    have hal : Tryd.prog.arrayLen 107 = 64 := by kernel_rfl
    rw [run_sliceAt_array_all W 107 ⟨ph, 8, none⟩ (by kernel_rfl), hal]
    have hsi : (sizeOf (Tryd.prog.elem 107)).run Tryd.prog W = .ok 1 W := by kernel_rfl
    rw [hsi, Result.andThen_ok]
    rfl
  have hz : ∀ W, (zeroValue 5).run Tryd.prog W = .ok (.int .u8 0) W := fun W => by kernel_rfl
  have Hz : Hid (∀ W, (zeroValue 5).run Tryd.prog W = .ok (.int .u8 0) W) := hid hz
  have hR1 : (splice R m [128]).length = 64 := by rw [length_splice _ _ _ (by simp; omega)]; exact hR
  obtain ⟨R2, hR2d⟩ : ∃ R2, R2 = splice (splice R m [128]) (m + 1) (List.replicate (63 - m) 0) := ⟨_, rfl⟩
  have hR2e : R2 = bs.drop (64 * (bs.length / 64)) ++ 128 :: List.replicate (63 - m) 0 := by
    have h2 : (R.take m).length = m := by rw [List.length_take]; omega
    have h1 : splice R m [128] = R.take m ++ 128 :: R.drop (m + 1) := by simp [splice]
    have h3 : (R.take m ++ [(128 : Int)]).length = m + 1 := by simp [h2]
    have h4 : splice R m [128] = (R.take m ++ [128]) ++ R.drop (m + 1) := by rw [h1]; simp
    rw [hR2d, h4, ← hRt, show bs.length % 64 = m by omega]
    unfold splice
    rw [← h3, List.take_left, ← List.drop_drop, List.drop_left, List.drop_drop, h3, List.drop_eq_nil_of_le (by simp; omega)]
    simp
  have hR2 : R2.length = 64 := by rw [hR2d, length_splice _ _ _ (by simp; omega)]; exact hR1
  have hR2s : ∀ x ∈ R2, 0 ≤ x ∧ x < 256 := by
    rw [hR2d]
    refine splice_small (splice_small hRs ?_) ?_
    · intro x hx; simp at hx; omega
    · intro x hx; have := List.eq_of_mem_replicate hx; omega
  have HR2e := hid hR2e
  clear hk tab hRt hd hz hR2e
  have hR2d' := hid hR2d
  clear hR2d
  by_cases hm55 : m ≤ 55
  · go_enter Tryd.func75, Tryd.ntmps75
    go_wp2_with (with_reducible refine wpList_clear_hash rfl _ 67 rfl 5 Tryd.underlying67 Hz.out ph (m + 1) (63 - m) (63 - m) d rfl Hd.out _ _ _ T HF1.out.hash hR1 (by omega) ?_; intro w2 HB2 HK2)
    rw [← hR2d'.out] at HK2
    have HF3 : Hid (FinW ph T w (Sha.run Sha.start (natB bs) (bs.length / 64)) R2 bs.length w2) := hid (HF1.out.next HB2.out HK2.out hlt hp1 hp0)
    have Hsum : Hid (sumZ bs = toZ (Sha.out (Sha.compress (Sha.run Sha.start (natB bs) (bs.length / 64)) (natB (R2.take 56 ++ toZ (Sha.nbe 8 (8 * bs.length))))))) := hid (by
      have hnl : (natB bs).length = bs.length := by simp [natB]
      have hb := Hbl.out
      unfold sumZ
      rw [sum_short (natB bs) (bs.length / 64) m (by rw [hnl]; exact hb) hm55, hnl]
      congr 3
      have e1 : R2.take 56 = bs.drop (64 * (bs.length / 64)) ++ 128 :: List.replicate (55 - m) 0 := by
        have hd : (bs.drop (64 * (bs.length / 64))).length = m := by rw [List.length_drop]; omega
        rw [HR2e.out, List.take_append, List.take_of_length_le (by omega), hd, show 56 - m = (55 - m) + 1 by omega, List.take_succ_cons, List.take_replicate, Nat.min_eq_left (by omega)]
      have e2 : natB (toZ (Sha.nbe 8 (8 * bs.length))) = Sha.nbe 8 (8 * bs.length) := natB_toZ _
      unfold natB at *
      rw [List.map_append, e2, e1, List.map_append, List.map_drop, List.map_cons, List.map_replicate]
      simp)
    clear HB2 HK2 HF1 HR2e
    go_loopw [46] (fun v wr => ∃ j : Nat, j ≤ 8 ∧ v = .int .i64 j ∧ FinW ph T w (Sha.run Sha.start (natB bs) (bs.length / 64)) (R2.take (64 - j) ++ toZ (Sha.nbe j (8 * bs.length))) bs.length wr) (fun v _ => 8 - (intOf v).toNat)
    case atStart =>
      refine ⟨0, by omega, rfl, ?_⟩
      rw [List.take_of_length_le (show R2.length ≤ 64 - 0 by omega), show toZ (Sha.nbe 0 (8 * bs.length)) = [] from rfl, List.append_nil]
      exact HF3.out
    case round =>
      obtain ⟨j, hj, rfl, hF⟩ := hrel
      by_cases hlt8 : j < 8
      · have hRj : (R2.take (64 - j) ++ toZ (Sha.nbe j (8 * bs.length))).length = 64 := by
          rw [List.length_append, List.length_take, toZ, List.length_map, nbe_length]; omega
        have q := (hF.hash.cell (8 + (63 - j))).trans (hashCells_rest _ _ _ (63 - j) hRj (by omega))
        have f1 := hF.hash.free
        have hlt2 := hF.hash.lt
        have HF := hid hF
        have e1 : ((63 : Int) - (j : Int)).toNat = 63 - j := by omega
        have e2 : ((8 : Int) * (j : Int)).toNat = 8 * j := by omega
        generalize (R2.take (64 - j) ++ toZ (Sha.nbe j (8 * bs.length))).getD (63 - j) 0 = old at q
        clear hF
        go_wp2_with fail
        refine wp_region_flow 11 [0, 1, 2, 3, 4, 5, 6, 7, 8, 9, 10] [] [] (by kernel_rfl) (by kernel_rfl) ?_
        apply Exists.intro
        refine ⟨fun w0 hb0 hF0 => ?_, ?_⟩
        · simp only [pick, List.getElem?_toArray, List.getElem?_cons_succ, List.getElem?_cons_zero, Option.toList_some, List.cons_append, List.nil_append]
          repeat (go_big_quiet_step (fail))
          exact wpQuiet_nil rfl
        refine AlChk.nil ?_
        refine Walk.fin fun w3 h3 _ _ => ?_
        simp only [List.drop_succ_cons, List.drop_zero]
        have HF3' := hid (HF.out.below h3)
        have q3 := (h3.cell (p := ⟨ph, 8 + (63 - j), none⟩) hlt2).trans q
        have f3 := HF3'.out.hash.free
        clear q f1 h3 HF
        go_wp2_with fail
        have hv : ((bs.length : Int) * 8 / 2 ^ (8 * j) % 256) = ((8 * bs.length / 256 ^ j % 256 : Nat) : Int) := by
          have hp : (2 : Int) ^ (8 * j) = ((256 ^ j : Nat) : Int) := by
            rw [show 256 ^ j = 2 ^ (8 * j) by rw [Nat.pow_mul], Int.natCast_pow]
            rfl
          rw [hp, Int.natCast_emod, Int.natCast_ediv, Int.natCast_mul, Int.mul_comm]
          rfl
        refine ⟨⟨j + 1, by omega, by go_num, HF3'.out.next ((But.of (Below.refl _ _)).set (p := ⟨ph, 8 + (63 - j), none⟩) (.inl rfl) _) ?_ hlt hp1 hp0⟩, by simp [intOf]; omega⟩
        have hk9 := HF3'.out.hash.hash_put hRj (63 - j) [((bs.length : Int) * 8 / 2 ^ (8 * j) % 256)] (by rw [List.length_singleton]; omega)
        rw [put_byte R2 hR2 _ j hlt8 _ hv] at hk9
        rw [show 64 - (j + 1) = 63 - j by omega]
        exact hk9
      · have h8 : j = 8 := by omega
        have hF8 : FinW ph T w (Sha.run Sha.start (natB bs) (bs.length / 64)) (R2.take 56 ++ toZ (Sha.nbe 8 (8 * bs.length))) bs.length wr := by
          rw [h8] at hF; exact hF
        have HF8 := hid hF8
        have hR8 : (R2.take 56 ++ toZ (Sha.nbe 8 (8 * bs.length))).length = 64 := by
          rw [List.length_append, List.length_take, toZ, List.length_map, nbe_length]; omega
        have hR8s : ∀ x ∈ R2.take 56 ++ toZ (Sha.nbe 8 (8 * bs.length)), 0 ≤ x ∧ x < 256 := fun x hx => by
          rcases List.mem_append.1 hx with h | h
          · exact hR2s x (List.mem_of_mem_take h)
          · exact toZ_small (nbe_lt _ _) x h
        generalize hR9 : R2.take 56 ++ toZ (Sha.nbe 8 (8 * bs.length)) = R9 at *
        have H8 := hid h8
        clear hF hF8 h8
        go_wp2_with fail
        refine wp_region_flow 7 [0, 1, 2, 3, 4, 5, 6] [] [] (by kernel_rfl) (by kernel_rfl) ?_
        apply Exists.intro
        refine ⟨fun w0 hb0 hF0 => ?_, ?_⟩
        · simp only [pick, List.getElem?_toArray, List.getElem?_cons_succ, List.getElem?_cons_zero, Option.toList_some, List.cons_append, List.nil_append]
          repeat (go_big_quiet_step (fail))
          exact wpQuiet_nil rfl
        refine AlChk.nil ?_
        refine Walk.fin fun w3 h3 _ _ => ?_
        simp only [List.drop_succ_cons, List.drop_zero]
        have HF9 := HF8.out.below h3
        have hk4 := HF9.hash
        go_wp2_with fail
        refine (process_any ph T _ (R9.map (Value.int .u8) ++ [.int .u64 (bs.length : Nat)]) (some ⟨ph, 8, none⟩) 64 R9 w3 (Ok.run Ok.start _ _) hk4 (hk4.hash_rest hR8 hR8s) HF9.tab hp1).mono ?_
        rintro e w4 ⟨rfl, b4, k4⟩
        have hFA := HF9.next b4 (st' := Sha.compress (Sha.run Sha.start (natB bs) (bs.length / 64)) (natB R9)) (R' := R9) k4 hlt hp1 hp0
        have okA : Ok (Sha.compress (Sha.run Sha.start (natB bs) (bs.length / 64)) (natB R9)) := Ok.compress _ _
        generalize Sha.compress (Sha.run Sha.start (natB bs) (bs.length / 64)) (natB R9) = sf at *
        have HFA := hid hFA
        have g0 : w4.cell? ⟨ph, 0, none⟩ = some (.int .u32 sf.a) := (hFA.hash.cell 0).trans rfl
        have g1 : w4.cell? ⟨ph, 1, none⟩ = some (.int .u32 sf.b) := (hFA.hash.cell 1).trans rfl
        have g2 : w4.cell? ⟨ph, 2, none⟩ = some (.int .u32 sf.c) := (hFA.hash.cell 2).trans rfl
        have g3 : w4.cell? ⟨ph, 3, none⟩ = some (.int .u32 sf.d) := (hFA.hash.cell 3).trans rfl
        have g4 : w4.cell? ⟨ph, 4, none⟩ = some (.int .u32 sf.e) := (hFA.hash.cell 4).trans rfl
        have g5 : w4.cell? ⟨ph, 5, none⟩ = some (.int .u32 sf.f) := (hFA.hash.cell 5).trans rfl
        have g6 : w4.cell? ⟨ph, 6, none⟩ = some (.int .u32 sf.g) := (hFA.hash.cell 6).trans rfl
        have g7 : w4.cell? ⟨ph, 7, none⟩ = some (.int .u32 sf.h) := (hFA.hash.cell 7).trans rfl
        have hlt4 := hFA.hash.lt
        have hres4 := hFA.res.lt
        have kd := Blk.new (w := w4) rfl (byteCells 32 []) 23
        have Hkd := hid kd
        clear hk4 HF9 b4 k4 h3 hFA kd
        go_wp2_with fail
        clear g0 g1 g2 g3 g4 g5 g6 g7
        go_loopw [73] (fun v wq => ∃ i : Nat, i ≤ 8 ∧ v = .int .i64 i ∧ Blk wq w4.heap.size (byteCells 32 (toZ (((words sf).take i).flatMap (Sha.nbe 4)))) 23 ∧ Below w4.heap.size w4 wq) (fun v _ => 8 - (intOf v).toNat)
        case atStart => exact ⟨0, by omega, rfl, Hkd.out, (Below.refl _ _).alloc (Nat.le_refl _) _⟩
        case round =>
          obtain ⟨i, hi, rfl, kr, br⟩ := hrel
          by_cases hlti : i < 8
          · have hix : ∀ W, (Instr.index 106 (.agg #[.int .u32 sf.a, .int .u32 sf.b, .int .u32 sf.c, .int .u32 sf.d, .int .u32 sf.e, .int .u32 sf.f, .int .u32 sf.g, .int .u32 sf.h]) (.int .i64 i)).run Tryd.prog W = .ok (.int .u32 ((toZ (words sf)).getD i 0)) W := fun W => run_index_ints (P := Tryd.prog) (e := 105) (n := 8) (by kernel_rfl) (by kernel_rfl) rfl rfl (toZ (words sf)) rfl i hlti W
            have hx : (toZ (words sf)).getD i 0 = (((words sf).getD i 0 : Nat) : Int) := by
              have : i < (words sf).length := hlti
              simp [toZ, this]
            have hxl : (words sf).getD i 0 < 4294967296 := words_lt okA i
            rw [hx] at hix
            have hts : (words sf).take (i + 1) = (words sf).take i ++ [(words sf).getD i 0] := by
              have : i < (words sf).length := hlti
              rw [List.take_succ_eq_append_getElem this]
              simp [this]
            have Hts := hid hts
            clear hx hts
            generalize (words sf).getD i 0 = X at *
            have hbl : (toZ (((words sf).take i).flatMap (Sha.nbe 4))).length = 4 * i := by
              rw [toZ, List.length_map, flat_len, List.length_take, Nat.min_eq_left (show i ≤ (words sf).length from Nat.le_of_lt hlti)]
            generalize hLd : toZ (((words sf).take i).flatMap (Sha.nbe 4)) = L at *
            have HL := hid hLd
            clear hLd
            have z0 : wr.cell? ⟨w4.heap.size, 4 * i, none⟩ = some (.int .u8 0) := by rw [kr.cell]; exact byteCells_zero _ _ _ (by omega) (by omega)
            have z1 : wr.cell? ⟨w4.heap.size, 4 * i + 1, none⟩ = some (.int .u8 0) := by rw [kr.cell]; exact byteCells_zero _ _ _ (by omega) (by omega)
            have z2 : wr.cell? ⟨w4.heap.size, 4 * i + 2, none⟩ = some (.int .u8 0) := by rw [kr.cell]; exact byteCells_zero _ _ _ (by omega) (by omega)
            have z3 : wr.cell? ⟨w4.heap.size, 4 * i + 3, none⟩ = some (.int .u8 0) := by rw [kr.cell]; exact byteCells_zero _ _ _ (by omega) (by omega)
            have o0 : ((4 : Int) * (i : Int)).toNat = 4 * i := by omega
            have o1 : ((4 : Int) * (i : Int) + 1).toNat = 4 * i + 1 := by omega
            have o2 : ((4 : Int) * (i : Int) + 2).toNat = 4 * i + 2 := by omega
            have o3 : ((4 : Int) * (i : Int) + 3).toNat = 4 * i + 3 := by omega
            have fq := kr.free
            have Hkr := hid kr
            have Hbr := hid br
            clear kr br
            go_wp2_with fail
            refine ⟨⟨i + 1, by omega, by go_num, ?_, ?_⟩, by simp [intOf]; omega⟩
            · have := put_four Hkr.out hbl hlti X hxl
              rw [Hts.out, List.flatMap_append, toZ, List.map_append, List.flatMap_singleton]
              rw [← HL.out] at this
              exact this
            · have hB : w4.heap.size ≤ w4.heap.size := Nat.le_refl _
              exact (((Hbr.out.setCell (p := ⟨w4.heap.size, 4 * i, none⟩) hB _).setCell (p := ⟨w4.heap.size, 4 * i + 1, none⟩) hB _).setCell (p := ⟨w4.heap.size, 4 * i + 2, none⟩) hB _).setCell (p := ⟨w4.heap.size, 4 * i + 3, none⟩) hB _
          · have h8i : i = 8 := by omega
            have kfull : Blk wr w4.heap.size ((sumZ bs).map (Value.int .u8)).toArray 23 := by
              have e : toZ (((words sf).take i).flatMap (Sha.nbe 4)) = sumZ bs := by
                rw [Hsum.out, h8i, List.take_of_length_le (by simp [words]), out_words]
              rw [e, byteCells_full 32 _ (sumZ_length bs)] at kr
              exact kr
            have kres := HFA.out.res.below br
            have hfb := HFA.out.but.ext br
            have Hsz : Hid (((sumZ bs).map (Value.int .u8)).toArray.size = 32) := hid (by simp [sumZ_length])
            have Hzb : Hid ((byteCells 32 []).size = 32) := hid (byteCells_size 32 [] (by simp))
            have Hkf := hid kfull
            have Hkres := hid kres
            have Hfb := hid hfb
            have H8i := hid h8i
            clear kr br kfull kres hfb h8i
            go_wp2_with (first | (refine wpList_load_blk rfl 23 _ rfl w4.heap.size rfl _ 23 Hkf.out _ Tryd.underlying23 rfl 32 size_digest Hsz.out ?_) | (refine wpList_store_blk rfl 23 _ _ rfl w.heap.size _ rfl rfl _ 23 Hkres.out 32 size_digest Hzb.out Hsz.out (ints_one _ _) ?_; intro w6 hbut6 hk6))
            exact bodyPost_ret (v := .agg ((sumZ bs).map (Value.int .u8)).toArray) (results_blk Tryd.results75 _ w.heap.size rfl _ 23 hk6 _ Tryd.underlying23 rfl 32 size_digest Hsz.out) rfl ⟨rfl, Hfb.out.fresh hbut6 (Nat.le_refl _)⟩
  · have hz0 : (56 : Int) < (m : Int) + 1 := by omega
    go_enter Tryd.func75, Tryd.ntmps75
    go_wp2_with (with_reducible refine wpList_clear_hash rfl _ 67 rfl 5 Tryd.underlying67 Hz.out ph (m + 1) (63 - m) (63 - m) d rfl Hd.out _ _ _ T HF1.out.hash hR1 (by omega) ?_; intro w2 HB2 HK2)
    rw [← hR2d'.out] at HK2
    have HF2 : Hid (FinW ph T w (Sha.run Sha.start (natB bs) (bs.length / 64)) R2 bs.length w2) := hid (HF1.out.next HB2.out HK2.out hlt hp1 hp0)
    clear HB2 HK2 HF1
    refine wp_region_flow 7 [0, 1, 2, 3, 4, 5, 6] [] [] (by kernel_rfl) (by kernel_rfl) ?_
    apply Exists.intro
    refine ⟨fun w0 hb0 hF0 => ?_, ?_⟩
    · simp only [pick, List.getElem?_toArray, List.getElem?_cons_succ, List.getElem?_cons_zero, Option.toList_some, List.cons_append, List.nil_append]
      repeat (go_big_quiet_step (fail))
      exact wpQuiet_nil rfl
    refine AlChk.nil ?_
    refine Walk.fin fun w3 h3 _ _ => ?_
    simp only [List.drop_succ_cons, List.drop_zero]
    have HF9 := HF2.out.below h3
    have hk4 := HF9.hash
    go_wp2_with fail
    refine (process_any ph T _ (R2.map (Value.int .u8) ++ [.int .u64 (bs.length : Nat)]) (some ⟨ph, 8, none⟩) 64 R2 w3 (Ok.run Ok.start _ _) hk4 (hk4.hash_rest hR2 hR2s) HF9.tab hp1).mono ?_
    rintro e w5 ⟨rfl, b5, k5⟩
    have hFB := HF9.next b5 (st' := Sha.compress (Sha.run Sha.start (natB bs) (bs.length / 64)) (natB R2)) (R' := R2) k5 hlt hp1 hp0
    have HFB := hid hFB
    have ok3 : Ok (Sha.compress (Sha.run Sha.start (natB bs) (bs.length / 64)) (natB R2)) := Ok.compress _ _
    have Hsum : Hid (sumZ bs = toZ (Sha.out (Sha.compress (Sha.compress (Sha.run Sha.start (natB bs) (bs.length / 64)) (natB R2)) (natB ((List.replicate 64 0).take 56 ++ toZ (Sha.nbe 8 (8 * bs.length))))))) := hid (by
      have hnl : (natB bs).length = bs.length := by simp [natB]
      have hb := Hbl.out
      have eA : natB R2 = (natB bs).drop (64 * (bs.length / 64)) ++ 128 :: List.replicate (63 - m) 0 := by
        rw [HR2e.out]
        simp [natB]
      have eB : natB ((List.replicate 64 (0 : Int)).take 56 ++ toZ (Sha.nbe 8 (8 * bs.length))) = List.replicate 56 0 ++ Sha.nbe 8 (8 * bs.length) := by
        have e2 : natB (toZ (Sha.nbe 8 (8 * bs.length))) = Sha.nbe 8 (8 * bs.length) := natB_toZ _
        rw [List.take_replicate, Nat.min_eq_left (by decide)]
        unfold natB at *
        rw [List.map_append, e2, List.map_replicate]
        rfl
      unfold sumZ
      rw [sum_long (natB bs) (bs.length / 64) m (by rw [hnl]; exact hb) (by omega) hm64, hnl, eA, eB])
    generalize Sha.compress (Sha.run Sha.start (natB bs) (bs.length / 64)) (natB R2) = st3 at *
    clear hk4 HF9 b5 k5 h3 hFB HF2 HR2e
    go_wp2_with (with_reducible refine wpList_clear_hash rfl _ 67 rfl 5 Tryd.underlying67 Hz.out ph 0 64 64 (some ⟨ph, 8, none⟩) rfl (fun _ => rfl) _ _ _ T HFB.out.hash hR2 (by omega) ?_; intro w2 HB2 HK2)
    have hR3d : splice R2 0 (List.replicate 64 0) = List.replicate 64 0 := by simp [splice, hR2]
    rw [hR3d] at HK2
    have HF3 : Hid (FinW ph T w st3 (List.replicate 64 0) bs.length w2) := hid (HFB.out.next HB2.out HK2.out hlt hp1 hp0)
    have hR3 : (List.replicate 64 (0 : Int)).length = 64 := by simp
    have hR3s : ∀ x ∈ List.replicate 64 (0 : Int), 0 ≤ x ∧ x < 256 := fun x hx => by have := List.eq_of_mem_replicate hx; omega
    generalize List.replicate 64 (0 : Int) = R3 at *
    clear HB2 HK2 HFB hR3d
    go_loopw [46] (fun v wr => ∃ j : Nat, j ≤ 8 ∧ v = .int .i64 j ∧ FinW ph T w st3 (R3.take (64 - j) ++ toZ (Sha.nbe j (8 * bs.length))) bs.length wr) (fun v _ => 8 - (intOf v).toNat)
    case atStart =>
      refine ⟨0, by omega, rfl, ?_⟩
      rw [List.take_of_length_le (show R3.length ≤ 64 - 0 by omega), show toZ (Sha.nbe 0 (8 * bs.length)) = [] from rfl, List.append_nil]
      exact HF3.out
    case round =>
      obtain ⟨j, hj, rfl, hF⟩ := hrel
      by_cases hlt8 : j < 8
      · have hRj : (R3.take (64 - j) ++ toZ (Sha.nbe j (8 * bs.length))).length = 64 := by
          rw [List.length_append, List.length_take, toZ, List.length_map, nbe_length]; omega
        have q := (hF.hash.cell (8 + (63 - j))).trans (hashCells_rest _ _ _ (63 - j) hRj (by omega))
        have f1 := hF.hash.free
        have hlt2 := hF.hash.lt
        have HF := hid hF
        have e1 : ((63 : Int) - (j : Int)).toNat = 63 - j := by omega
        have e2 : ((8 : Int) * (j : Int)).toNat = 8 * j := by omega
        generalize (R3.take (64 - j) ++ toZ (Sha.nbe j (8 * bs.length))).getD (63 - j) 0 = old at q
        clear hF
        go_wp2_with fail
        refine wp_region_flow 11 [0, 1, 2, 3, 4, 5, 6, 7, 8, 9, 10] [] [] (by kernel_rfl) (by kernel_rfl) ?_
        apply Exists.intro
        refine ⟨fun w0 hb0 hF0 => ?_, ?_⟩
        · simp only [pick, List.getElem?_toArray, List.getElem?_cons_succ, List.getElem?_cons_zero, Option.toList_some, List.cons_append, List.nil_append]
          repeat (go_big_quiet_step (fail))
          exact wpQuiet_nil rfl
        refine AlChk.nil ?_
        refine Walk.fin fun w3 h3 _ _ => ?_
        simp only [List.drop_succ_cons, List.drop_zero]
        have HF3' := hid (HF.out.below h3)
        have q3 := (h3.cell (p := ⟨ph, 8 + (63 - j), none⟩) hlt2).trans q
        have f3 := HF3'.out.hash.free
        clear q f1 h3 HF
        go_wp2_with fail
        have hv : ((bs.length : Int) * 8 / 2 ^ (8 * j) % 256) = ((8 * bs.length / 256 ^ j % 256 : Nat) : Int) := by
          have hp : (2 : Int) ^ (8 * j) = ((256 ^ j : Nat) : Int) := by
            rw [show 256 ^ j = 2 ^ (8 * j) by rw [Nat.pow_mul], Int.natCast_pow]
            rfl
          rw [hp, Int.natCast_emod, Int.natCast_ediv, Int.natCast_mul, Int.mul_comm]
          rfl
        refine ⟨⟨j + 1, by omega, by go_num, HF3'.out.next ((But.of (Below.refl _ _)).set (p := ⟨ph, 8 + (63 - j), none⟩) (.inl rfl) _) ?_ hlt hp1 hp0⟩, by simp [intOf]; omega⟩
        have hk9 := HF3'.out.hash.hash_put hRj (63 - j) [((bs.length : Int) * 8 / 2 ^ (8 * j) % 256)] (by rw [List.length_singleton]; omega)
        rw [put_byte R3 hR3 _ j hlt8 _ hv] at hk9
        rw [show 64 - (j + 1) = 63 - j by omega]
        exact hk9
      · have h8 : j = 8 := by omega
        have hF8 : FinW ph T w st3 (R3.take 56 ++ toZ (Sha.nbe 8 (8 * bs.length))) bs.length wr := by
          rw [h8] at hF; exact hF
        have HF8 := hid hF8
        have hR8 : (R3.take 56 ++ toZ (Sha.nbe 8 (8 * bs.length))).length = 64 := by
          rw [List.length_append, List.length_take, toZ, List.length_map, nbe_length]; omega
        have hR8s : ∀ x ∈ R3.take 56 ++ toZ (Sha.nbe 8 (8 * bs.length)), 0 ≤ x ∧ x < 256 := fun x hx => by
          rcases List.mem_append.1 hx with h | h
          · exact hR3s x (List.mem_of_mem_take h)
          · exact toZ_small (nbe_lt _ _) x h
        generalize hR9 : R3.take 56 ++ toZ (Sha.nbe 8 (8 * bs.length)) = R9 at *
        have H8 := hid h8
        clear hF hF8 h8
        go_wp2_with fail
        refine wp_region_flow 7 [0, 1, 2, 3, 4, 5, 6] [] [] (by kernel_rfl) (by kernel_rfl) ?_
        apply Exists.intro
        refine ⟨fun w0 hb0 hF0 => ?_, ?_⟩
        · simp only [pick, List.getElem?_toArray, List.getElem?_cons_succ, List.getElem?_cons_zero, Option.toList_some, List.cons_append, List.nil_append]
          repeat (go_big_quiet_step (fail))
          exact wpQuiet_nil rfl
        refine AlChk.nil ?_
        refine Walk.fin fun w3 h3 _ _ => ?_
        simp only [List.drop_succ_cons, List.drop_zero]
        have HF9 := HF8.out.below h3
        have hk4 := HF9.hash
        go_wp2_with fail
        refine (process_any ph T _ (R9.map (Value.int .u8) ++ [.int .u64 (bs.length : Nat)]) (some ⟨ph, 8, none⟩) 64 R9 w3 ok3 hk4 (hk4.hash_rest hR8 hR8s) HF9.tab hp1).mono ?_
        rintro e w4 ⟨rfl, b4, k4⟩
        have hFA := HF9.next b4 (st' := Sha.compress st3 (natB R9)) (R' := R9) k4 hlt hp1 hp0
        have okA : Ok (Sha.compress st3 (natB R9)) := Ok.compress _ _
        generalize Sha.compress st3 (natB R9) = sf at *
        have HFA := hid hFA
        have g0 : w4.cell? ⟨ph, 0, none⟩ = some (.int .u32 sf.a) := (hFA.hash.cell 0).trans rfl
        have g1 : w4.cell? ⟨ph, 1, none⟩ = some (.int .u32 sf.b) := (hFA.hash.cell 1).trans rfl
        have g2 : w4.cell? ⟨ph, 2, none⟩ = some (.int .u32 sf.c) := (hFA.hash.cell 2).trans rfl
        have g3 : w4.cell? ⟨ph, 3, none⟩ = some (.int .u32 sf.d) := (hFA.hash.cell 3).trans rfl
        have g4 : w4.cell? ⟨ph, 4, none⟩ = some (.int .u32 sf.e) := (hFA.hash.cell 4).trans rfl
        have g5 : w4.cell? ⟨ph, 5, none⟩ = some (.int .u32 sf.f) := (hFA.hash.cell 5).trans rfl
        have g6 : w4.cell? ⟨ph, 6, none⟩ = some (.int .u32 sf.g) := (hFA.hash.cell 6).trans rfl
        have g7 : w4.cell? ⟨ph, 7, none⟩ = some (.int .u32 sf.h) := (hFA.hash.cell 7).trans rfl
        have hlt4 := hFA.hash.lt
        have hres4 := hFA.res.lt
        have kd := Blk.new (w := w4) rfl (byteCells 32 []) 23
        have Hkd := hid kd
        clear hk4 HF9 b4 k4 h3 hFA kd
        go_wp2_with fail
        clear g0 g1 g2 g3 g4 g5 g6 g7
        go_loopw [73] (fun v wq => ∃ i : Nat, i ≤ 8 ∧ v = .int .i64 i ∧ Blk wq w4.heap.size (byteCells 32 (toZ (((words sf).take i).flatMap (Sha.nbe 4)))) 23 ∧ Below w4.heap.size w4 wq) (fun v _ => 8 - (intOf v).toNat)
        case atStart => exact ⟨0, by omega, rfl, Hkd.out, (Below.refl _ _).alloc (Nat.le_refl _) _⟩
        case round =>
          obtain ⟨i, hi, rfl, kr, br⟩ := hrel
          by_cases hlti : i < 8
          · have hix : ∀ W, (Instr.index 106 (.agg #[.int .u32 sf.a, .int .u32 sf.b, .int .u32 sf.c, .int .u32 sf.d, .int .u32 sf.e, .int .u32 sf.f, .int .u32 sf.g, .int .u32 sf.h]) (.int .i64 i)).run Tryd.prog W = .ok (.int .u32 ((toZ (words sf)).getD i 0)) W := fun W => run_index_ints (P := Tryd.prog) (e := 105) (n := 8) (by kernel_rfl) (by kernel_rfl) rfl rfl (toZ (words sf)) rfl i hlti W
            have hx : (toZ (words sf)).getD i 0 = (((words sf).getD i 0 : Nat) : Int) := by
              have : i < (words sf).length := hlti
              simp [toZ, this]
            have hxl : (words sf).getD i 0 < 4294967296 := words_lt okA i
            rw [hx] at hix
            have hts : (words sf).take (i + 1) = (words sf).take i ++ [(words sf).getD i 0] := by
              have : i < (words sf).length := hlti
              rw [List.take_succ_eq_append_getElem this]
              simp [this]
            have Hts := hid hts
            clear hx hts
            generalize (words sf).getD i 0 = X at *
            have hbl : (toZ (((words sf).take i).flatMap (Sha.nbe 4))).length = 4 * i := by
              rw [toZ, List.length_map, flat_len, List.length_take, Nat.min_eq_left (show i ≤ (words sf).length from Nat.le_of_lt hlti)]
            generalize hLd : toZ (((words sf).take i).flatMap (Sha.nbe 4)) = L at *
            have HL := hid hLd
            clear hLd
            have z0 : wr.cell? ⟨w4.heap.size, 4 * i, none⟩ = some (.int .u8 0) := by rw [kr.cell]; exact byteCells_zero _ _ _ (by omega) (by omega)
            have z1 : wr.cell? ⟨w4.heap.size, 4 * i + 1, none⟩ = some (.int .u8 0) := by rw [kr.cell]; exact byteCells_zero _ _ _ (by omega) (by omega)
            have z2 : wr.cell? ⟨w4.heap.size, 4 * i + 2, none⟩ = some (.int .u8 0) := by rw [kr.cell]; exact byteCells_zero _ _ _ (by omega) (by omega)
            have z3 : wr.cell? ⟨w4.heap.size, 4 * i + 3, none⟩ = some (.int .u8 0) := by rw [kr.cell]; exact byteCells_zero _ _ _ (by omega) (by omega)
            have o0 : ((4 : Int) * (i : Int)).toNat = 4 * i := by omega
            have o1 : ((4 : Int) * (i : Int) + 1).toNat = 4 * i + 1 := by omega
            have o2 : ((4 : Int) * (i : Int) + 2).toNat = 4 * i + 2 := by omega
            have o3 : ((4 : Int) * (i : Int) + 3).toNat = 4 * i + 3 := by omega
            have fq := kr.free
            have Hkr := hid kr
            have Hbr := hid br
            clear kr br
            go_wp2_with fail
            refine ⟨⟨i + 1, by omega, by go_num, ?_, ?_⟩, by simp [intOf]; omega⟩
            · have := put_four Hkr.out hbl hlti X hxl
              rw [Hts.out, List.flatMap_append, toZ, List.map_append, List.flatMap_singleton]
              rw [← HL.out] at this
              exact this
            · have hB : w4.heap.size ≤ w4.heap.size := Nat.le_refl _
              exact (((Hbr.out.setCell (p := ⟨w4.heap.size, 4 * i, none⟩) hB _).setCell (p := ⟨w4.heap.size, 4 * i + 1, none⟩) hB _).setCell (p := ⟨w4.heap.size, 4 * i + 2, none⟩) hB _).setCell (p := ⟨w4.heap.size, 4 * i + 3, none⟩) hB _
          · have h8i : i = 8 := by omega
            have kfull : Blk wr w4.heap.size ((sumZ bs).map (Value.int .u8)).toArray 23 := by
              have e : toZ (((words sf).take i).flatMap (Sha.nbe 4)) = sumZ bs := by
                rw [Hsum.out, h8i, List.take_of_length_le (by simp [words]), out_words]
              rw [e, byteCells_full 32 _ (sumZ_length bs)] at kr
              exact kr
            have kres := HFA.out.res.below br
            have hfb := HFA.out.but.ext br
            have Hsz : Hid (((sumZ bs).map (Value.int .u8)).toArray.size = 32) := hid (by simp [sumZ_length])
            have Hzb : Hid ((byteCells 32 []).size = 32) := hid (byteCells_size 32 [] (by simp))
            have Hkf := hid kfull
            have Hkres := hid kres
            have Hfb := hid hfb
            have H8i := hid h8i
            clear kr br kfull kres hfb h8i
            go_wp2_with (first | (refine wpList_load_blk rfl 23 _ rfl w4.heap.size rfl _ 23 Hkf.out _ Tryd.underlying23 rfl 32 size_digest Hsz.out ?_) | (refine wpList_store_blk rfl 23 _ _ rfl w.heap.size _ rfl rfl _ 23 Hkres.out 32 size_digest Hzb.out Hsz.out (ints_one _ _) ?_; intro w6 hbut6 hk6))
            exact bodyPost_ret (v := .agg ((sumZ bs).map (Value.int .u8)).toArray) (results_blk Tryd.results75 _ w.heap.size rfl _ 23 hk6 _ Tryd.underlying23 rfl 32 size_digest Hsz.out) rfl ⟨rfl, Hfb.out.fresh hbut6 (Nat.le_refl _)⟩
end Go.Proofs.YthaicocfbmpnmaaDoor
