/-
  Layer 12: DiskKeeps.
-/
import Derived.Test.YtmpgnpkodapidaaDkF
namespace Go.Proofs.Ytmpgnpkodapidaa
open Go.ChangeShapes Go.WideShapes Go.ChangeAt Go.RowKit

/-- A text, filled up with bytes 0, cut. -/
def padZ (z : Nat) (a : List Int) : List Int := (a ++ List.replicate z 0).take z
theorem padZ_length (z : Nat) (a : List Int) : (padZ z a).length = z := by
  unfold padZ
  simp only [List.length_take, List.length_append, List.length_replicate]
  omega
/-- What is read of a sector that was written twice, the second time in part. -/
theorem sec_twice (z k m : Nat) (old now B : List Int) (ho : old.length = z) (hn : now.length = z) (hm : m ≤ z) (hB : k * z + z ≤ B.length) :
    ((putS z k now m (putS z k old z B)).drop (k * z)).take z = now.take m ++ old.drop m := by
  have e1 : putS z k old z B = B.take (k * z) ++ (old ++ B.drop (k * z + z)) := by
    unfold putS
    rw [List.take_of_length_le (show old.length ≤ z by omega)]
  have l1 : (B.take (k * z)).length = k * z := by rw [List.length_take]; omega
  have e2 : putS z k now m (putS z k old z B) = B.take (k * z) ++ (now.take m ++ (old.drop m ++ B.drop (k * z + z))) := by
    rw [e1]
    unfold putS
    rw [List.take_append_of_le_length (by rw [l1]; exact Nat.le_refl _), List.take_of_length_le (by rw [l1]; exact Nat.le_refl _)]
    congr 2
    rw [List.drop_append, l1, List.drop_eq_nil_of_le (by rw [l1]; omega), List.nil_append, show k * z + m - k * z = m by omega, List.drop_append_of_le_length (by omega)]
  rw [e2, List.drop_append, l1, List.drop_eq_nil_of_le (by rw [l1]; exact Nat.le_refl _), List.nil_append, Nat.sub_self, List.drop_zero, ← List.append_assoc, List.take_append_of_le_length (by simp only [List.length_append, List.length_take, List.length_drop]; omega), List.take_of_length_le (by simp only [List.length_append, List.length_take, List.length_drop]; omega)]
theorem sec_at (m : Nat) (old now : List Int) (j : Nat) (hn : m ≤ now.length) : (now.take m ++ old.drop m).getD j 0 = if j < m then now.getD j 0 else old.getD j 0 := by
  simp only [List.getD_eq_getElem?_getD]
  split
  · rename_i h
    rw [List.getElem?_append_left (by rw [List.length_take]; omega), List.getElem?_take_of_lt h]
  · rename_i h
    rw [List.getElem?_append_right (by rw [List.length_take]; omega), List.length_take, List.getElem?_drop, show m + (j - min m now.length) = j by omega]
theorem clamp_lt (z j : Nat) (n : Int) (hj : j < z) : j < clampZ z n ↔ (j : Int) < n := by
  unfold clampZ
  split
  · omega
  · split <;> omega
section
variable {P : Program} {w : World} {base : Nat} {t tn e : TypeId} {i : TypeInfo} {v : Value} {bs : List Int}
theorem wpList_append_zeros {ops : Array Oper} {rest : List Oper} {o : Oper} {A : Act} {Q : Exit → Act → World → Prop} (hgd : o.guard = none) (s x : Operand) (ho : o.op = .call { callee := .builtin .append, args := #[s, x], argTypes := #[t, tn] }) (ht : P.underlying t = some (.slice e)) (htn : P.underlying tn = some (.int .i64)) (hi : P.info? e = some i) (hz : i.zero = some (.int .u8 0)) (hsize : i.size = 1) (hby : i.bytes = 1)
    (hs : A.eval s = v) (hown : OwnB w base e v bs) (k : Nat) (hx : A.eval x = .int .i64 k) (hb : bs.length + k ≤ 140737488355328) (hbase : base ≤ w.heap.size)
    (h : ∀ v' w', OwnB w' base e v' (bs ++ List.replicate k 0) → Below base w w' → wpList P ops Q rest (A.put o.dst v') w') : wpList P ops Q (o :: rest) A w :=
  wpList_plain hgd fun K hK => by
    obtain ⟨v', w', hr, h2, h3, h4⟩ := run_append_zeros o.type ht htn hi hz hsize hby hown k hb hbase
    unfold Oper.wp execOp
    simp only [ho, resolve, invoke, builtin, Sem.run_bind, Sem.run_pure, Result.andThen_ok, List.map_toArray, List.map_cons, List.map_nil, hs, hx, hr, Oper.upon_value]
    exact hK _ _ (h v' w' h2 h4)
end
section
variable {P : Program} {ops : Array Oper} {rest : List Oper} {op : Oper} {a : Act} {w : World} {Q : Exit → Act → World → Prop}
theorem wpList_load_one (hgd : op.guard = none) (ty : TypeId) (x : Operand) (ho : op.op = .load ty x) (ad : Addr) (hx : a.eval x = .pointer (some ad)) (v : Value) (hk : w.cell? ad = some v) (d : TypeDesc) (hu : P.underlying ty = some d) (hd : d.isRow = false)
    (h : wpList P ops Q rest (a.put op.dst v) w) : wpList P ops Q (op :: rest) a w :=
  wpList_plain hgd fun K hK => by
    unfold Oper.wp execOp
    simp only [ho, hx, Instr.loadAt, Instr.sureAddr, Sem.run_bind, Sem.run_pure, Result.andThen_ok, run_load_one w hk d hu hd, Oper.upon_value]
    exact hK _ _ h
end

set_option maxHeartbeats 4000000 in
set_option maxRecDepth 100000 in
theorem diskKeeps_any (s0 z0 q0 n : Int) (ta : Option Addr) (tan tac : Nat) (tax : List Int) (tb : Option Addr) (tbn tbc : Nat) (tbx : List Int) (w : World) (hTa : TextAt w ta tan tac tax) (hTb : TextAt w tb tbn tbc tbx) (hta : tax.length ≤ 140737488351232) (htb : tbx.length ≤ 140737488351232)
    (h1 : 0 ≤ s0 ∧ s0 < 256) (h2 : 0 ≤ z0 ∧ z0 < 256) (h3 : 0 ≤ q0 ∧ q0 < 256) (hnw : -9223372036854775808 ≤ n ∧ n ≤ 9223372036854775807) :
    Calls Try.prog 4 #[.int .u8 s0, .int .u8 z0, .int .u8 q0, .slice ta tan tac, .slice tb tbn tbc, .int .i64 n] w fun e w' => e = .returned (.bool true) ∧ Below w.heap.size w w' := by
  obtain ⟨N, hN⟩ := Int.eq_ofNat_of_zero_le (show 0 ≤ s0 % 64 + 1 by omega)
  obtain ⟨z, hz⟩ := Int.eq_ofNat_of_zero_le (show 0 ≤ z0 % 100 + 1 by omega)
  have hN1 : 1 ≤ N := by omega
  have hN2 : N ≤ 64 := by omega
  have hz1 : 1 ≤ z := by omega
  have hz2 : z ≤ 512 := by omega
  obtain ⟨k, hk⟩ := Int.eq_ofNat_of_zero_le (show 0 ≤ q0 % (N : Int) from Int.emod_nonneg _ (by omega))
  have hkN : k < N := by have := Int.emod_lt_of_pos q0 (show (0 : Int) < N by omega); omega
  have hwN : wrap64 (s0 % 64 + 1) = (N : Int) := by unfold wrap64; omega
  have hwz : wrap64 (z0 % 100 + 1) = (z : Int) := by unfold wrap64; omega
  have hla := hTa.length
  have hlb := hTb.length
  have hN0 : ¬ ((N : Int) = 0) := by omega
  have hN0b : ((N : Int) == 0) = false := by simp; omega
  have HNN := hid hN
  have HZZ := hid hz
  have HKK := hid hk
  clear hN hz hk hwN hwz hN0 hN0b
  have Hb := hid (Below.refl w.heap.size w)
  have HTa := hid hTa
  have HTb := hid hTb
  go_enter Try.func4, Try.ntmps4
  go_wp2_with fail
  rw [HNN.out, HZZ.out, HKK.out]
  refine (new_good _ N z hN1 hN2 hz1 hz2).mono ?_
  rintro e w1 ⟨p, bb, rfl, hp, hbb, b1, d1⟩
  have Hb1 := hid b1
  have HD1 := hid d1
  have hplt := d1.kp.lt
  have hblt := d1.kb.lt
  clear b1 d1
  obtain ⟨i0, hi, hz0, hzz1, hzz2⟩ := info_parts info_byte
  have KEo := hid (OwnB.of_blk (base := w1.heap.size) (e := 5) (bs := []) (n := 0) (Blk.new (w := w1) rfl #[] 5) (Nat.le_refl _) rfl (by omega) (by simp))
  have BEo := hid ((Below.refl w1.heap.size w1).alloc (Nat.le_refl _) (.cells #[] 5 (0, 0)))
  have TTo := hid ((HTa.out.below Hb1.out).below BEo.out)
  go_wp2_with (at_builtin; refine wpList_append_text rfl _ _ rfl Try.underlying31 hi hz0 hzz1 hzz2 rfl KEo.out rfl TTo.out ?c1 ?c2 ?_)
  case c1 => simp; omega
  case c2 => exact BEo.out.size
  intro vo xo howno _ hbelo
  have Oo := hid howno
  have Xo := hid (BEo.out.trans hbelo)
  clear howno hbelo
  go_wp2_with (at_builtin; refine wpList_append_zeros rfl _ _ rfl Try.underlying31 Try.underlying3 hi hz0 hzz1 hzz2 rfl Oo.out z rfl ?c1 ?c2 ?_)
  case c1 => have := HTa.out.length; omega
  case c2 => exact Xo.out.size
  intro uo yo howno hbelo
  have Yo := hid (Xo.out.trans hbelo)
  obtain ⟨ao, co, rfl, to, oo⟩ := howno.text2
  have hzlo : z ≤ (tax ++ List.replicate z (0 : Int)).length := by simp
  have Po := hid (to.headT z hzlo)
  have hcco := Nat.le_trans hzlo to.le
  have hcto : ∀ W : World, (Instr.slice 31 (.slice ao (tax ++ List.replicate z (0 : Int)).length co) none (some (.int .i64 (z : Int))) none).run Try.prog W = .ok (.slice ao z co) W := fun W => by
    have := run_cut_h (P := Try.prog) Try.underlying31 size_u8 ao (tax ++ List.replicate z (0 : Int)).length co (z : Int) W (by omega) (by omega)
    rw [Int.toNat_natCast] at this
    exact this
  generalize (tax ++ List.replicate z (0 : Int)).length = lo at *
  have Fo := hid (fun (q : Addr) (h : ao = some q) => (oo q h).1)
  clear howno hbelo to oo
  have Hb2 := hid (Below.on Hb1.out Yo.out)
  have HD2 := hid (HD1.out.below Yo.out)
  have hs2 := Yo.out.size
  have KEn := hid (OwnB.of_blk (base := yo.heap.size) (e := 5) (bs := []) (n := 0) (Blk.new (w := yo) rfl #[] 5) (Nat.le_refl _) rfl (by omega) (by simp))
  have BEn := hid ((Below.refl yo.heap.size yo).alloc (Nat.le_refl _) (.cells #[] 5 (0, 0)))
  have TTn := hid ((HTb.out.below Hb2.out).below BEn.out)
  go_wp2_with (at_builtin; refine wpList_append_text rfl _ _ rfl Try.underlying31 hi hz0 hzz1 hzz2 rfl KEn.out rfl TTn.out ?c1 ?c2 ?_)
  case c1 => simp; omega
  case c2 => exact BEn.out.size
  intro vn xn hownn _ hbeln
  have On := hid hownn
  have Xn := hid (BEn.out.trans hbeln)
  clear hownn hbeln
  go_wp2_with (at_builtin; refine wpList_append_zeros rfl _ _ rfl Try.underlying31 Try.underlying3 hi hz0 hzz1 hzz2 rfl On.out z rfl ?c1 ?c2 ?_)
  case c1 => have := HTb.out.length; omega
  case c2 => exact Xn.out.size
  intro un yn hownn hbeln
  have Yn := hid (Xn.out.trans hbeln)
  obtain ⟨an, cn, rfl, tn, on⟩ := hownn.text2
  have hzln : z ≤ (tbx ++ List.replicate z (0 : Int)).length := by simp
  have Pn := hid (tn.headT z hzln)
  have hccn := Nat.le_trans hzln tn.le
  have hctn : ∀ W : World, (Instr.slice 31 (.slice an (tbx ++ List.replicate z (0 : Int)).length cn) none (some (.int .i64 (z : Int))) none).run Try.prog W = .ok (.slice an z cn) W := fun W => by
    have := run_cut_h (P := Try.prog) Try.underlying31 size_u8 an (tbx ++ List.replicate z (0 : Int)).length cn (z : Int) W (by omega) (by omega)
    rw [Int.toNat_natCast] at this
    exact this
  generalize (tbx ++ List.replicate z (0 : Int)).length = ln at *
  have Fn := hid (fun (q : Addr) (h : an = some q) => (on q h).1)
  clear hownn hbeln tn on
  have Hb3 := hid (Below.on Hb2.out Yn.out)
  have HD3 := hid (HD2.out.below Yn.out)
  have hs3 := Yn.out.size
  have TO := hid (TextO.mk (S := [p, bb]) (Po.out.below Yn.out) (fun q hq => by have := Fo.out q hq; simp only [List.mem_cons, List.not_mem_nil, or_false]; omega))
  have TN := hid (TextO.mk (S := [p, bb]) Pn.out (fun q hq => by have := Fn.out q hq; simp only [List.mem_cons, List.not_mem_nil, or_false]; omega))
  have HLo := hid (show (tax ++ List.replicate z (0 : Int)).take z = padZ z tax from rfl)
  have HLn := hid (show (tbx ++ List.replicate z (0 : Int)).take z = padZ z tbx from rfl)
  rw [HLo.out] at TO
  rw [HLn.out] at TN
  have hlo := padZ_length z tax
  have hln := padZ_length z tbx
  generalize padZ z tax = old at *
  generalize padZ z tbx = now at *
  clear HTa HTb KEo BEo TTo Oo Xo Yo Po Fo KEn BEn TTn On Xn Yn Pn Fn HLo HLn hcco hccn
  go_wp2_with fail
  refine (write_first _ p bb z N _ 0 _ HD3.out k hkN ao co old TO.out.text).mono ?_
  rintro e w4 ⟨wa, wc, rfl, i4, _, d4, q4⟩
  have Hb4 := hid (i4.below Hb3.out Hb3.out.size (by simp only [List.mem_cons, List.not_mem_nil, or_false, forall_eq_or_imp, forall_eq]; omega))
  have HD4 := hid d4
  have HW4 := hid q4
  have TN4 := hid (TN.out.butIn i4)
  have TO4 := hid (TO.out.butIn i4)
  have hs4 := i4.size
  clear i4 d4 q4
  go_wp2_with fail
  refine (sync_any _ p bb z N _ 0 _ wa wc [(k, old)] HD4.out HW4.out (by simp only [List.mem_singleton, forall_eq]; exact ⟨hkN, hlo⟩) (by simp)).mono ?_
  rintro e w5 ⟨rfl, i5, d5⟩
  have Hb5 := hid (i5.below Hb4.out Hb4.out.size (by simp only [List.mem_cons, List.not_mem_nil, or_false, forall_eq_or_imp, forall_eq]; omega))
  have HD5 := hid (show DkAt w5 p bb z N (putS z k old z (List.replicate (N * z) 0)) (.slice none 0 0) true false 0 (.slice none 0 0) from d5)
  have TN5 := hid (TN4.out.butIn i5)
  have TO5 := hid (TO4.out.butIn i5)
  have hs5 := i5.size
  clear i5 d5
  go_wp2_with fail
  refine (write_first _ p bb z N _ 0 _ HD5.out k hkN an cn now TN5.out.text).mono ?_
  rintro e w6 ⟨wa6, wc6, rfl, i6, _, d6, q6⟩
  have Hb6 := hid (i6.below Hb5.out Hb5.out.size (by simp only [List.mem_cons, List.not_mem_nil, or_false, forall_eq_or_imp, forall_eq]; omega))
  have HD6 := hid d6
  have HW6 := hid q6
  have TN6 := hid (TN5.out.butIn i6)
  have TO6 := hid (TO5.out.butIn i6)
  have hs6 := i6.size
  clear i6 d6 q6
  go_wp2_with fail
  have Hk6 := hid (Blk.new (w := w6) rfl #[.int .i64 n] 3)
  have b6 := (Below.refl w6.heap.size w6).alloc (Nat.le_refl _) (.cells #[.int .i64 n] 3 (0, 0))
  have HI6 : Hid (IntsAt (w6.alloc (.cells #[.int .i64 n] 3 (0, 0))) [p, bb] (some ⟨w6.heap.size, 0, none⟩) [n]) := hid ⟨.inr ⟨w6.heap.size, 0, rfl, by simp only [List.mem_cons, List.not_mem_nil, or_false]; omega, Hk6.out.lt, fun j hj => by
    obtain rfl : j = 0 := by simp at hj; omega
    rw [Hk6.out.cell]; rfl⟩⟩
  have Hb6b := hid (Below.on Hb6.out b6)
  have HD6b := hid (HD6.out.below b6)
  have HW6b := hid (HW6.out.butIn (ButIn.of_below b6))
  have TN6b := hid (TN6.out.butIn (ButIn.of_below b6))
  have TO6b := hid (TO6.out.butIn (ButIn.of_below b6))
  clear b6
  refine (crash_any _ p bb z N _ false 0 _ wa6 wc6 [(k, now)] (some ⟨w6.heap.size, 0, none⟩) 1 [n] HI6.out (by simp only [List.mem_singleton, forall_eq]; exact hnw) HD6b.out HW6b.out (by simp only [List.mem_singleton, forall_eq]; exact ⟨hkN, hln⟩) (by simp)).mono ?_
  rintro e w7 ⟨rfl, i7, d7⟩
  have Hb7 := hid (i7.below Hb6b.out Hb6b.out.size (by simp only [List.mem_cons, List.not_mem_nil, or_false, forall_eq_or_imp, forall_eq]; omega))
  have HD7 := hid (show DkAt w7 p bb z N (putS z k now (clampZ z n) (putS z k old z (List.replicate (N * z) 0))) (.slice none 0 0) false false 0 (.slice none 0 0) from d7)
  have TN7 := hid (TN6b.out.butIn i7)
  have TO7 := hid (TO6b.out.butIn i7)
  clear i7 d7
  go_wp2_with fail
  refine (boot_any _ p bb z N _ _ false false 0 _ HD7.out).mono ?_
  rintro e w8 ⟨rfl, i8, d8⟩
  have i8 := ButIn.of_but (S := [p, bb]) i8 (by simp)
  have Hb8 := hid (i8.below Hb7.out Hb7.out.size (by simp only [List.mem_cons, List.not_mem_nil, or_false, forall_eq_or_imp, forall_eq]; omega))
  have HD8 := hid d8
  have TN8 := hid (TN7.out.butIn i8)
  have TO8 := hid (TO7.out.butIn i8)
  clear i8 d8
  go_wp2_with fail
  refine (read_any _ p bb z N _ false 0 _ none 0 [] HD8.out (WaitAt.nil _ _ _) (by simp) (by simp) k hkN).mono ?_
  rintro e w9 ⟨g, rfl, hg, b9, t9⟩
  have Hb9 := hid (Below.on Hb8.out b9)
  have HL := hid (show z * N + 0 = z * N from rfl)
  have hkz : k * z + z ≤ (List.replicate (N * z) (0 : Int)).length := by
    rw [List.length_replicate, ← Nat.succ_mul]
    exact Nat.mul_le_mul_right z hkN
  have hrd : readN z k [] (putS z k now (clampZ z n) (putS z k old z (List.replicate (N * z) 0))) ([] : List (Nat × List Int)).length = now.take (clampZ z n) ++ old.drop (clampZ z n) := sec_twice z k (clampZ z n) old now _ hlo hln (clampZ_le z n) hkz
  rw [hrd] at t9
  have TX := hid t9
  have TN9 := hid (TN8.out.text.below b9)
  have TO9 := hid (TO8.out.text.below b9)
  clear b9 t9 hrd hkz HL
  go_wp2_with fail
  obtain ⟨xo, oo, rfl, hxo, hco⟩ := TO9.out.at_ (by omega)
  obtain ⟨xn, on_, rfl, hxn, hcn⟩ := TN9.out.at_ (by omega)
  obtain ⟨xg, og, hge, hxg, hcg⟩ := TX.out.at_ (by omega)
  cases hge
  have HCo := hid hco
  have HCn := hid hcn
  have HCg := hid hcg
  clear hco hcn hcg
  go_loopw [25] (fun iv wr => ∃ j : Nat, j ≤ z ∧ iv = .int .i64 j ∧ wr = w9) (fun iv _ => z - (intOf iv).toNat)
  case atStart => exact ⟨0, Nat.zero_le _, rfl, rfl⟩
  case round =>
    obtain ⟨j, hj, rfl, rfl⟩ := hrel
    by_cases hlt : j < z
    · skip
      have hcI : (j : Int) < z := by omega
      have hat := sec_at (clampZ z n) old now j (by rw [hln]; exact clampZ_le z n)
      have hcl := clamp_lt z j n hlt
      have cg := HCg.out j hlt
      have co' := HCo.out j hlt
      have cn' := HCn.out j hlt
      rw [hat] at cg
      clear hat
      by_cases hjn : (j : Int) < n
      · rw [if_pos (hcl.2 hjn)] at cg
        generalize now.getD j 0 = v at *
        generalize old.getD j 0 = u at *
        have Cg := hid cg
        have Co := hid co'
        have Cn := hid cn'
        clear cg co' cn' hcl
        go_wp2_with (first | (refine wpList_index_s 1 rfl 31 _ _ rfl Try.underlying31 size_u8 xo oo z co rfl _ _ rfl j rfl hlt ?_) | (refine wpList_index_s 1 rfl 31 _ _ rfl Try.underlying31 size_u8 xn on_ z cn rfl _ _ rfl j rfl hlt ?_) | (refine wpList_index_s 1 rfl 31 _ _ rfl Try.underlying31 size_u8 g 0 z z rfl _ _ rfl j rfl hlt ?_) | (refine wpList_load_one rfl 5 _ rfl ⟨xo, oo + j * 1, none⟩ rfl (.int .u8 u) (by rw [Nat.mul_one]; exact Co.out) _ Try.underlying5 rfl ?_) | (refine wpList_load_one rfl 5 _ rfl ⟨xn, on_ + j * 1, none⟩ rfl (.int .u8 v) (by rw [Nat.mul_one]; exact Cn.out) _ Try.underlying5 rfl ?_) | (refine wpList_load_one rfl 5 _ rfl ⟨g, 0 + j * 1, none⟩ rfl (.int .u8 v) (by rw [Nat.mul_one]; exact Cg.out) _ Try.underlying5 rfl ?_))
        exact ⟨⟨j + 1, by omega, by first | rfl | simp, by first | rfl | trivial⟩, by simp [intOf]; omega⟩
      · rw [if_neg (fun h => hjn (hcl.1 h))] at cg
        generalize old.getD j 0 = u at *
        have Cg := hid cg
        have Co := hid co'
        clear cg co' cn' hcl
        go_wp2_with (first | (refine wpList_index_s 1 rfl 31 _ _ rfl Try.underlying31 size_u8 xo oo z co rfl _ _ rfl j rfl hlt ?_) | (refine wpList_index_s 1 rfl 31 _ _ rfl Try.underlying31 size_u8 g 0 z z rfl _ _ rfl j rfl hlt ?_) | (refine wpList_load_one rfl 5 _ rfl ⟨xo, oo + j * 1, none⟩ rfl (.int .u8 u) (by rw [Nat.mul_one]; exact Co.out) _ Try.underlying5 rfl ?_) | (refine wpList_load_one rfl 5 _ rfl ⟨g, 0 + j * 1, none⟩ rfl (.int .u8 u) (by rw [Nat.mul_one]; exact Cg.out) _ Try.underlying5 rfl ?_))
        exact ⟨⟨j + 1, by omega, by first | rfl | simp, by first | rfl | trivial⟩, by simp [intOf]; omega⟩
    · skip
      have hjz : j = z := by omega
      subst hjz
      have hcI : ¬ ((j : Int) < j) := by omega
      go_wp2_with fail
      refine (knows12 _).mono ?_
      rintro e w10 ⟨rfl, b10⟩
      have Hb10 := hid (Below.on Hb9.out b10)
      clear b10
      go_wp2_with fail
      go_returns
      exact ⟨by first | rfl | simp, Hb10.out⟩
end Go.Proofs.Ytmpgnpkodapidaa
