/-
  Layer 13: slots are opened.
-/
import Derived.Test.YtmpgnpkodapidaaSgB
namespace Go.Proofs.Ytmpgnpkodapidaa
open Go.ChangeShapes Go.WideShapes Go.ChangeAt Go.RowKit

theorem cutA_block {g o l cap : Nat} {p : Addr} (h : cutA (some ⟨g, o, none⟩) l cap = some p) : p.block = g := by
  unfold cutA at h
  split at h
  · cases h; rfl
  · rw [Option.map_some, Addr.add_mid] at h
    cases h; rfl
theorem cell_skips {P : Program} {o : Oper} {A : Act} {w : World} (ty : TypeId) (x y : Operand) (ho : o.op = .store ty x y) (b off : Nat) (v : Value) (hx : A.eval x = .pointer (some ⟨b, off, none⟩)) (hy : A.eval y = v) (h1 : v.oneCell' = true) (hc : v.cells = #[v])
    (cs : Array Value) (T : TypeId) (hk : Blk w b cs T) (hlt : off < cs.size) (hi : (P.info? ty).map (·.size) = some 1) {S : List Nat} {G : World → Prop} (hb : b ∈ S) (hG : ∀ w2, But b w w2 → Blk w2 b (cs.setIfInBounds off v) T → G w2) :
    ∃ w2, (execOp A.eval o).run P w = .ok .skip w2 ∧ FlowB.ButIn S w w2 ∧ G w2 := by
  have q := But.setCells (b := b) [v] off w (But.of (Below.refl w.heap.size w))
  refine ⟨w.setCells b off [v], ?_, ButIn.of_but q hb, hG _ q (hk.set off v)⟩
  unfold execOp
  simp only [ho, hx, hy, Instr.storeAt, Instr.sureAddr, Sem.run_bind, Sem.run_pure, Result.andThen_ok, run_store_one w hk hlt hi h1 hc]
theorem but_of_in {b : Nat} {w w' : World} (h : FlowB.ButIn [b] w w') : But b w w' := ⟨h.os, h.tape, h.output, h.size, fun k hk hne => h.block k hk (by simpa using hne)⟩
/-- The text of slots: in memory of its own. -/
structure TextQ (w : World) (base q : Nat) (a : Option Addr) (n c : Nat) (t : List Int) : Prop where
  text : TextAt w a n c t
  out : ∀ p : Addr, a = some p → base ≤ p.block ∧ p.block ≠ q
theorem TextQ.below {w w' : World} {base q : Nat} {a : Option Addr} {n c : Nat} {t : List Int} (h : TextQ w base q a n c t) (hb : Below w.heap.size w w') : TextQ w' base q a n c t := ⟨h.text.below hb, h.out⟩
theorem TextQ.but {w w' : World} {base q : Nat} {a : Option Addr} {n c : Nat} {t : List Int} (h : TextQ w base q a n c t) (hb : But q w w') : TextQ w' base q a n c t :=
  ⟨h.text.butIn (S := [q]) (fun p hp => by have := (h.out p hp).2; simpa using this) (ButIn.of_but hb (by simp)), h.out⟩
theorem TextQ.nil (w : World) (base q : Nat) : TextQ w base q none 0 0 [] := ⟨TextAt.nil, fun p hp => by cases hp⟩
theorem size_pslots : (Try.prog.info? 3).map (·.size) = some 1 := by kernel_rfl
theorem turnB {b : List Int} (h : slotOk b = true) : 1 ≤ slotTurn b ∧ slotTurn b ≤ 4611686018427387904 := by
  have h2 := of_decide_eq_true h
  unfold slotTurn
  rw [if_pos h]
  exact ⟨h2.2.1, h2.2.2.1⟩
set_option maxHeartbeats 4000000 in
set_option maxRecDepth 100000 in
theorem open1_bad (w : World) (bd bs q p bb z n : Nat) (B : List Int) (set : Bool) (af : Int) (kv : Value) (at_ T : Int) (ta : Option Addr) (tn tc : Nat) (t : List Int) (base i : Nat) (hd : DkAt w p bb z n B (.slice none 0 0) true set af kv) (kd : Blk w bd #[.pointer (some ⟨p, 0, none⟩)] 24) (ks : Blk w bs #[.pointer (some ⟨q, 0, none⟩)] 47) (kq : Blk w q (slC p at_ T (.slice ta tn tc) false) 88) (hT : TextQ w base q ta tn tc t) (_hbase : base ≤ w.heap.size) (hin : i < n) (h18 : 18 ≤ z) (_hne : bs ≠ q) (ho : slotOk ((B.drop (i * z)).take z) = false) :
    Calls Try.prog 48 #[.int .i64 i, .pointer (some ⟨bd, 0, none⟩), .pointer (some ⟨bs, 0, none⟩)] w fun e w' => e = .returned (.int .i64 0) ∧ But q w w' ∧ ∃ ta' tn' tc', Blk w' q (slC p at_ T (.slice ta' tn' tc') false) 88 ∧ TextQ w' base q ta' tn' tc' t := by
  have Hb := hid (Below.refl w.heap.size w)
  have Kd := hid kd
  have Ks := hid ks
  have Kq := hid kq
  have HTQ := hid hT
  have cd : w.cell? ⟨bd, 0, none⟩ = some (.pointer (some ⟨p, 0, none⟩)) := by rw [kd.cell]; rfl
  have hz2 := hd.z2
  have hql := kq.lt
  have hsm : ∀ x ∈ ((B.drop (i * z)).take z), 0 ≤ x ∧ x < 256 := fun x hx => hd.small x (List.mem_of_mem_drop (List.mem_of_mem_take hx))
  have CR := hid (read_any w p bb z n B set af kv none 0 [] hd (WaitAt.nil w [p, bb] z) (fun x hx => absurd hx (by simp)) (by simp) i hin)
  have hrd : readN z i [] B ([] : List (Nat × List Int)).length = ((B.drop (i * z)).take z) := rfl
  rw [hrd] at CR
  generalize ((B.drop (i * z)).take z) = b at *
  clear kd ks kq hT hd
  go_enter Try.func48, Try.ntmps48
  go_wp2_with fail
  refine (CR.out).mono ?_
  rintro e w1 ⟨g, rfl, hg, b1, t1⟩
  have HB1 := hid b1
  have Kd1 := hid (Kd.out.below b1)
  have Ks1 := hid (Ks.out.below b1)
  have Kq1 := hid (Kq.out.below b1)
  have HQ1 := hid (HTQ.out.below b1)
  have hs1 := b1.size
  have CC := hid (content_any t1 (by omega) (by omega))
  have hbl := t1.length
  clear b1 t1 cd
  go_wp2_with fail
  refine (CC.out).mono ?_
  rintro e w2 ⟨b2, hcase⟩
  have HB2 := hid (Below.on HB1.out b2)
  have Kd2 := hid (Kd1.out.below b2)
  have Ks2 := hid (Ks1.out.below b2)
  have Kq2 := hid (Kq1.out.below b2)
  have HQ2 := hid (HQ1.out.below b2)
  have hs2 := HB2.out.size
  clear b2
  rcases hcase with ⟨hk, rfl⟩ | ⟨hk, sa, sc, rfl, hsa, hst⟩
  · skip
    go_wp2_with fail
    go_returns
    exact ⟨rfl, But.of HB2.out, _, _, _, Kq2.out, HQ2.out⟩
  · rw [hk] at ho
    cases ho
set_option maxHeartbeats 4000000 in
set_option maxRecDepth 100000 in
theorem open1_old (w : World) (bd bs q p bb z n : Nat) (B : List Int) (set : Bool) (af : Int) (kv : Value) (at_ T : Int) (ta : Option Addr) (tn tc : Nat) (t : List Int) (base i : Nat) (hd : DkAt w p bb z n B (.slice none 0 0) true set af kv) (kd : Blk w bd #[.pointer (some ⟨p, 0, none⟩)] 24) (ks : Blk w bs #[.pointer (some ⟨q, 0, none⟩)] 47) (kq : Blk w q (slC p at_ T (.slice ta tn tc) false) 88) (hT : TextQ w base q ta tn tc t) (_hbase : base ≤ w.heap.size) (hin : i < n) (h18 : 18 ≤ z) (_hne : bs ≠ q) (ho : slotOk ((B.drop (i * z)).take z) = true) (hnew : ¬ T < slotTurn ((B.drop (i * z)).take z)) :
    Calls Try.prog 48 #[.int .i64 i, .pointer (some ⟨bd, 0, none⟩), .pointer (some ⟨bs, 0, none⟩)] w fun e w' => e = .returned (.int .i64 0) ∧ But q w w' ∧ ∃ ta' tn' tc', Blk w' q (slC p at_ T (.slice ta' tn' tc') false) 88 ∧ TextQ w' base q ta' tn' tc' t := by
  have Hb := hid (Below.refl w.heap.size w)
  have Kd := hid kd
  have Ks := hid ks
  have Kq := hid kq
  have HTQ := hid hT
  have cd : w.cell? ⟨bd, 0, none⟩ = some (.pointer (some ⟨p, 0, none⟩)) := by rw [kd.cell]; rfl
  have hz2 := hd.z2
  have hql := kq.lt
  have hsm : ∀ x ∈ ((B.drop (i * z)).take z), 0 ≤ x ∧ x < 256 := fun x hx => hd.small x (List.mem_of_mem_drop (List.mem_of_mem_take hx))
  have CR := hid (read_any w p bb z n B set af kv none 0 [] hd (WaitAt.nil w [p, bb] z) (fun x hx => absurd hx (by simp)) (by simp) i hin)
  have hrd : readN z i [] B ([] : List (Nat × List Int)).length = ((B.drop (i * z)).take z) := rfl
  rw [hrd] at CR
  generalize ((B.drop (i * z)).take z) = b at *
  clear kd ks kq hT hd
  go_enter Try.func48, Try.ntmps48
  go_wp2_with fail
  refine (CR.out).mono ?_
  rintro e w1 ⟨g, rfl, hg, b1, t1⟩
  have HB1 := hid b1
  have Kd1 := hid (Kd.out.below b1)
  have Ks1 := hid (Ks.out.below b1)
  have Kq1 := hid (Kq.out.below b1)
  have HQ1 := hid (HTQ.out.below b1)
  have hs1 := b1.size
  have CC := hid (content_any t1 (by omega) (by omega))
  have hbl := t1.length
  clear b1 t1 cd
  go_wp2_with fail
  refine (CC.out).mono ?_
  rintro e w2 ⟨b2, hcase⟩
  have HB2 := hid (Below.on HB1.out b2)
  have Kd2 := hid (Kd1.out.below b2)
  have Ks2 := hid (Ks1.out.below b2)
  have Kq2 := hid (Kq1.out.below b2)
  have HQ2 := hid (HQ1.out.below b2)
  have hs2 := HB2.out.size
  clear b2
  rcases hcase with ⟨hk, rfl⟩ | ⟨hk, sa, sc, rfl, hsa, hst⟩
  · rw [hk] at ho
    cases ho
  · skip
    have hsl : (slotText b).length ≤ 512 := by
      unfold slotText
      rw [if_pos hk, List.length_take, List.length_drop]
      omega
    have HTX := hid hst
    have csl : w2.cell? ⟨bs, 0, none⟩ = some (.pointer (some ⟨q, 0, none⟩)) := by rw [Ks2.out.cell]; rfl
    have cq2 : w2.cell? ⟨q, 2, none⟩ = some (.int .i64 T) := by rw [Kq2.out.cell]; rfl
    have hsq : ∀ p : Addr, sa = some p → p.block ≠ q := fun p hp => by
      have h2 := cutA_block (hsa ▸ hp)
      omega
    obtain ⟨U, hU⟩ : ∃ U, slotTurn b = U := ⟨_, rfl⟩
    obtain ⟨V, hV⟩ : ∃ V, slotText b = V := ⟨_, rfl⟩
    rw [hU, hV]
    rw [hU] at hnew
    rw [hV] at hsl HTX
    have HU := hid hU
    have HV := hid hV
    clear hU hV
    have hlt : ¬ T < U := by omega
    clear hst hsa
    go_wp2_with fail
    go_returns
    exact ⟨rfl, But.of HB2.out, _, _, _, Kq2.out, HQ2.out⟩
set_option maxHeartbeats 4000000 in
set_option maxRecDepth 100000 in
theorem open1_new (w : World) (bd bs q p bb z n : Nat) (B : List Int) (set : Bool) (af : Int) (kv : Value) (at_ T : Int) (ta : Option Addr) (tn tc : Nat) (t : List Int) (base i : Nat) (hd : DkAt w p bb z n B (.slice none 0 0) true set af kv) (kd : Blk w bd #[.pointer (some ⟨p, 0, none⟩)] 24) (ks : Blk w bs #[.pointer (some ⟨q, 0, none⟩)] 47) (kq : Blk w q (slC p at_ T (.slice ta tn tc) false) 88) (hT : TextQ w base q ta tn tc t) (hbase : base ≤ w.heap.size) (hin : i < n) (h18 : 18 ≤ z) (hne : bs ≠ q) (ho : slotOk ((B.drop (i * z)).take z) = true) (hnew : T < slotTurn ((B.drop (i * z)).take z)) :
    Calls Try.prog 48 #[.int .i64 i, .pointer (some ⟨bd, 0, none⟩), .pointer (some ⟨bs, 0, none⟩)] w fun e w' => e = .returned (.int .i64 0) ∧ But q w w' ∧ ∃ ta' tn' tc', Blk w' q (slC p at_ (slotTurn ((B.drop (i * z)).take z)) (.slice ta' tn' tc') false) 88 ∧ TextQ w' base q ta' tn' tc' (slotText ((B.drop (i * z)).take z)) := by
  have Hb := hid (Below.refl w.heap.size w)
  have Kd := hid kd
  have Ks := hid ks
  have Kq := hid kq
  have HTQ := hid hT
  have cd : w.cell? ⟨bd, 0, none⟩ = some (.pointer (some ⟨p, 0, none⟩)) := by rw [kd.cell]; rfl
  have hz2 := hd.z2
  have hql := kq.lt
  have hsm : ∀ x ∈ ((B.drop (i * z)).take z), 0 ≤ x ∧ x < 256 := fun x hx => hd.small x (List.mem_of_mem_drop (List.mem_of_mem_take hx))
  have CR := hid (read_any w p bb z n B set af kv none 0 [] hd (WaitAt.nil w [p, bb] z) (fun x hx => absurd hx (by simp)) (by simp) i hin)
  have hrd : readN z i [] B ([] : List (Nat × List Int)).length = ((B.drop (i * z)).take z) := rfl
  rw [hrd] at CR
  generalize ((B.drop (i * z)).take z) = b at *
  clear kd ks kq hT hd
  go_enter Try.func48, Try.ntmps48
  go_wp2_with fail
  refine (CR.out).mono ?_
  rintro e w1 ⟨g, rfl, hg, b1, t1⟩
  have HB1 := hid b1
  have Kd1 := hid (Kd.out.below b1)
  have Ks1 := hid (Ks.out.below b1)
  have Kq1 := hid (Kq.out.below b1)
  have HQ1 := hid (HTQ.out.below b1)
  have hs1 := b1.size
  have CC := hid (content_any t1 (by omega) (by omega))
  have hbl := t1.length
  clear b1 t1 cd
  go_wp2_with fail
  refine (CC.out).mono ?_
  rintro e w2 ⟨b2, hcase⟩
  have HB2 := hid (Below.on HB1.out b2)
  have Kd2 := hid (Kd1.out.below b2)
  have Ks2 := hid (Ks1.out.below b2)
  have Kq2 := hid (Kq1.out.below b2)
  have HQ2 := hid (HQ1.out.below b2)
  have hs2 := HB2.out.size
  clear b2
  rcases hcase with ⟨hk, rfl⟩ | ⟨hk, sa, sc, rfl, hsa, hst⟩
  · rw [hk] at ho
    cases ho
  · skip
    have hsl : (slotText b).length ≤ 512 := by
      unfold slotText
      rw [if_pos hk, List.length_take, List.length_drop]
      omega
    have HTX := hid hst
    have csl : w2.cell? ⟨bs, 0, none⟩ = some (.pointer (some ⟨q, 0, none⟩)) := by rw [Ks2.out.cell]; rfl
    have cq2 : w2.cell? ⟨q, 2, none⟩ = some (.int .i64 T) := by rw [Kq2.out.cell]; rfl
    have hsq : ∀ p : Addr, sa = some p → p.block ≠ q := fun p hp => by
      have h2 := cutA_block (hsa ▸ hp)
      omega
    obtain ⟨U, hU⟩ : ∃ U, slotTurn b = U := ⟨_, rfl⟩
    obtain ⟨V, hV⟩ : ∃ V, slotText b = V := ⟨_, rfl⟩
    rw [hU, hV]
    rw [hU] at hnew
    rw [hV] at hsl HTX
    have HU := hid hU
    have HV := hid hV
    clear hU hV
    have hlt : T < U := by omega
    clear hst hsa
    go_wp2_with fail
    clear csl cq2
    refine FlowB.wp_region_butIn [q] (fun wz => Blk wz q (slC p at_ T (.slice ta tn tc) false) 88) 11 [0, 1, 2, 3] [] [(.c 4, [5, 6], []), (.c 7, [8, 9], []), (.c 10, [], [])] (by kernel_rfl) (by kernel_rfl) Kq2.out (fun _ _ h hb => h.below hb) ?_
    apply Exists.intro
    refine ⟨fun w0 hb0 hF0 => ?_, ?_⟩
    · skip
      have y0 : ∀ w', (∃ x : Ext w0, w' = x.at_) → w'.cell? ⟨bs, 0, none⟩ = some (.pointer (some ⟨q, 0, none⟩)) := fun w' ⟨x, hx⟩ => by rw [hx, ((hb0.blk Ks2.out (by simpa using hne)).below x.same).cell]; rfl
      simp only [pick, List.getElem?_toArray, List.getElem?_cons_succ, List.getElem?_cons_zero, Option.toList_some, List.cons_append, List.nil_append]
      repeat (first | (go_big_quiet_want; refine quiet_load_one 47 _ rfl ⟨bs, 0, none⟩ rfl _ y0 _ Try.underlying47 rfl ?_; go_big_quiet_on; simp only [Act.put, List.setIfInBounds_toArray, List.set_cons_zero, List.set_cons_succ]) | go_big_quiet_step (fail))
      exact wpQuiet_nil rfl
    refine FlowB.AlChk.nil ?_
    refine FlowB.Walk.call rfl 42 #[.slice sa V.length sc] (fun v w' => ∃ a c, v = .slice a V.length c ∧ TextQ w' base q a V.length c V) (fun _ w' => Blk w' q (slC p at_ T (.slice ta tn tc) false) 88) (fun v w' w'' hb h k => by obtain ⟨a, c, h1, h2⟩ := h; exact ⟨a, c, h1, h2.text.butIn (S := [q]) (fun p hp => by have := (h2.out p hp).2; simpa using this) k, h2.out⟩) (fun _ _ _ h k => h.below k) rfl (fun w1' hb1 hF1 hG1 => ⟨by go_simp, ?_⟩) ?_
    · refine (clone_any (HTX.out.butIn (S := [q]) (fun p hp => by simpa using hsq p hp) hb1) (by omega)).mono ?_
      rintro e w3 ⟨a', c', rfl, hb3, ht3, ho3⟩
      exact ⟨_, rfl, ButIn.of_below hb3, ⟨a', c', rfl, ht3, fun p hp => by have := (ho3 p hp).1; have := hb1.size; exact ⟨by omega, by omega⟩⟩, hG1.below hb3⟩
    rintro v1 w1' hb1 hF1 ⟨a3, c3, rfl, -⟩
    apply Exists.intro
    refine ⟨fun w4 hb4 hF4 => ?_, ?_⟩
    · skip
      simp only [pick, List.getElem?_toArray, List.getElem?_cons_succ, List.getElem?_cons_zero, Option.toList_some, List.cons_append, List.nil_append, Act.put, List.setIfInBounds_toArray, List.set_cons_zero, List.set_cons_succ]
      repeat (first | go_big_quiet_step (fail))
      exact wpQuiet_nil rfl
    refine FlowB.AlChk.nil ?_
    refine FlowB.Walk.skips rfl (fun wz => Blk wz q (slC p at_ U (.slice ta tn tc) false) 88) (fun _ _ h hb => h.below hb) rfl (fun w5 hb5 hF5 hG5 => ?_) ?_
    · exact cell_skips 3 _ _ rfl q 2 (.int .i64 U) rfl rfl rfl rfl (slC p at_ T (.slice ta tn tc) false) 88 hG5 (by simp [slC]) size_dint (by simp) (fun w6 h6 h7 => h7)
    intro w5 hb5 hF5
    apply Exists.intro
    refine ⟨fun w6 hb6 hF6 => ?_, ?_⟩
    · skip
      simp only [pick, List.getElem?_toArray, List.getElem?_cons_succ, List.getElem?_cons_zero, Option.toList_some, List.cons_append, List.nil_append, Act.put]
      repeat (first | go_big_quiet_step (fail))
      exact wpQuiet_nil rfl
    refine FlowB.AlChk.nil ?_
    refine FlowB.Walk.skips rfl (fun wz => Blk wz q (slC p at_ U (.slice a3 V.length c3) false) 88) (fun _ _ h hb => h.below hb) rfl (fun w7 hb7 hF7 hG7 => ?_) ?_
    · exact cell_skips 31 _ _ rfl q 3 (.slice a3 V.length c3) rfl rfl rfl rfl (slC p at_ U (.slice ta tn tc) false) 88 hG7 (by simp [slC]) size_dtext (by simp) (fun w8 h8 h9 => h9)
    intro w7 hb7 hF7
    apply Exists.intro
    refine ⟨fun w8 hb8 hF8 => wpQuiet_nil rfl, ?_⟩
    refine FlowB.AlChk.nil ?_
    refine FlowB.Walk.fin fun w9 h9 hF9 hG9 => ?_
    simp only [List.drop_succ_cons, List.drop_zero]
    have HG9 := hid hG9
    have HBt := hid (But.trans (But.of HB2.out) (but_of_in h9))
    obtain ⟨a4, c4, hq4, ht4⟩ := hF9.1.1.2
    cases hq4
    have HT9 := hid ht4
    clear h9 hF9 hG9 ht4
    go_wp2_with fail
    go_returns
    rw [HU.out, HV.out]
    exact ⟨rfl, HBt.out, _, _, _, HG9.out, HT9.out⟩
theorem DkAt.but {w w' : World} {p bb z n b : Nat} {B : List Int} {wv : Value} {on set : Bool} {af : Int} {kv : Value} (h : DkAt w p bb z n B wv on set af kv) (hb : But b w w') (h1 : p ≠ b) (h2 : bb ≠ b) : DkAt w' p bb z n B wv on set af kv :=
  ⟨hb.blk h.kp h1, hb.blk h.kb h2, h.ne, h.len, h.z1, h.z2, h.n1, h.n2, h.small⟩
/-- The turn and the text that slots have behind a sector. -/
def pickS (s : Int × List Int) (b : List Int) : Int × List Int := if slotOk b = true ∧ s.1 < slotTurn b then (slotTurn b, slotText b) else s
theorem open1_any (w : World) (bd bs q p bb z n : Nat) (B : List Int) (set : Bool) (af : Int) (kv : Value) (at_ T : Int) (ta : Option Addr) (tn tc : Nat) (t : List Int) (base i : Nat) (hd : DkAt w p bb z n B (.slice none 0 0) true set af kv) (kd : Blk w bd #[.pointer (some ⟨p, 0, none⟩)] 24) (ks : Blk w bs #[.pointer (some ⟨q, 0, none⟩)] 47) (kq : Blk w q (slC p at_ T (.slice ta tn tc) false) 88) (hT : TextQ w base q ta tn tc t) (hbase : base ≤ w.heap.size) (hin : i < n) (h18 : 18 ≤ z) (hne : bs ≠ q) :
    Calls Try.prog 48 #[.int .i64 i, .pointer (some ⟨bd, 0, none⟩), .pointer (some ⟨bs, 0, none⟩)] w fun e w' => e = .returned (.int .i64 0) ∧ But q w w' ∧ ∃ ta' tn' tc', Blk w' q (slC p at_ (pickS (T, t) ((B.drop (i * z)).take z)).1 (.slice ta' tn' tc') false) 88 ∧ TextQ w' base q ta' tn' tc' (pickS (T, t) ((B.drop (i * z)).take z)).2 := by
  have AA := open1_bad w bd bs q p bb z n B set af kv at_ T ta tn tc t base i hd kd ks kq hT hbase hin h18 hne
  by_cases ho : slotOk ((B.drop (i * z)).take z) = true
  · by_cases hnew : T < slotTurn ((B.drop (i * z)).take z)
    · rw [show pickS (T, t) ((B.drop (i * z)).take z) = (slotTurn ((B.drop (i * z)).take z), slotText ((B.drop (i * z)).take z)) from if_pos ⟨ho, hnew⟩]
      exact open1_new w bd bs q p bb z n B set af kv at_ T ta tn tc t base i hd kd ks kq hT hbase hin h18 hne ho hnew
    · rw [show pickS (T, t) ((B.drop (i * z)).take z) = (T, t) from if_neg fun h => hnew h.2]
      exact open1_old w bd bs q p bb z n B set af kv at_ T ta tn tc t base i hd kd ks kq hT hbase hin h18 hne ho hnew
  · rw [show pickS (T, t) ((B.drop (i * z)).take z) = (T, t) from if_neg fun h => ho h.1]
    exact AA (by simpa using ho)
theorem wpList_buildv {P : Program} {ops : Array Oper} {rest : List Oper} {op : Oper} {a : Act} {w : World} {Q : Exit → Act → World → Prop} (hgd : op.guard = none) (t : TypeId) (parts : List (Nat × Operand)) (ho : op.op = .build t parts.toArray) (vs : List (Nat × Value)) (hv : (parts.map fun x => (x.1, a.eval x.2)) = vs) (v : Value) (h : ∀ w', (Instr.build t vs.toArray).run P w' = .ok v w') (hk : wpList P ops Q rest (a.put op.dst v) w) : wpList P ops Q (op :: rest) a w :=
  wpList_plain hgd fun K hK => by
    have hm : (parts.map fun (x : Nat × Operand) => match x with | (i, x) => (i, a.eval x)) = vs := hv
    unfold Oper.wp execOp
    simp only [ho, List.map_toArray, hm, Sem.run_bind, h, Result.andThen_ok, Sem.run_pure, Oper.upon_value]
    exact hK _ _ hk
/-- What slots have, of a disk's bytes. -/
def openS (z : Nat) (B : List Int) (a : Nat) : Int × List Int := pickS (pickS (0, []) ((B.drop (a * z)).take z)) ((B.drop ((a + 1) * z)).take z)
theorem build_slots (p : Nat) (a : Int) (w : World) : (Instr.build 88 #[(0, .pointer (some ⟨p, 0, none⟩)), (1, .int .i64 a)]).run Try.prog w = .ok (.agg (slC p a 0 (.slice none 0 0) false)) w := by
  refine run_build w _ _ _ ?_
  obtain ⟨i0, hi, hz0⟩ := Option.map_eq_some_iff.1 (show (Try.prog.info? 88).map (·.zero) = some (some (.agg #[.pointer none, .int .i64 0, .int .i64 0, .slice none 0 0, .bool false])) by kernel_rfl)
  obtain ⟨fields, hu, hq⟩ : ∃ fields, Try.prog.underlying 88 = some (.struct fields) ∧ fields.toList.mapM (fun f => (Try.prog.info? f.type).map fun i => (f.offset, i.size)) = some [(0, 1), (1, 1), (2, 1), (3, 1), (4, 1)] := ⟨_, Try.underlying88, by kernel_rfl⟩
  have hz : (Value.agg #[.pointer none, .int .i64 0, .int .i64 0, .slice none 0 0, .bool false]).cells = #[.pointer none, .int .i64 0, .int .i64 0, .slice none 0 0, .bool false] := rfl
  unfold Program.built
  simp only [hi, hu, hz0, hq, hz]
  have t0 : splice ([.pointer none, .int .i64 0, .int .i64 0, .slice none 0 0, .bool false] : List Value) 0 (Value.pointer (some ⟨p, 0, none⟩)).cells.toList = [.pointer (some ⟨p, 0, none⟩), .int .i64 0, .int .i64 0, .slice none 0 0, .bool false] := by rfl
  have t1 : splice ([.pointer (some ⟨p, 0, none⟩), .int .i64 0, .int .i64 0, .slice none 0 0, .bool false] : List Value) 1 (Value.int .i64 a).cells.toList = [.pointer (some ⟨p, 0, none⟩), .int .i64 a, .int .i64 0, .slice none 0 0, .bool false] := by rfl
  rw [fill_part _ _ 0 0 _ _ (by rfl) (by show 0 + 1 ≤ 5; omega), t0]
  rw [fill_part _ _ 1 1 _ _ (by rfl) (by show 1 + 1 ≤ 5; omega), List.toList_toArray, t1, Instr.fill]
  rfl
def stepS (z : Nat) (B : List Int) (a : Nat) : Nat → Int × List Int
  | 0 => (0, [])
  | k + 1 => pickS (stepS z B a k) ((B.drop ((a + k) * z)).take z)
set_option maxHeartbeats 4000000 in
set_option maxRecDepth 100000 in
theorem open_good (w : World) (p bb z n : Nat) (B : List Int) (set : Bool) (af : Int) (kv : Value) (a0 : Nat) (hd : DkAt w p bb z n B (.slice none 0 0) true set af kv) (h18 : 18 ≤ z) (ha : a0 + 2 ≤ n) :
    Calls Try.prog 22 #[.pointer (some ⟨p, 0, none⟩), .int .i64 a0] w fun e w' => ∃ q ta tn tc, e = .returned (.tuple #[.pointer (some ⟨q, 0, none⟩), .int .i64 0]) ∧ w.heap.size ≤ q ∧ Below w.heap.size w w' ∧ Blk w' q (slC p a0 (openS z B a0).1 (.slice ta tn tc) false) 88 ∧ TextQ w' w.heap.size q ta tn tc (openS z B a0).2 := by
  have b1 := (Below.refl w.heap.size w).alloc (Nat.le_refl _) (.cells #[.pointer (some ⟨p, 0, none⟩)] 24 (0, 0))
  have Kd := hid (Blk.new (w := w) (n := w.heap.size) rfl #[.pointer (some ⟨p, 0, none⟩)] 24)
  have HD := hid (hd.below b1)
  have Hb := hid b1
  have hbz := b1.size
  clear b1
  have hz2 := hd.z2
  have hn2 := hd.n2
  have hn1 := hd.n1
  go_enter Try.func22, Try.ntmps22
  go_wp2_with fail
  refine (read_any _ p bb z n B set af kv none 0 [] HD.out (WaitAt.nil _ [p, bb] z) (fun x hx => absurd hx (by simp)) (by simp) a0 (by omega)).mono ?_
  rintro e w1 ⟨g, rfl, -, b1, -⟩
  have HB1 := hid (Below.on Hb.out b1)
  have Kd1 := hid (Kd.out.below b1)
  have HD1 := hid (HD.out.below b1)
  have hs1 := HB1.out.size
  clear b1
  have cd1 : w1.cell? ⟨w.heap.size, 0, none⟩ = some (.pointer (some ⟨p, 0, none⟩)) := by rw [Kd1.out.cell]; rfl
  go_wp2_with fail
  clear cd1
  refine (size_any _ p bb z n B (.slice none 0 0) true set af kv HD1.out).mono ?_
  rintro e w2 ⟨rfl, b2⟩
  have HB2 := hid (Below.on HB1.out b2)
  have Kd2 := hid (Kd1.out.below b2)
  have HD2 := hid (HD1.out.below b2)
  have hs2 := HB2.out.size
  clear b2
  have cd2 : w2.cell? ⟨w.heap.size, 0, none⟩ = some (.pointer (some ⟨p, 0, none⟩)) := by rw [Kd2.out.cell]; rfl
  have qz : ¬ (z : Int) < 18 := by omega
  have qa : ¬ (a0 : Int) < 0 := by omega
  have qn : ¬ (n : Int) - 2 < (a0 : Int) := by omega
  go_wp2_with fail
  clear cd2
  refine (sectors_any _ p bb z n B (.slice none 0 0) true set af kv HD2.out).mono ?_
  rintro e w3 ⟨rfl, b3⟩
  have HB3 := hid (Below.on HB2.out b3)
  have Kd3 := hid (Kd2.out.below b3)
  have HD3 := hid (HD2.out.below b3)
  have hs3 := HB3.out.size
  clear b3
  have cd3 : w3.cell? ⟨w.heap.size, 0, none⟩ = some (.pointer (some ⟨p, 0, none⟩)) := by rw [Kd3.out.cell]; rfl
  have HBS := hid (fun W : World => build_slots p a0 W)
  go_wp2_with (refine wpList_buildv rfl 88 _ rfl [(0, .pointer (some ⟨p, 0, none⟩)), (1, .int .i64 a0)] rfl _ HBS.out ?_)
  clear cd3
  have c1 := (Below.refl w3.heap.size w3).alloc (Nat.le_refl _) (.cells (slC p a0 0 (.slice none 0 0) false) 88 (0, 0))
  have c2 := c1.alloc c1.size (.cells #[.pointer (some ⟨w3.heap.size, 0, none⟩)] 47 (0, 0))
  have c3 := c2.alloc c2.size (.cells #[.int .i64 a0, .int .i64 ((a0 : Int) + 1)] 3 (0, 0))
  have Kq4 := hid (((Blk.new (w := w3) (n := w3.heap.size) rfl (slC p a0 0 (.slice none 0 0) false) 88).old (.cells #[.pointer (some ⟨w3.heap.size, 0, none⟩)] 47 (0, 0))).old (.cells #[.int .i64 a0, .int .i64 ((a0 : Int) + 1)] 3 (0, 0)))
  have Ks4 := hid ((Blk.new (w := (w3.alloc (.cells (slC p a0 0 (.slice none 0 0) false) 88 (0, 0)))) (n := w3.heap.size + 1) (by simp only [World.size_alloc]) #[.pointer (some ⟨w3.heap.size, 0, none⟩)] 47).old (.cells #[.int .i64 a0, .int .i64 ((a0 : Int) + 1)] 3 (0, 0)))
  have Ki4 := hid (Blk.new (w := ((w3.alloc (.cells (slC p a0 0 (.slice none 0 0) false) 88 (0, 0))).alloc (.cells #[.pointer (some ⟨w3.heap.size, 0, none⟩)] 47 (0, 0)))) (n := w3.heap.size + 1 + 1) (by simp only [World.size_alloc]) #[.int .i64 a0, .int .i64 ((a0 : Int) + 1)] 3)
  have HB4 := hid (Below.on HB3.out c3)
  have Kd4 := hid (Kd3.out.below c3)
  have HD4 := hid (HD3.out.below c3)
  have hkl := Kd3.out.lt
  have hpl := hd.kp.lt
  have hbl := hd.kb.lt
  clear c1 c2 c3
  go_loopw [46] (fun iv wr => ∃ (k : Nat) (ta : Option Addr) (tn tc : Nat), k ≤ 2 ∧ iv = .int .i64 k ∧ Blk wr w.heap.size #[.pointer (some ⟨p, 0, none⟩)] 24 ∧ Blk wr (w3.heap.size + 1) #[.pointer (some ⟨w3.heap.size, 0, none⟩)] 47 ∧ Blk wr (w3.heap.size + 1 + 1) #[.int .i64 a0, .int .i64 ((a0 : Int) + 1)] 3 ∧ Blk wr (w3.heap.size) (slC p a0 (stepS z B a0 k).1 (.slice ta tn tc) false) 88 ∧ TextQ wr w.heap.size (w3.heap.size) ta tn tc (stepS z B a0 k).2 ∧ DkAt wr p bb z n B (.slice none 0 0) true set af kv ∧ Below w.heap.size w wr) (fun iv _ => 2 - (intOf iv).toNat)
  case atStart => exact ⟨0, none, 0, 0, by omega, rfl, Kd4.out, Ks4.out, Ki4.out, Kq4.out, TextQ.nil _ _ _, HD4.out, HB4.out⟩
  case round =>
    obtain ⟨k, ta, tn, tc, hk, rfl, kd, ks, ki, kq, ht, hdr, bel⟩ := hrel
    have Kdr := hid kd
    have Ksr := hid ks
    have Kir := hid ki
    have Kqr := hid kq
    have HTr := hid ht
    have HDr := hid hdr
    have HBr := hid bel
    have hsr := bel.size
    clear kd ks ki kq ht hdr bel
    rcases (show k = 0 ∨ k = 1 ∨ k = 2 by omega) with rfl | rfl | rfl
    · skip
      have C1 := open1_any wr w.heap.size (w3.heap.size + 1) (w3.heap.size) p bb z n B set af kv a0 (stepS z B a0 0).1 ta tn tc (stepS z B a0 0).2 w.heap.size (a0 + 0) HDr.out Kdr.out Ksr.out Kqr.out HTr.out hsr (by omega) h18 (by omega)
      rw [show ((a0 + 0 : Nat) : Int) = (a0 : Int) from by omega] at C1
      have CC := hid C1
      clear C1
      have ci : wr.cell? ⟨w3.heap.size + 1 + 1, 0, none⟩ = some (.int .i64 a0) := by rw [Kir.out.cell]; rfl
      go_wp2_with fail
      refine CC.out.mono ?_
      rintro e w5 ⟨rfl, b5, ta', tn', tc', k5, t5⟩
      have Kd5 := hid (b5.blk Kdr.out (by omega))
      have Ks5 := hid (b5.blk Ksr.out (by omega))
      have Ki5 := hid (b5.blk Kir.out (by omega))
      have HD5 := hid (HDr.out.but b5 (by omega) (by omega))
      have HB5 := hid (b5.below HBr.out hsr (by omega))
      have Kq5 := hid k5
      have HT5 := hid t5
      clear b5 k5 t5
      go_wp2_with fail
      exact ⟨⟨1, ta', tn', tc', by omega, by first | rfl | simp, Kd5.out, Ks5.out, Ki5.out, Kq5.out, HT5.out, HD5.out, HB5.out⟩, by simp [intOf]⟩
    · skip
      have C1 := open1_any wr w.heap.size (w3.heap.size + 1) (w3.heap.size) p bb z n B set af kv a0 (stepS z B a0 1).1 ta tn tc (stepS z B a0 1).2 w.heap.size (a0 + 1) HDr.out Kdr.out Ksr.out Kqr.out HTr.out hsr (by omega) h18 (by omega)
      rw [show ((a0 + 1 : Nat) : Int) = (a0 : Int) + 1 from by omega] at C1
      have CC := hid C1
      clear C1
      have ci : wr.cell? ⟨w3.heap.size + 1 + 1, 1, none⟩ = some (.int .i64 ((a0 : Int) + 1)) := by rw [Kir.out.cell]; rfl
      go_wp2_with fail
      refine CC.out.mono ?_
      rintro e w5 ⟨rfl, b5, ta', tn', tc', k5, t5⟩
      have Kd5 := hid (b5.blk Kdr.out (by omega))
      have Ks5 := hid (b5.blk Ksr.out (by omega))
      have Ki5 := hid (b5.blk Kir.out (by omega))
      have HD5 := hid (HDr.out.but b5 (by omega) (by omega))
      have HB5 := hid (b5.below HBr.out hsr (by omega))
      have Kq5 := hid k5
      have HT5 := hid t5
      clear b5 k5 t5
      go_wp2_with fail
      exact ⟨⟨2, ta', tn', tc', by omega, by first | rfl | simp, Kd5.out, Ks5.out, Ki5.out, Kq5.out, HT5.out, HD5.out, HB5.out⟩, by simp [intOf]⟩
    · skip
      have cs : wr.cell? ⟨w3.heap.size + 1, 0, none⟩ = some (.pointer (some ⟨w3.heap.size, 0, none⟩)) := by rw [Ksr.out.cell]; rfl
      go_wp2_with fail
      go_returns
      exact ⟨_, _, _, _, rfl, hs3, HBr.out, Kqr.out, HTr.out⟩
end Go.Proofs.Ytmpgnpkodapidaa
