/-
  Layer 15: a signer raises the fence, and replaces its state.
-/
import Derived.Test.YtmpgnpkodapidaaSgG
namespace Go.Proofs.Ytmpgnpkodapidaa
open Go.ChangeShapes Go.WideShapes Go.ChangeAt Go.RowKit

/-- A part of a block is stored to. -/
theorem wpList_store_mid {P : Program} {ops : Array Oper} {rest : List Oper} {op : Oper} {a : Act} {w : World} {Q : Exit → Act → World → Prop} (hgd : op.guard = none) (ty : TypeId) (x y : Operand) (ho : op.op = .store ty x y) (b off : Nat) (cells : Array Value) (hx : a.eval x = .pointer (some ⟨b, off, none⟩)) (hy : a.eval y = .agg cells)
    (cs : Array Value) (T : TypeId) (hk : Blk w b cs T) (hlt : off + cells.size ≤ cs.size) (hi : (P.info? ty).map (·.size) = some cells.size) (h1 : cells.all (·.oneCell') = true)
    (h : ∀ w', But b w w' → Blk w' b (splice cs.toList off cells.toList).toArray T → wpList P ops Q rest (a.put op.dst undef) w') : wpList P ops Q (op :: rest) a w :=
  wpList_plain hgd fun K hK => by
    have ht : w.there b off cells.size := fun j hj => ⟨by rw [hk.cell, Array.getElem?_eq_getElem (by omega)]; rfl, hk.free _⟩
    unfold Oper.wp execOp
    simp only [ho, hx, hy, Instr.storeAt, Instr.sureAddr, Sem.run_bind, Sem.run_pure, Result.andThen_ok, run_storeVar_mid w b off ty cells ht hi h1, Oper.upon_skip]
    refine hK _ _ (h _ (But.setCells _ _ _ (But.of (Below.refl _ _))) ?_)
    have q := Blk.setCells [] cs.toList [] off cells.toList (by simpa using hk) (by simpa using hlt)
    simpa using q
theorem stC_ones (g k r ik ii : Int) (a : Option Addr) (n c : Nat) : (stC g k r ik ii (.slice a n c)).all (·.oneCell') = true := by simp [stC, Value.oneCell']
theorem size_state' (g k r ik ii : Int) (a : Option Addr) (n c : Nat) : (Try.prog.info? 100).map (·.size) = some (stC g k r ik ii (.slice a n c)).size := size_state
theorem size_pfence : (Try.prog.info? 94).map (·.size) = some 3 := by kernel_rfl
set_option maxHeartbeats 4000000 in
set_option maxRecDepth 100000 in
theorem sraise_any (w : World) (s f : Nat) (cg : Array Value) (mv : Value) (g k r ik ii fg fk fh : Int) (hk : Blk w s cg 104) (hcg : cg[10]? = some (.pointer (some ⟨f, 0, none⟩))) (kf : Blk w f #[.int .i64 fg, .int .i64 fk, .int .i64 fh] 96) (hsf : s ≠ f) :
    Calls Try.prog 56 #[.pointer (some ⟨s, 0, none⟩), .agg (stC g k r ik ii mv)] w fun e w' => e = .returned (.tuple #[]) ∧ But f w w' ∧ Blk w' f #[.int .i64 (max fg g), .int .i64 (lk fk fh k r).1, .int .i64 (lk fk fh k r).2] 96 := by
  have b1 := (Below.refl w.heap.size w).alloc (Nat.le_refl _) (.cells (stC g k r ik ii mv) 100 (0, 0))
  have Ks := hid (Blk.new (w := w) (n := w.heap.size) rfl (stC g k r ik ii mv) 100)
  have Hb := hid b1
  have hbz := b1.size
  have Hbs := hid (show w.heap.size + 1 = (w.alloc (.cells (stC g k r ik ii mv) 100 (0, 0))).heap.size by simp only [World.size_alloc])
  clear b1 
  have Kf := hid (kf.old (.cells (stC g k r ik ii mv) 100 (0, 0)))
  have Kg := hid (hk.old (.cells (stC g k r ik ii mv) 100 (0, 0)))
  have hfl := kf.lt
  have hgl := hk.lt
  clear kf hk
  go_enter Try.func56, Try.ntmps56
  go_wp2_with fail
  refine FlowB.wp_region_butIn [f] (fun wz => Blk wz f #[.int .i64 fg, .int .i64 fk, .int .i64 fh] 96) 12 [0, 1, 2, 3, 4, 5, 6, 7, 8, 9, 10] [] [(.c 11, [], [])] (by kernel_rfl) (by kernel_rfl) Kf.out (fun _ _ h hb => h.below hb) ?_
  apply Exists.intro
  refine ⟨fun w0 hb0 hF0 => ?_, ?_⟩
  · skip
    have y0 : ∀ w', (∃ x : Ext w0, w' = x.at_) → w'.cell? ⟨s, 10, none⟩ = some (.pointer (some ⟨f, 0, none⟩)) := fun w' ⟨x, hx⟩ => by rw [hx, ((hb0.blk Kg.out (by simpa using hsf)).below x.same).cell]; exact hcg
    have z0 : ∀ w', (∃ x : Ext w0, w' = x.at_) → w'.cell? ⟨w.heap.size, 0, none⟩ = some (.int .i64 g) := fun w' ⟨x, hx⟩ => by rw [hx, ((hb0.blk Ks.out (by simp; omega)).below x.same).cell]; rfl
    have z1 : ∀ w', (∃ x : Ext w0, w' = x.at_) → w'.cell? ⟨w.heap.size, 1, none⟩ = some (.int .i64 k) := fun w' ⟨x, hx⟩ => by rw [hx, ((hb0.blk Ks.out (by simp; omega)).below x.same).cell]; rfl
    have z2 : ∀ w', (∃ x : Ext w0, w' = x.at_) → w'.cell? ⟨w.heap.size, 2, none⟩ = some (.int .i64 r) := fun w' ⟨x, hx⟩ => by rw [hx, ((hb0.blk Ks.out (by simp; omega)).below x.same).cell]; rfl
    simp only [pick, List.getElem?_toArray, List.getElem?_cons_succ, List.getElem?_cons_zero, Option.toList_some, List.cons_append, List.nil_append]
    repeat (first | (go_big_quiet_want; refine quiet_load_one 57 _ rfl ⟨s, 10, none⟩ rfl _ y0 _ Try.underlying57 rfl ?_; go_big_quiet_on; simp only [Act.put, List.setIfInBounds_toArray, List.set_cons_zero, List.set_cons_succ]) | (go_big_quiet_want; refine quiet_load_one 3 _ rfl ⟨w.heap.size, 0, none⟩ rfl _ z0 _ Try.underlying3 rfl ?_; go_big_quiet_on; simp only [Act.put, List.setIfInBounds_toArray, List.set_cons_zero, List.set_cons_succ]) | (go_big_quiet_want; refine quiet_load_one 3 _ rfl ⟨w.heap.size, 1, none⟩ rfl _ z1 _ Try.underlying3 rfl ?_; go_big_quiet_on; simp only [Act.put, List.setIfInBounds_toArray, List.set_cons_zero, List.set_cons_succ]) | (go_big_quiet_want; refine quiet_load_one 3 _ rfl ⟨w.heap.size, 2, none⟩ rfl _ z2 _ Try.underlying3 rfl ?_; go_big_quiet_on; simp only [Act.put, List.setIfInBounds_toArray, List.set_cons_zero, List.set_cons_succ]) | go_big_quiet_step (fail))
    exact wpQuiet_nil rfl
  refine FlowB.AlChk.nil ?_
  refine FlowB.Walk.call rfl 68 #[.pointer (some ⟨f, 0, none⟩), .agg #[.int .i64 g, .int .i64 k, .int .i64 r]] (fun _ _ => True) (fun _ w' => Blk w' f #[.int .i64 (max fg g), .int .i64 (lk fk fh k r).1, .int .i64 (lk fk fh k r).2] 96) (fun _ _ _ _ _ _ => trivial) (fun _ _ _ h k => h.below k) rfl (fun w1 hb1 hF1 hG1 => ⟨by go_simp, ?_⟩) ?_
  · refine (raise_any f fg fk fh g k r w1 hG1).mono ?_
    rintro e w2 ⟨rfl, hb2, hk2⟩
    exact ⟨_, rfl, ButIn.of_but hb2 (by simp), trivial, hk2⟩
  rintro v1 w1 hb1 hF1 -
  apply Exists.intro
  refine ⟨fun w4 hb4 hF4 => wpQuiet_nil rfl, ?_⟩
  refine FlowB.AlChk.nil ?_
  refine FlowB.Walk.fin fun w9 h9 hF9 hG9 => ?_
  simp only [List.drop_succ_cons, List.drop_zero]
  have HG9 := hid hG9
  have HB9 := hid (But.trans (But.of Hb.out) (but_of_in h9))
  clear h9 hF9 hG9
  go_wp2_with fail
  go_returns
  exact ⟨by first | rfl | simp, HB9.out, HG9.out⟩
set_option maxHeartbeats 4000000 in
set_option maxRecDepth 100000 in
theorem sreplace_ok (w : World) (s q f p bb z n : Nat) (B : List Int) (af : Int) (kv tv mv0 : Value) (a0 T : Nat) (g k r ik ii g0 k0 r0 ik0 ii0 nx tt bt : Int) (ma : Option Addr) (mn mc : Nat) (m : List Int)
    (hk : Blk w s (sgC g0 k0 r0 ik0 ii0 mv0 nx tt bt q f false) 104) (kq : Blk w q (slC p a0 T tv false) 88) (hd : DkAt w p bb z n B (.slice none 0 0) true false af kv) (hT : TextO w [p, bb, q] ma mn mc m) (hmn : mn ≤ 200) (hz : 272 ≤ z) (ha : a0 + 2 ≤ n) (hu : T < 9223372036854775806) (hqp : q ≠ p ∧ q ≠ bb) (hs : s ≠ p ∧ s ≠ bb ∧ s ≠ q)
    (hg : 0 ≤ g ∧ g < 9223372036854775808) (hkk : 0 ≤ k ∧ k < 9223372036854775808) (hr : 0 ≤ r ∧ r < 9223372036854775808) (hik : 0 ≤ ik ∧ ik < 9223372036854775808) (hii : 0 ≤ ii ∧ ii < 9223372036854775808) :
    Calls Try.prog 57 #[.pointer (some ⟨s, 0, none⟩), .agg (stC g k r ik ii (.slice ma mn mc))] w fun e w' => e = .returned (.int .i64 0) ∧ FlowB.ButIn [p, bb, q, s] w w' ∧ Blk w' s (sgC g k r ik ii (.slice ma mn mc) nx tt bt q f false) 104 ∧ DkAt w' p bb z n (putS z (a0 + (T + 1) % 2) (slotB z (T + 1) (stB g k r ik ii m)) z B) (.slice none 0 0) true false af kv ∧ ∃ a c, Blk w' q (slC p a0 ((T : Int) + 1) (.slice a (54 + mn) c) false) 88 ∧ TextAt w' a (54 + mn) c (stB g k r ik ii m) ∧ ∀ x : Addr, a = some x → w.heap.size ≤ x.block := by
  have b1 := (Below.refl w.heap.size w).alloc (Nat.le_refl _) (.cells (stC g k r ik ii (.slice ma mn mc)) 100 (0, 0))
  have Kt := hid (Blk.new (w := w) (n := w.heap.size) rfl (stC g k r ik ii (.slice ma mn mc)) 100)
  have Hb := hid b1
  have hbz := b1.size
  have Hbs := hid (show w.heap.size + 1 = (w.alloc (.cells (stC g k r ik ii (.slice ma mn mc)) 100 (0, 0))).heap.size by simp only [World.size_alloc])
  clear b1 
  have Kg := hid (hk.old (.cells (stC g k r ik ii (.slice ma mn mc)) 100 (0, 0)))
  have Kq := hid (kq.old (.cells (stC g k r ik ii (.slice ma mn mc)) 100 (0, 0)))
  have HD := hid (hd.below Hb.out)
  have HT := hid (hT.butIn (ButIn.of_below Hb.out))
  have hgl := hk.lt
  have hql := kq.lt
  have hpl := hd.kp.lt
  have hbl := hd.kb.lt
  have hz2 := hd.z2
  have hml := hT.text.length
  clear kq hk hd hT
  go_enter Try.func57, Try.ntmps57
  go_wp2_with fail
  refine FlowB.wp_region_butIn [p, bb, q] (fun wz => DkAt wz p bb z n B (.slice none 0 0) true false af kv ∧ Blk wz q (slC p a0 T tv false) 88) 7 [0, 1, 2, 3, 4] [] [(.c 5, [], []), (.c 6, [], [])] (by kernel_rfl) (by kernel_rfl) ⟨HD.out, Kq.out⟩ (fun _ _ h hb => ⟨h.1.below hb, h.2.below hb⟩) ?_
  apply Exists.intro
  refine ⟨fun w0 hb0 hF0 => ?_, ?_⟩
  · skip
    have y0 : ∀ w', (∃ x : Ext w0, w' = x.at_) → w'.cell? ⟨s, 9, none⟩ = some (.pointer (some ⟨q, 0, none⟩)) := fun w' ⟨x, hx⟩ => by rw [hx, ((hb0.blk Kg.out (by simp only [List.mem_cons, List.not_mem_nil, or_false]; omega)).below x.same).cell]; rfl
    have x0 : ∀ w', (∃ x : Ext w0, w' = x.at_) → ∃ T, Blk w' (w.heap.size) (stC g k r ik ii (.slice ma mn mc)) T := fun w' ⟨x, hx⟩ => ⟨_, hx ▸ (hb0.blk Kt.out (by simp only [List.mem_cons, List.not_mem_nil, or_false]; omega)).below x.same⟩
    simp only [pick, List.getElem?_toArray, List.getElem?_cons_succ, List.getElem?_cons_zero, Option.toList_some, List.cons_append, List.nil_append]
    repeat (first | (go_big_quiet_want; refine quiet_load_one 47 _ rfl ⟨s, 9, none⟩ rfl _ y0 _ Try.underlying47 rfl ?_; go_big_quiet_on; simp only [Act.put, List.setIfInBounds_toArray, List.set_cons_zero, List.set_cons_succ]) | (go_big_quiet_want; refine quiet_load_blk 100 _ rfl (w.heap.size) rfl _ x0 _ Try.underlying100 rfl 6 size_state rfl ?_; go_big_quiet_on; simp only [Act.put, List.setIfInBounds_toArray, List.set_cons_zero, List.set_cons_succ]) | go_big_quiet_step (fail))
    exact wpQuiet_nil rfl
  refine FlowB.AlChk.nil ?_
  refine FlowB.Walk.call rfl 69 #[.agg (stC g k r ik ii (.slice ma mn mc))] (fun v w' => ∃ a c, v = .slice a (54 + mn) c ∧ TextO w' [p, bb, q] a (54 + mn) c (stB g k r ik ii m)) (fun _ wz => DkAt wz p bb z n B (.slice none 0 0) true false af kv ∧ Blk wz q (slC p a0 T tv false) 88) (fun v w' w'' hb h k => by obtain ⟨a, c, h1, h2⟩ := h; exact ⟨a, c, h1, h2.butIn k⟩) (fun _ _ _ h k => ⟨h.1.below k, h.2.below k⟩) rfl (fun w1 hb1 hF1 hG1 => ⟨by go_simp, ?_⟩) ?_
  · refine (sbytes_any g k r ik ii ma mn mc m w1 (HT.out.butIn hb1).text (by omega) hg hkk hr hik hii).mono ?_
    rintro e w2 ⟨a, c, rfl, b2, t2, o2⟩
    have hs1 := hb1.size
    have hs0 := Hb.out.size
    exact ⟨_, rfl, ButIn.of_below b2, ⟨a, c, rfl, t2, fun x hx => by have := o2 x hx; simp only [List.mem_cons, List.not_mem_nil, or_false]; omega⟩, hG1.1.below b2, hG1.2.below b2⟩
  rintro v1 w1 hb1 hF1 ⟨a5, c5, rfl, -⟩
  apply Exists.intro
  refine ⟨fun w4 hb4 hF4 => wpQuiet_nil rfl, ?_⟩
  refine FlowB.AlChk.nil ?_
  refine FlowB.Walk.call rfl 24 #[.pointer (some ⟨q, 0, none⟩), .slice a5 (54 + mn) c5] (fun v _ => v = .int .i64 0) (fun _ w' => DkAt w' p bb z n (putS z (a0 + (T + 1) % 2) (slotB z (T + 1) (stB g k r ik ii m)) z B) (.slice none 0 0) true false af kv ∧ ∃ a c, Blk w' q (slC p a0 ((T : Int) + 1) (.slice a (54 + mn) c) false) 88 ∧ TextAt w' a (54 + mn) c (stB g k r ik ii m) ∧ ∀ x : Addr, a = some x → w.heap.size ≤ x.block) (fun _ _ _ _ h _ => h) (fun _ _ _ h k => ⟨h.1.below k, by obtain ⟨a, c, h1, h2, h3⟩ := h.2; exact ⟨a, c, h1.below k, h2.below k, h3⟩⟩) rfl (fun w1 hb1 hF1 hG1 => ⟨by go_simp, ?_⟩) ?_
  · obtain ⟨a6, c6, hq6, ht6⟩ := hF1.2
    cases hq6
    refine (replace_ok w1 q p bb z n B af kv a0 T tv a5 (54 + mn) c5 (stB g k r ik ii m) hG1.1 hG1.2 ht6 (by omega) ha hu hqp).mono ?_
    rintro e w2 ⟨rfl, b2, d2, a, c, k2, t2, o2⟩
    have hs1 := hb1.size
    have hs0 := Hb.out.size
    exact ⟨_, rfl, b2, rfl, d2, a, c, k2, t2, fun x hx => by have := o2 x hx; omega⟩
  rintro v2 w2 hb2 hF2 rfl
  apply Exists.intro
  refine ⟨fun w4 hb4 hF4 => wpQuiet_nil rfl, ?_⟩
  refine FlowB.AlChk.nil ?_
  refine FlowB.Walk.fin fun w9 h9 hF9 hG9 => ?_
  simp only [List.drop_succ_cons, List.drop_zero]
  have HG9 := hid hG9
  have HX9 := hid (ButIn.on (ButIn.of_below Hb.out) h9)
  have Kg9 := hid (h9.blk Kg.out (by simp only [List.mem_cons, List.not_mem_nil, or_false]; omega))
  have Kt9 := hid (h9.blk Kt.out (by simp only [List.mem_cons, List.not_mem_nil, or_false]; omega))
  clear h9 hF9 hG9
  go_wp2_with (first
     | (refine wpList_load_blk rfl 100 _ rfl (w.heap.size) rfl _ 100 Kt9.out _ Try.underlying100 rfl 6 size_state rfl ?_)
     | (
        refine wpList_store_mid rfl 100 _ _ rfl s 0 (stC g k r ik ii (.slice ma mn mc)) rfl rfl _ 104 Kg9.out (by simp [stC, sgC]) (size_state' _ _ _ _ _ _ _ _) (stC_ones _ _ _ _ _ _ _ _) ?_
        intro w10 hb10 hk10
        have Kg10 := hid (show Blk w10 s (sgC g k r ik ii (.slice ma mn mc) nx tt bt q f false) 104 from hk10)
        have HB10 := hid hb10
        clear hb10 hk10))
  obtain ⟨d9, a9, c9, k9, t9, o9⟩ := HG9.out
  have hs9 := Hb.out.size
  go_returns
  refine ⟨rfl, ButIn.on (ButIn.wide HX9.out (by simp)) (ButIn.of_but HB10.out (by simp)), Kg10.out, d9.but HB10.out (by omega) (by omega), a9, c9, HB10.out.blk k9 (by omega), t9.butIn (S := [s]) (fun x hx => by have := o9 x hx; simp; omega) (ButIn.of_but HB10.out (by simp)), o9⟩
end Go.Proofs.Ytmpgnpkodapidaa
