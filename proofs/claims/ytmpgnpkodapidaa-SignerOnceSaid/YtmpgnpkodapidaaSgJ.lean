/-
  Layer 15: a signer rolls to the next key (nothing fails).
-/
import Derived.Test.YtmpgnpkodapidaaSgI
namespace Go.Proofs.Ytmpgnpkodapidaa
open Go.ChangeShapes Go.WideShapes Go.ChangeAt Go.RowKit

set_option maxHeartbeats 4000000 in
set_option maxRecDepth 100000 in
theorem roll_new (w : World) (s q f p bb T : Nat) (g k r ik ii : Int) (m : List Int) (nx tt bt : Int) (ma : Option Addr) (mn mc : Nat) (mm : List Int) (h : SgAt w s q f p bb T g k r ik ii m nx tt bt) (hT : TextO w [p, bb, q, f, s] ma mn mc mm) (h1 : 1 ≤ mn) (h2 : mn ≤ 200) (hq : ¬ m = mm) (hsp : nx ≤ tt - 1) (hT1 : T + 1 < 1000000) (hk1 : k + 1 < 1000000) :
    Calls Try.prog 31 #[.pointer (some ⟨s, 0, none⟩), .slice ma mn mc] w fun e w' => e = .returned (.tuple #[.int .i64 k, .int .i64 nx, .int .i64 0]) ∧ FlowB.ButIn [p, bb, q, f, s] w w' ∧ SgAt w' s q f p bb (T + 1) g (k + 1) 0 k nx mm 0 tt bt := by
  have H := hid h
  have HT := hid hT
  obtain ⟨oa, oc, hsg, ho⟩ := h.sg
  have Ks := hid hsg
  have HO := hid ho
  have hbt := h.btt
  have hbb := h.bbt
  have hbn := h.bn
  have hbr := h.br
  have hbk := h.bk
  have hbg := h.bg
  have hml := hT.text.length
  have hsl := hsg.lt
  have hrk := h.bik
  have hri := h.bii
  obtain ⟨tv, kq⟩ := h.sl
  obtain ⟨fg, fk, fh, kf⟩ := h.fe
  obtain ⟨B, af, kv, hd⟩ := h.dk
  have Kq := hid kq
  have Kf := hid kf
  have HD := hid hd
  have hql := kq.lt
  have hfl := kf.lt
  have hpl := hd.kp.lt
  have hbl := hd.kb.lt
  have nsp := h.nsp
  have nsb := h.nsb
  have nsq := h.nsq
  have nsf := h.nsf
  have nfp := h.nfp
  have nfb := h.nfb
  have nfq := h.nfq
  have nqp := h.nqp
  have nqb := h.nqb
  have htb := h.tb
  clear kq kf hd
  have Hb := hid (Below.refl w.heap.size w)
  clear h hT hsg ho
  go_enter Try.func31, Try.ntmps31
  go_wp2_with fail
  refine (refuse_ok w s g k r ik ii (.slice oa m.length oc) nx tt bt q f ma mn mc Ks.out h1 h2).mono ?_
  rintro e w1 ⟨rfl, b1⟩
  have Ks1 := hid (Ks.out.below b1)
  have HB1 := hid b1
  have HO1 := hid (HO.out.butIn (ButIn.of_below b1))
  have HT1 := hid (HT.out.butIn (ButIn.of_below b1))
  have hs1 := b1.size
  clear b1
  go_wp2_with fail
  refine (again_any w1 s g k r ik ii nx tt bt q f false oa ma m.length oc mn mc m mm Ks1.out HO1.out.text HT1.out.text).mono ?_
  rintro e w2 ⟨rfl, b2⟩
  rw [decide_eq_false hq]
  have Ks2 := hid (Ks1.out.below b2)
  have HB2 := hid (Below.on HB1.out b2)
  have HT2 := hid (HT1.out.butIn (ButIn.of_below b2))
  have hs2 := HB2.out.size
  clear b2
  go_wp2_with fail
  refine wp_region_flow 10 (List.range 10) [] [] (by kernel_rfl) (by kernel_rfl) ?_
  apply Exists.intro
  refine ⟨fun w0 hb0 hF0 => ?_, ?_⟩
  · skip
    have y6 : ∀ w', (∃ x : Ext w0, w' = x.at_) → w'.cell? ⟨s, 6, none⟩ = some (.int .i64 nx) := fun w' ⟨x, hx⟩ => by rw [hx, ((Ks2.out.below hb0).below x.same).cell]; rfl
    have y7 : ∀ w', (∃ x : Ext w0, w' = x.at_) → w'.cell? ⟨s, 7, none⟩ = some (.int .i64 tt) := fun w' ⟨x, hx⟩ => by rw [hx, ((Ks2.out.below hb0).below x.same).cell]; rfl
    simp only [pick, List.range, List.range.loop, List.getElem?_toArray, List.getElem?_cons_succ, List.getElem?_cons_zero, Option.toList_some, List.cons_append, List.nil_append]
    repeat (first | (go_big_quiet_want; refine quiet_load_one 3 _ rfl ⟨s, 6, none⟩ rfl _ y6 _ Try.underlying3 rfl ?_; go_big_quiet_on; simp only [Act.put, List.setIfInBounds_toArray, List.set_cons_zero, List.set_cons_succ]) | (go_big_quiet_want; refine quiet_load_one 3 _ rfl ⟨s, 7, none⟩ rfl _ y7 _ Try.underlying3 rfl ?_; go_big_quiet_on; simp only [Act.put, List.setIfInBounds_toArray, List.set_cons_zero, List.set_cons_succ]) | go_big_quiet_step (fail))
    exact wpQuiet_nil rfl
  refine AlChk.nil ?_
  refine Walk.fin fun wa hwa _ _ => ?_
  simp only [List.drop_succ_cons, List.drop_zero]
  have Ks2a := hid (Ks2.out.below hwa)
  have HB2a := hid (Below.on HB2.out hwa)
  have HT2a := hid (HT2.out.butIn (ButIn.of_below hwa))
  have hs2a := hwa.size
  clear hwa
  have qs : ¬ tt - 1 < nx := by omega
  go_wp2_with fail
  refine wp_region_flow 25 [0, 1, 2, 3, 4, 5, 6, 7, 8, 9, 10, 11, 12, 13, 14, 15, 16, 17, 18, 19, 20] [24] [(.c 21, [22, 23], []), (.b 24, [], [])] (by kernel_rfl) (by kernel_rfl) ?_
  apply Exists.intro
  refine ⟨fun w0 hb0 hF0 => ?_, ?_⟩
  · skip
    have y0 : ∀ w', (∃ x : Ext w0, w' = x.at_) → w'.cell? ⟨s, 0, none⟩ = some (.int .i64 g) := fun w' ⟨x, hx⟩ => by rw [hx, ((Ks2a.out.below hb0).below x.same).cell]; rfl
    have y1 : ∀ w', (∃ x : Ext w0, w' = x.at_) → w'.cell? ⟨s, 1, none⟩ = some (.int .i64 k) := fun w' ⟨x, hx⟩ => by rw [hx, ((Ks2a.out.below hb0).below x.same).cell]; rfl
    have y6 : ∀ w', (∃ x : Ext w0, w' = x.at_) → w'.cell? ⟨s, 6, none⟩ = some (.int .i64 nx) := fun w' ⟨x, hx⟩ => by rw [hx, ((Ks2a.out.below hb0).below x.same).cell]; rfl
    simp only [pick, List.getElem?_toArray, List.getElem?_cons_succ, List.getElem?_cons_zero, Option.toList_some, List.cons_append, List.nil_append]
    repeat (first | (go_big_quiet_want; refine quiet_load_one 3 _ rfl ⟨s, 0, none⟩ rfl _ y0 _ Try.underlying3 rfl ?_; go_big_quiet_on; simp only [Act.put, List.setIfInBounds_toArray, List.set_cons_zero, List.set_cons_succ]) | (go_big_quiet_want; refine quiet_load_one 3 _ rfl ⟨s, 1, none⟩ rfl _ y1 _ Try.underlying3 rfl ?_; go_big_quiet_on; simp only [Act.put, List.setIfInBounds_toArray, List.set_cons_zero, List.set_cons_succ]) | (go_big_quiet_want; refine quiet_load_one 3 _ rfl ⟨s, 6, none⟩ rfl _ y6 _ Try.underlying3 rfl ?_; go_big_quiet_on; simp only [Act.put, List.setIfInBounds_toArray, List.set_cons_zero, List.set_cons_succ]) | go_big_quiet_step (fail))
    exact wpQuiet_nil rfl
  refine AlChk.one rfl (fun b => .pointer (some ⟨b, 0, none⟩)) (.cells (stC 0 0 0 0 0 (.slice none 0 0)) 100 (0, 0)) rfl (fun w3 hb3 hF3 => by go_simp; rfl) ?_
  refine AlChk.nil ?_
  refine Walk.call rfl 42 #[.slice ma mn mc] (fun v w' => ∃ a c, v = .slice a mn c ∧ TextAt w' a mn c mm ∧ ∀ p : Addr, a = some p → wa.heap.size ≤ p.block ∧ ∃ cs, w'.heap[p.block]? = some (.cells cs 5 (0, 0))) (fun v w' w'' h k => by obtain ⟨a, c, h1, h2, h3⟩ := h; exact ⟨a, c, h1, h2.below k, fun p hp => ⟨(h3 p hp).1, by obtain ⟨cs, hc⟩ := (h3 p hp).2; exact ⟨cs, by rw [k.block _ (by rcases Nat.lt_or_ge p.block w'.heap.size with hh | hh; exact hh; rw [Array.getElem?_eq_none hh] at hc; simp at hc)]; exact hc⟩⟩⟩) rfl (fun w1' hb1 hF1 => ⟨by go_simp, ?_⟩) ?_
  · refine (clone_any (HT2a.out.text.below hb1) (by omega)).mono ?_
    rintro e w3' ⟨a', c', rfl, hb3, ht3, ho3⟩
    exact ⟨_, rfl, hb3, a', c', rfl, ht3, fun p hp => ⟨Nat.le_trans hb1.size (ho3 p hp).1, (ho3 p hp).2⟩⟩
  rintro v1 w1' hb1 hF1 ⟨a3, c3, rfl, -⟩
  apply Exists.intro
  refine ⟨fun w4 hb4 hF4 => ?_, ?_⟩
  · skip
    simp only [pick, List.getElem?_toArray, List.getElem?_cons_succ, List.getElem?_cons_zero, Option.toList_some, List.cons_append, List.nil_append, Act.put, List.setIfInBounds_toArray, List.set_cons_zero, List.set_cons_succ]
    repeat (first | go_big_quiet_step (fail))
    exact wpQuiet_nil rfl
  refine AlChk.nil ?_
  refine Walk.blk rfl (fun b => .pointer (some ⟨b, 0, none⟩)) (.cells (stC 0 0 0 0 0 (.slice none 0 0)) 100 (0, 0)) (by simp) ?_
  intro tb wz hbz_ hFz hge _
  apply Exists.intro
  refine ⟨fun w4 hb4 hF4 => wpQuiet_nil rfl, ?_⟩
  refine AlChk.nil ?_
  refine Walk.fin fun w5 h5 hF5 _ => ?_
  simp only [List.drop_succ_cons, List.drop_zero]
  have kb5 : Blk w5 tb (stC 0 0 0 0 0 (.slice none 0 0)) 100 := hF5.2
  have Kt5 := hid kb5
  have htb5 := kb5.lt
  have HB5 := hid (Below.on HB2a.out h5)
  have Ks5 := hid (Ks2a.out.below h5)
  have hs5 := h5.size
  obtain ⟨a4, c4, hq4, ht4, ho4⟩ := hF5.1.2
  cases hq4
  have hne : ∀ x : Addr, a3 = some x → x.block ≠ tb := fun x hx e => by
    obtain ⟨-, cs, hc⟩ := ho4 x hx
    rw [e, hF5.2] at hc
    simp only [Option.some.injEq, Obj.cells.injEq] at hc
    exact absurd hc.2.1 (by decide)
  have HT5 := hid ht4
  have HO5 := hid (fun (x : Addr) (hx : a3 = some x) => (ho4 x hx).1)
  have HN5 := hid hne
  clear h5 hF5 ht4 ho4 kb5 hne hbz_ hFz
  go_wp2_with (first
     | (
        refine wpList_store_blk rfl 100 _ _ rfl tb (stC g (k + 1) 0 k nx (.slice a3 mn c3)) rfl rfl _ 100 Kt5.out 6 size_state rfl rfl (stC_ones _ _ _ _ _ _ _ _) ?_
        intro w6 hb6 hk6
        have Kt6 := hid hk6
        have HB6 := hid (hb6.below HB5.out (by have := HB5.out.size; omega) (by omega))
        have Ks6 := hid (hb6.blk Ks5.out (by omega))
        have HT6 := hid (show TextO w6 [p, bb, q, f, s] a3 mn c3 mm from ⟨HT5.out.butIn (S := [tb]) (fun x hx => by have := HN5.out x hx; simpa using this) (ButIn.of_but hb6 (by simp)), fun x hx => by have := HO5.out x hx; simp only [List.mem_cons, List.not_mem_nil, or_false]; omega⟩)
        have hs6 := hb6.size
        clear hb6 hk6)
     | (refine wpList_load_blk rfl 100 _ rfl tb rfl _ 100 Kt6.out _ Try.underlying100 rfl 6 size_state rfl ?_))
  refine (sraise_any w6 s f (sgC g k r ik ii (.slice oa m.length oc) nx tt bt q f false) (.slice a3 mn c3) g (k + 1) 0 k nx fg fk fh Ks6.out rfl (Kf.out.below HB6.out) nsf).mono ?_
  rintro e wd ⟨rfl, bd, kd⟩
  have Ksd := hid (bd.blk Ks6.out nsf)
  have Ktd := hid (bd.blk Kt6.out (by omega))
  have Kfd := hid kd
  have HXd := hid (show FlowB.ButIn [f] w wd from ButIn.on (ButIn.of_below HB6.out) (ButIn.of_but bd (by simp)))
  have HTd := hid (HT6.out.butIn (ButIn.of_but bd (by simp)))
  have hsd := bd.size
  clear bd kd Ks6 Kt6 HT6
  go_wp2_with (refine wpList_load_blk rfl 100 _ rfl tb rfl _ 100 Ktd.out _ Try.underlying100 rfl 6 size_state rfl ?_)
  refine (sreplace_ok wd s q f p bb 400 2 B af kv tv (.slice oa m.length oc) 0 T g (k + 1) 0 k nx g k r ik ii nx tt bt a3 mn c3 mm Ksd.out (HXd.out.blk Kq.out (by simp; omega)) (HD.out.butQ HXd.out (by omega) (by omega)) ⟨HTd.out.text, fun x hx => by have := HTd.out.out x hx; simp only [List.mem_cons, List.not_mem_nil, or_false] at this ⊢; omega⟩ h2 (by omega) (by omega) (by omega) ⟨by omega, by omega⟩ ⟨by omega, by omega, by omega⟩ ⟨by omega, by omega⟩ ⟨by omega, by omega⟩ ⟨by omega, by omega⟩ ⟨by omega, by omega⟩ ⟨by omega, by omega⟩).mono ?_
  rintro e w7 ⟨rfl, b7, k7, d7, a7, c7', q7, t7, o7⟩
  have Ks7 := hid k7
  have Kq7 := hid q7
  have HD7 := hid d7
  have Kf7 := hid (b7.blk Kfd.out (by simp; omega))
  have HX7 := hid (ButIn.on (S := [p, bb, q, f, s]) (ButIn.wide HXd.out (by simp)) (ButIn.wide b7 (by simp)))
  have HT7 := hid (show TextO w7 [p, bb, q, f, s] a3 mn c3 mm from ⟨HTd.out.text.butIn (fun x hx => by have := HTd.out.out x hx; simp only [List.mem_cons, List.not_mem_nil, or_false] at this ⊢; omega) b7, HTd.out.out⟩)
  clear b7 k7 d7 q7 t7 o7
  go_wp2_with (
        refine wpList_store_cell rfl 3 _ _ rfl s 6 (.int .i64 0) rfl rfl rfl rfl _ 104 Ks7.out (by simp [sgC]) size_dint ?_
        intro w8 hb8 hk8
        have Ks8 := hid (show Blk w8 s (sgC g (k + 1) 0 k nx (.slice a3 mn c3) 0 tt bt q f false) 104 from hk8)
        have HB8 := hid hb8
        clear hb8 hk8)
  try simp only [Act.put]
  refine wp_region_flow 13 (List.range 13) [] [] (by kernel_rfl) (by kernel_rfl) ?_
  apply Exists.intro
  refine ⟨fun w0 hb0 hF0 => ?_, ?_⟩
  · skip
    have y3 : ∀ w', (∃ x : Ext w0, w' = x.at_) → w'.cell? ⟨s, 3, none⟩ = some (.int .i64 k) := fun w' ⟨x, hx⟩ => by rw [hx, ((Ks8.out.below hb0).below x.same).cell]; rfl
    have y4 : ∀ w', (∃ x : Ext w0, w' = x.at_) → w'.cell? ⟨s, 4, none⟩ = some (.int .i64 nx) := fun w' ⟨x, hx⟩ => by rw [hx, ((Ks8.out.below hb0).below x.same).cell]; rfl
    simp only [pick, List.range, List.range.loop, List.getElem?_toArray, List.getElem?_cons_succ, List.getElem?_cons_zero, Option.toList_some, List.cons_append, List.nil_append]
    repeat (first | (go_big_quiet_want; refine quiet_load_one 3 _ rfl ⟨s, 3, none⟩ rfl _ y3 _ Try.underlying3 rfl ?_; go_big_quiet_on; simp only [Act.put, List.setIfInBounds_toArray, List.set_cons_zero, List.set_cons_succ]) | (go_big_quiet_want; refine quiet_load_one 3 _ rfl ⟨s, 4, none⟩ rfl _ y4 _ Try.underlying3 rfl ?_; go_big_quiet_on; simp only [Act.put, List.setIfInBounds_toArray, List.set_cons_zero, List.set_cons_succ]) | go_big_quiet_step (fail))
    exact wpQuiet_nil rfl
  refine AlChk.nil ?_
  refine Walk.fin fun wz hz _ _ => ?_
  simp only [List.drop_succ_cons, List.drop_zero]
  have HZ := hid hz
  clear hz
  go_wp2_with fail
  go_returns
  have hlen : mm.length = mn := hml
  have hsz := H.out
  subst hlen
  refine ⟨rfl, ButIn.on HX7.out (ButIn.on (ButIn.of_but HB8.out (by simp)) (ButIn.of_below HZ.out)), ?_⟩
  exact ⟨⟨a3, c3, Ks8.out.below HZ.out, (HT7.out.butIn (ButIn.of_but HB8.out (by simp))).butIn (ButIn.of_below HZ.out)⟩, ⟨_, (HB8.out.blk Kq7.out (by omega)).below HZ.out⟩, ⟨_, _, _, (HB8.out.blk Kf7.out (by omega)).below HZ.out⟩, ⟨_, _, _, (HD7.out.but HB8.out (by omega) (by omega)).below HZ.out⟩, hsz.nsp, hsz.nsb, hsz.nsq, hsz.nsf, hsz.nfp, hsz.nfb, hsz.nfq, hsz.nqp, hsz.nqb, h2, by omega, hsz.bg, ⟨by omega, by omega⟩, ⟨by omega, by omega⟩, hsz.bk, ⟨by omega, by omega⟩, ⟨by omega, by omega⟩, hsz.btt, hsz.bbt⟩
end Go.Proofs.Ytmpgnpkodapidaa
