/-
  Layer 15: a signer deals an index (nothing fails).
-/
import Derived.Test.YtmpgnpkodapidaaSgH
namespace Go.Proofs.Ytmpgnpkodapidaa
open Go.ChangeShapes Go.WideShapes Go.ChangeAt Go.RowKit

theorem size_intent : (Try.prog.info? 98).map (·.size) = some 3 := by kernel_rfl
/-- A signer that goes on: its cells, its slots, its fence, its disk. -/
structure SgAt (w : World) (s q f p bb T : Nat) (g k r ik ii : Int) (m : List Int) (nx tt bt : Int) : Prop where
  sg : ∃ ma mc, Blk w s (sgC g k r ik ii (.slice ma m.length mc) nx tt bt q f false) 104 ∧ TextO w [p, bb, q, f, s] ma m.length mc m
  sl : ∃ tv, Blk w q (slC p 0 T tv false) 88
  fe : ∃ fg fk fh, Blk w f #[.int .i64 fg, .int .i64 fk, .int .i64 fh] 96
  dk : ∃ B af kv, DkAt w p bb 400 2 B (.slice none 0 0) true false af kv
  nsp : s ≠ p
  nsb : s ≠ bb
  nsq : s ≠ q
  nsf : s ≠ f
  nfp : f ≠ p
  nfb : f ≠ bb
  nfq : f ≠ q
  nqp : q ≠ p
  nqb : q ≠ bb
  ml : m.length ≤ 200
  tb : T < 1000000
  bg : 0 ≤ g ∧ g < 1000000
  bk : 0 ≤ k ∧ k < 1000000
  br : 0 ≤ r ∧ r < 1000000
  bik : 0 ≤ ik ∧ ik < 1000000
  bii : 0 ≤ ii ∧ ii < 1000000
  bn : 0 ≤ nx ∧ nx < 1000000
  btt : 2 ≤ tt ∧ tt ≤ 65536
  bbt : 1 ≤ bt ∧ bt ≤ 16
theorem TextO.butF {w w' : World} {S : List Nat} {b : Nat} {a : Option Addr} {n c : Nat} {t : List Int} (h : TextO w S a n c t) (hb : But b w w') (hlt : ∀ p : Addr, a = some p → p.block ≠ b) : TextO w' S a n c t :=
  ⟨h.text.butIn (S := [b]) (fun p hp => by simpa using hlt p hp) (ButIn.of_but hb (by simp)), h.out⟩
set_option maxHeartbeats 4000000 in
set_option maxRecDepth 100000 in
theorem deal_again (w : World) (s q f p bb T : Nat) (g k r ik ii : Int) (m : List Int) (nx tt bt : Int) (ma : Option Addr) (mn mc : Nat) (mm : List Int) (h : SgAt w s q f p bb T g k r ik ii m nx tt bt) (hT : TextO w [p, bb, q, f, s] ma mn mc mm) (h1 : 1 ≤ mn) (h2 : mn ≤ 200) (hq : m = mm) :
    Calls Try.prog 30 #[.pointer (some ⟨s, 0, none⟩), .slice ma mn mc] w fun e w' => e = .returned (.tuple #[.int .i64 ik, .int .i64 ii, .int .i64 0]) ∧ Below w.heap.size w w' := by
  have H := hid h
  have HT := hid hT
  obtain ⟨oa, oc, hsg, ho⟩ := h.sg
  have Ks := hid hsg
  have HO := hid ho
  have hbt := h.btt
  have hbb := h.bbt
  have hbn := h.bn
  have hbr := h.br
  have hbk := h.bk
  have hbg := h.bg
  have hml := hT.text.length
  have hsl := hsg.lt
  have hrk := h.bik
  have hri := h.bii
  obtain ⟨tv, kq⟩ := h.sl
  obtain ⟨fg, fk, fh, kf⟩ := h.fe
  obtain ⟨B, af, kv, hd⟩ := h.dk
  have Kq := hid kq
  have Kf := hid kf
  have HD := hid hd
  have hql := kq.lt
  have hfl := kf.lt
  have hpl := hd.kp.lt
  have hbl := hd.kb.lt
  have nsp := h.nsp
  have nsb := h.nsb
  have nsq := h.nsq
  have nsf := h.nsf
  have nfp := h.nfp
  have nfb := h.nfb
  have nfq := h.nfq
  have nqp := h.nqp
  have nqb := h.nqb
  have htb := h.tb
  clear kq kf hd
  have Hb := hid (Below.refl w.heap.size w)
  clear h hT hsg ho
  go_enter Try.func30, Try.ntmps30
  go_wp2_with fail
  refine (refuse_ok w s g k r ik ii (.slice oa m.length oc) nx tt bt q f ma mn mc Ks.out h1 h2).mono ?_
  rintro e w1 ⟨rfl, b1⟩
  have Ks1 := hid (Ks.out.below b1)
  have HB1 := hid b1
  have HO1 := hid (HO.out.butIn (ButIn.of_below b1))
  have HT1 := hid (HT.out.butIn (ButIn.of_below b1))
  have hs1 := b1.size
  clear b1
  go_wp2_with fail
  refine (again_any w1 s g k r ik ii nx tt bt q f false oa ma m.length oc mn mc m mm Ks1.out HO1.out.text HT1.out.text).mono ?_
  rintro e w2 ⟨rfl, b2⟩
  rw [decide_eq_true hq]
  have Ks2 := hid (Ks1.out.below b2)
  have HB2 := hid (Below.on HB1.out b2)
  have HT2 := hid (HT1.out.butIn (ButIn.of_below b2))
  have hs2 := HB2.out.size
  clear b2
  go_wp2_with fail
  refine wp_region_flow 13 (List.range 13) [] [] (by kernel_rfl) (by kernel_rfl) ?_
  apply Exists.intro
  refine ⟨fun w0 hb0 hF0 => ?_, ?_⟩
  · skip
    have y3 : ∀ w', (∃ x : Ext w0, w' = x.at_) → w'.cell? ⟨s, 3, none⟩ = some (.int .i64 ik) := fun w' ⟨x, hx⟩ => by rw [hx, ((Ks2.out.below hb0).below x.same).cell]; rfl
    have y4 : ∀ w', (∃ x : Ext w0, w' = x.at_) → w'.cell? ⟨s, 4, none⟩ = some (.int .i64 ii) := fun w' ⟨x, hx⟩ => by rw [hx, ((Ks2.out.below hb0).below x.same).cell]; rfl
    simp only [pick, List.range, List.range.loop, List.getElem?_toArray, List.getElem?_cons_succ, List.getElem?_cons_zero, Option.toList_some, List.cons_append, List.nil_append]
    repeat (first | (go_big_quiet_want; refine quiet_load_one 3 _ rfl ⟨s, 3, none⟩ rfl _ y3 _ Try.underlying3 rfl ?_; go_big_quiet_on; simp only [Act.put, List.setIfInBounds_toArray, List.set_cons_zero, List.set_cons_succ]) | (go_big_quiet_want; refine quiet_load_one 3 _ rfl ⟨s, 4, none⟩ rfl _ y4 _ Try.underlying3 rfl ?_; go_big_quiet_on; simp only [Act.put, List.setIfInBounds_toArray, List.set_cons_zero, List.set_cons_succ]) | go_big_quiet_step (fail))
    exact wpQuiet_nil rfl
  refine AlChk.nil ?_
  refine Walk.fin fun wz hz _ _ => ?_
  simp only [List.drop_succ_cons, List.drop_zero]
  have HZ := hid hz
  clear hz
  go_wp2_with fail
  go_returns
  exact ⟨rfl, Below.on HB2.out HZ.out⟩
set_option maxHeartbeats 4000000 in
set_option maxRecDepth 100000 in
theorem deal_spent (w : World) (s q f p bb T : Nat) (g k r ik ii : Int) (m : List Int) (nx tt bt : Int) (ma : Option Addr) (mn mc : Nat) (mm : List Int) (h : SgAt w s q f p bb T g k r ik ii m nx tt bt) (hT : TextO w [p, bb, q, f, s] ma mn mc mm) (h1 : 1 ≤ mn) (h2 : mn ≤ 200) (hq : ¬ m = mm) (hsp : tt - 1 ≤ nx) :
    Calls Try.prog 30 #[.pointer (some ⟨s, 0, none⟩), .slice ma mn mc] w fun e w' => e = .returned (.tuple #[.int .i64 0, .int .i64 0, .int .i64 6]) ∧ Below w.heap.size w w' := by
  have H := hid h
  have HT := hid hT
  obtain ⟨oa, oc, hsg, ho⟩ := h.sg
  have Ks := hid hsg
  have HO := hid ho
  have hbt := h.btt
  have hbb := h.bbt
  have hbn := h.bn
  have hbr := h.br
  have hbk := h.bk
  have hbg := h.bg
  have hml := hT.text.length
  have hsl := hsg.lt
  have hrk := h.bik
  have hri := h.bii
  obtain ⟨tv, kq⟩ := h.sl
  obtain ⟨fg, fk, fh, kf⟩ := h.fe
  obtain ⟨B, af, kv, hd⟩ := h.dk
  have Kq := hid kq
  have Kf := hid kf
  have HD := hid hd
  have hql := kq.lt
  have hfl := kf.lt
  have hpl := hd.kp.lt
  have hbl := hd.kb.lt
  have nsp := h.nsp
  have nsb := h.nsb
  have nsq := h.nsq
  have nsf := h.nsf
  have nfp := h.nfp
  have nfb := h.nfb
  have nfq := h.nfq
  have nqp := h.nqp
  have nqb := h.nqb
  have htb := h.tb
  clear kq kf hd
  have Hb := hid (Below.refl w.heap.size w)
  clear h hT hsg ho
  go_enter Try.func30, Try.ntmps30
  go_wp2_with fail
  refine (refuse_ok w s g k r ik ii (.slice oa m.length oc) nx tt bt q f ma mn mc Ks.out h1 h2).mono ?_
  rintro e w1 ⟨rfl, b1⟩
  have Ks1 := hid (Ks.out.below b1)
  have HB1 := hid b1
  have HO1 := hid (HO.out.butIn (ButIn.of_below b1))
  have HT1 := hid (HT.out.butIn (ButIn.of_below b1))
  have hs1 := b1.size
  clear b1
  go_wp2_with fail
  refine (again_any w1 s g k r ik ii nx tt bt q f false oa ma m.length oc mn mc m mm Ks1.out HO1.out.text HT1.out.text).mono ?_
  rintro e w2 ⟨rfl, b2⟩
  rw [decide_eq_false hq]
  have Ks2 := hid (Ks1.out.below b2)
  have HB2 := hid (Below.on HB1.out b2)
  have HT2 := hid (HT1.out.butIn (ButIn.of_below b2))
  have hs2 := HB2.out.size
  clear b2
  have c7 : w2.cell? ⟨s, 7, none⟩ = some (.int .i64 tt) := by rw [Ks2.out.cell]; rfl
  have c6 : w2.cell? ⟨s, 6, none⟩ = some (.int .i64 nx) := by rw [Ks2.out.cell]; rfl
  have qs : tt - 1 ≤ nx := hsp
  go_wp2_with fail
  go_returns
  exact ⟨rfl, HB2.out⟩
set_option maxHeartbeats 4000000 in
set_option maxRecDepth 100000 in
theorem deal_lo (w : World) (s q f p bb T : Nat) (g k r ik ii : Int) (m : List Int) (nx tt bt : Int) (ma : Option Addr) (mn mc : Nat) (mm : List Int) (h : SgAt w s q f p bb T g k r ik ii m nx tt bt) (hT : TextO w [p, bb, q, f, s] ma mn mc mm) (h1 : 1 ≤ mn) (h2 : mn ≤ 200) (hq : ¬ m = mm) (hsp : nx < tt - 1) (hT1 : T + 1 < 1000000) (hrn : r ≤ nx) (hm : r + bt ≤ tt - 1) :
    Calls Try.prog 30 #[.pointer (some ⟨s, 0, none⟩), .slice ma mn mc] w fun e w' => ∃ r', e = .returned (.tuple #[.int .i64 k, .int .i64 nx, .int .i64 0]) ∧ FlowB.ButIn [p, bb, q, f, s] w w' ∧ SgAt w' s q f p bb (T + 1) g k r' k nx mm (nx + 1) tt bt := by
  have H := hid h
  have HT := hid hT
  obtain ⟨oa, oc, hsg, ho⟩ := h.sg
  have Ks := hid hsg
  have HO := hid ho
  have hbt := h.btt
  have hbb := h.bbt
  have hbn := h.bn
  have hbr := h.br
  have hbk := h.bk
  have hbg := h.bg
  have hml := hT.text.length
  have hsl := hsg.lt
  have hrk := h.bik
  have hri := h.bii
  obtain ⟨tv, kq⟩ := h.sl
  obtain ⟨fg, fk, fh, kf⟩ := h.fe
  obtain ⟨B, af, kv, hd⟩ := h.dk
  have Kq := hid kq
  have Kf := hid kf
  have HD := hid hd
  have hql := kq.lt
  have hfl := kf.lt
  have hpl := hd.kp.lt
  have hbl := hd.kb.lt
  have nsp := h.nsp
  have nsb := h.nsb
  have nsq := h.nsq
  have nsf := h.nsf
  have nfp := h.nfp
  have nfb := h.nfb
  have nfq := h.nfq
  have nqp := h.nqp
  have nqb := h.nqb
  have htb := h.tb
  clear kq kf hd
  have Hb := hid (Below.refl w.heap.size w)
  clear h hT hsg ho
  go_enter Try.func30, Try.ntmps30
  go_wp2_with fail
  refine (refuse_ok w s g k r ik ii (.slice oa m.length oc) nx tt bt q f ma mn mc Ks.out h1 h2).mono ?_
  rintro e w1 ⟨rfl, b1⟩
  have Ks1 := hid (Ks.out.below b1)
  have HB1 := hid b1
  have HO1 := hid (HO.out.butIn (ButIn.of_below b1))
  have HT1 := hid (HT.out.butIn (ButIn.of_below b1))
  have hs1 := b1.size
  clear b1
  go_wp2_with fail
  refine (again_any w1 s g k r ik ii nx tt bt q f false oa ma m.length oc mn mc m mm Ks1.out HO1.out.text HT1.out.text).mono ?_
  rintro e w2 ⟨rfl, b2⟩
  rw [decide_eq_false hq]
  have Ks2 := hid (Ks1.out.below b2)
  have HB2 := hid (Below.on HB1.out b2)
  have HT2 := hid (HT1.out.butIn (ButIn.of_below b2))
  have hs2 := HB2.out.size
  clear b2
  have c7 : w2.cell? ⟨s, 7, none⟩ = some (.int .i64 tt) := by rw [Ks2.out.cell]; rfl
  have c6 : w2.cell? ⟨s, 6, none⟩ = some (.int .i64 nx) := by rw [Ks2.out.cell]; rfl
  have qs : ¬ tt - 1 ≤ nx := by omega
  go_wp2_with (first
     | (refine wpList_load_mid rfl 100 _ rfl s 0 rfl _ _ (show w2.rangeAt s 0 (stC g k r ik ii (.slice oa m.length oc)).toList from fun j u hu => by
        rw [Nat.zero_add, Ks2.out.cell]
        match j, hu with
        | 0, hu => exact hu
        | 1, hu => exact hu
        | 2, hu => exact hu
        | 3, hu => exact hu
        | 4, hu => exact hu
        | 5, hu => exact hu
        | n + 6, hu => simp [stC] at hu) Try.underlying100 rfl size_state ?_)
     | (
        refine wpList_store_blk rfl 100 _ _ rfl (w2.heap.size) (stC g k r ik ii (.slice oa m.length oc)) rfl rfl _ 100 (Blk.new rfl (stC 0 0 0 0 0 (.slice none 0 0)) _) 6 size_state rfl rfl (stC_ones _ _ _ _ _ _ _ _) ?_
        intro w3 hb3 hk3
        have h3 := hb3.below ((Below.refl w2.heap.size w2).alloc (Nat.le_refl _) _) (by simp only [World.size_alloc]; omega) (Nat.le_refl _)
        have HB3 := hid (Below.on HB2.out h3)
        have Ks3 := hid (Ks2.out.below h3)
        have HT3 := hid (HT2.out.butIn (ButIn.of_below h3))
        have Kt3 := hid hk3
        have hs3 := h3.size
        have ht3 := hk3.lt
        clear hb3 hk3 h3))
  simp only [Act.put]
  clear c7 c6
  refine wp_region_flow 10 (List.range 10) [] [] (by kernel_rfl) (by kernel_rfl) ?_
  apply Exists.intro
  refine ⟨fun w0 hb0 hF0 => ?_, ?_⟩
  · skip
    have y6 : ∀ w', (∃ x : Ext w0, w' = x.at_) → w'.cell? ⟨s, 6, none⟩ = some (.int .i64 nx) := fun w' ⟨x, hx⟩ => by rw [hx, ((Ks3.out.below hb0).below x.same).cell]; rfl
    have y2 : ∀ w', (∃ x : Ext w0, w' = x.at_) → w'.cell? ⟨s, 2, none⟩ = some (.int .i64 r) := fun w' ⟨x, hx⟩ => by rw [hx, ((Ks3.out.below hb0).below x.same).cell]; rfl
    simp only [pick, List.range, List.range.loop, List.getElem?_toArray, List.getElem?_cons_succ, List.getElem?_cons_zero, Option.toList_some, List.cons_append, List.nil_append]
    repeat (first | (go_big_quiet_want; refine quiet_load_one 3 _ rfl ⟨s, 6, none⟩ rfl _ y6 _ Try.underlying3 rfl ?_; go_big_quiet_on; simp only [Act.put, List.setIfInBounds_toArray, List.set_cons_zero, List.set_cons_succ]) | (go_big_quiet_want; refine quiet_load_one 3 _ rfl ⟨s, 2, none⟩ rfl _ y2 _ Try.underlying3 rfl ?_; go_big_quiet_on; simp only [Act.put, List.setIfInBounds_toArray, List.set_cons_zero, List.set_cons_succ]) | go_big_quiet_step (fail))
    exact wpQuiet_nil rfl
  refine AlChk.nil ?_
  refine Walk.fin fun wa hwa _ _ => ?_
  simp only [List.drop_succ_cons, List.drop_zero]
  have Kswa := hid (Ks3.out.below hwa)
  have Ktwa := hid (Kt3.out.below hwa)
  have HBwa := hid (Below.on HB3.out hwa)
  have HTwa := hid (HT3.out.butIn (ButIn.of_below hwa))
  have hswa := hwa.size
  clear hwa
  have qr : r ≤ nx := by omega
  go_wp2_with fail
  have qm : ¬ tt - 1 < r + bt := by omega
  refine wp_region_flow 12 (List.range 12) [] [] (by kernel_rfl) (by kernel_rfl) ?_
  apply Exists.intro
  refine ⟨fun w0 hb0 hF0 => ?_, ?_⟩
  · skip
    have y2 : ∀ w', (∃ x : Ext w0, w' = x.at_) → w'.cell? ⟨s, 2, none⟩ = some (.int .i64 r) := fun w' ⟨x, hx⟩ => by rw [hx, ((Kswa.out.below hb0).below x.same).cell]; rfl
    have y8 : ∀ w', (∃ x : Ext w0, w' = x.at_) → w'.cell? ⟨s, 8, none⟩ = some (.int .i64 bt) := fun w' ⟨x, hx⟩ => by rw [hx, ((Kswa.out.below hb0).below x.same).cell]; rfl
    simp only [pick, List.range, List.range.loop, List.getElem?_toArray, List.getElem?_cons_succ, List.getElem?_cons_zero, Option.toList_some, List.cons_append, List.nil_append]
    repeat (first | (go_big_quiet_want; refine quiet_load_one 3 _ rfl ⟨s, 2, none⟩ rfl _ y2 _ Try.underlying3 rfl ?_; go_big_quiet_on; simp only [Act.put, List.setIfInBounds_toArray, List.set_cons_zero, List.set_cons_succ]) | (go_big_quiet_want; refine quiet_load_one 3 _ rfl ⟨s, 8, none⟩ rfl _ y8 _ Try.underlying3 rfl ?_; go_big_quiet_on; simp only [Act.put, List.setIfInBounds_toArray, List.set_cons_zero, List.set_cons_succ]) | go_big_quiet_step (fail))
    exact wpQuiet_nil rfl
  refine AlChk.nil ?_
  refine Walk.fin fun wb hwb _ _ => ?_
  simp only [List.drop_succ_cons, List.drop_zero]
  have Kswb := hid (Kswa.out.below hwb)
  have Ktwb := hid (Ktwa.out.below hwb)
  have HBwb := hid (Below.on HBwa.out hwb)
  have HTwb := hid (HTwa.out.butIn (ButIn.of_below hwb))
  have hswb := hwb.size
  clear hwb
  go_wp2_with (first
     | (
        refine wpList_store_cell rfl 3 _ _ rfl (w2.heap.size) 2 (.int .i64 (r + bt)) rfl rfl rfl rfl _ 100 Ktwb.out (by simp [stC]) size_dint ?_
        intro wc hbc hkc
        have Ktc := hid (show Blk wc (w2.heap.size) (stC g k (r + bt) ik ii (.slice oa m.length oc)) 100 from hkc)
        have HBc := hid (hbc.below HBwb.out (by have := HBwb.out.size; omega) (by omega))
        have Ksc := hid (hbc.blk Kswb.out (by omega))
        have HTc := hid (show TextO wc [p, bb, q, f, s] ma mn mc mm from ⟨HT.out.text.below HBc.out, HT.out.out⟩)
        have hsc := hbc.size
        clear hbc hkc)
     | (refine wpList_load_blk rfl 100 _ rfl (w2.heap.size) rfl _ 100 Ktc.out _ Try.underlying100 rfl 6 size_state rfl ?_))
  refine (sraise_any wc s f (sgC g k r ik ii (.slice oa m.length oc) nx tt bt q f false) (.slice oa m.length oc) g k (r + bt) ik ii fg fk fh Ksc.out rfl (Kf.out.below HBc.out) nsf).mono ?_
  rintro e wd ⟨rfl, bd, kd⟩
  have Ksd := hid (bd.blk Ksc.out nsf)
  have Ktd := hid (bd.blk Ktc.out (by omega))
  have Kfd := hid kd
  have HXd := hid (But.trans (But.of HBc.out) bd)
  have HTd := hid (HTc.out.butIn (ButIn.of_but bd (by simp)))
  have hsd := bd.size
  clear bd kd Ksc Ktc HTc
  go_wp2_with fail
  refine wp_region_flow 12 [0, 1, 2, 3, 4, 5, 6, 7, 8, 9] [] [(.c 10, [11], [])] (by kernel_rfl) (by kernel_rfl) ?_
  apply Exists.intro
  refine ⟨fun w0 hb0 hF0 => ?_, ?_⟩
  · skip
    have y1 : ∀ w', (∃ x : Ext w0, w' = x.at_) → w'.cell? ⟨s, 1, none⟩ = some (.int .i64 k) := fun w' ⟨x, hx⟩ => by rw [hx, ((Ksd.out.below hb0).below x.same).cell]; rfl
    have y6 : ∀ w', (∃ x : Ext w0, w' = x.at_) → w'.cell? ⟨s, 6, none⟩ = some (.int .i64 nx) := fun w' ⟨x, hx⟩ => by rw [hx, ((Ksd.out.below hb0).below x.same).cell]; rfl
    simp only [pick, List.getElem?_toArray, List.getElem?_cons_succ, List.getElem?_cons_zero, Option.toList_some, List.cons_append, List.nil_append]
    repeat (first | (go_big_quiet_want; refine quiet_load_one 3 _ rfl ⟨s, 1, none⟩ rfl _ y1 _ Try.underlying3 rfl ?_; go_big_quiet_on; simp only [Act.put, List.setIfInBounds_toArray, List.set_cons_zero, List.set_cons_succ]) | (go_big_quiet_want; refine quiet_load_one 3 _ rfl ⟨s, 6, none⟩ rfl _ y6 _ Try.underlying3 rfl ?_; go_big_quiet_on; simp only [Act.put, List.setIfInBounds_toArray, List.set_cons_zero, List.set_cons_succ]) | go_big_quiet_step (fail))
    exact wpQuiet_nil rfl
  refine AlChk.nil ?_
  refine Walk.call rfl 42 #[.slice ma mn mc] (fun v w' => ∃ a c, v = .slice a mn c ∧ TextAt w' a mn c mm ∧ ∀ p : Addr, a = some p → wd.heap.size ≤ p.block) (fun v w' w'' h k => by obtain ⟨a, c, h1, h2, h3⟩ := h; exact ⟨a, c, h1, h2.below k, h3⟩) rfl (fun w1' hb1 hF1 => ⟨by go_simp, ?_⟩) ?_
  · refine (clone_any (HTd.out.text.below hb1) (by omega)).mono ?_
    rintro e w3' ⟨a', c', rfl, hb3, ht3, ho3⟩
    exact ⟨_, rfl, hb3, a', c', rfl, ht3, fun p hp => Nat.le_trans hb1.size (ho3 p hp).1⟩
  rintro v1 w1' hb1 hF1 ⟨a3, c3, rfl, -⟩
  apply Exists.intro
  refine ⟨fun w4 hb4 hF4 => ?_, ?_⟩
  · skip
    simp only [pick, List.getElem?_toArray, List.getElem?_cons_succ, List.getElem?_cons_zero, Option.toList_some, List.cons_append, List.nil_append, Act.put, List.setIfInBounds_toArray, List.set_cons_zero, List.set_cons_succ]
    repeat (first | go_big_quiet_step (fail))
    exact wpQuiet_nil rfl
  refine AlChk.nil ?_
  refine Walk.fin fun w5 h5 hF5 _ => ?_
  simp only [List.drop_succ_cons, List.drop_zero]
  have HX5 := hid (But.trans HXd.out (But.of h5))
  have Ks5 := hid (Ksd.out.below h5)
  have Kt5 := hid (Ktd.out.below h5)
  have Kf5 := hid (Kfd.out.below h5)
  have hs5 := h5.size
  obtain ⟨a4, c4, hq4, ht4, ho4⟩ := hF5.2
  cases hq4
  have HT5 := hid ht4
  have HO5 := hid ho4
  clear h5 hF5 ht4 ho4
  go_wp2_with (first
     | (
        refine wpList_store_mid rfl 98 _ _ rfl (w2.heap.size) 3 #[.int .i64 k, .int .i64 nx, .slice a3 mn c3] rfl rfl _ 100 Kt5.out (by simp [stC]) size_intent (by simp [Value.oneCell']) ?_
        intro w6 hb6 hk6
        have Kt6 := hid (show Blk w6 (w2.heap.size) (stC g k (r + bt) k nx (.slice a3 mn c3)) 100 from hk6)
        have Ks6 := hid (hb6.blk Ks5.out (by omega))
        have Kf6 := hid (hb6.blk Kf5.out (by omega))
        have HX6 := hid (show FlowB.ButIn [f] w w6 from ButIn.fresh (ButIn.of_but HX5.out (by simp)) hb6 (by omega))
        have HT6 := hid (show TextO w6 [p, bb, q, f, s] a3 mn c3 mm from ⟨HT5.out.butIn (S := [w2.heap.size]) (fun x hx => by have := HO5.out x hx; simp; omega) (ButIn.of_but hb6 (by simp)), fun x hx => by have := HO5.out x hx; simp only [List.mem_cons, List.not_mem_nil, or_false]; omega⟩)
        have hs6 := hb6.size
        clear hb6 hk6)
     | (refine wpList_load_blk rfl 100 _ rfl (w2.heap.size) rfl _ 100 Kt6.out _ Try.underlying100 rfl 6 size_state rfl ?_))
  refine (sreplace_ok w6 s q f p bb 400 2 B af kv tv (.slice oa m.length oc) 0 T g k (r + bt) k nx g k r ik ii nx tt bt a3 mn c3 mm Ks6.out (HX6.out.blk Kq.out (by simp; omega)) (HD.out.butQ HX6.out (by omega) (by omega)) ⟨HT6.out.text, fun x hx => by have := HT6.out.out x hx; simp only [List.mem_cons, List.not_mem_nil, or_false] at this ⊢; omega⟩ h2 (by omega) (by omega) (by omega) ⟨by omega, by omega⟩ ⟨by omega, by omega, by omega⟩ ⟨by omega, by omega⟩ ⟨by omega, by omega⟩ ⟨by omega, by omega⟩ ⟨by omega, by omega⟩ ⟨by omega, by omega⟩).mono ?_
  rintro e w7 ⟨rfl, b7, k7, d7, a7, c7', q7, t7, o7⟩
  have Ks7 := hid k7
  have Kq7 := hid q7
  have HD7 := hid d7
  have Kf7 := hid (b7.blk Kf6.out (by simp; omega))
  have HX7 := hid (ButIn.on (S := [p, bb, q, f, s]) (ButIn.wide HX6.out (by simp)) (ButIn.wide b7 (by simp)))
  have HT7 := hid (show TextO w7 [p, bb, q, f, s] a3 mn c3 mm from ⟨HT6.out.text.butIn (fun x hx => by have := HT6.out.out x hx; simp only [List.mem_cons, List.not_mem_nil, or_false] at this ⊢; omega) b7, HT6.out.out⟩)
  have c6 : w7.cell? ⟨s, 6, none⟩ = some (.int .i64 nx) := by rw [Ks7.out.cell]; rfl
  clear b7 k7 d7 q7 t7 o7
  go_wp2_with (
        refine wpList_store_cell rfl 3 _ _ rfl s 6 (.int .i64 (nx + 1)) rfl rfl rfl rfl _ 104 Ks7.out (by simp [sgC]) size_dint ?_
        intro w8 hb8 hk8
        have Ks8 := hid (show Blk w8 s (sgC g k (r + bt) k nx (.slice a3 mn c3) (nx + 1) tt bt q f false) 104 from hk8)
        have HB8 := hid hb8
        clear hb8 hk8 c6)
  try simp only [Act.put]
  refine wp_region_flow 13 (List.range 13) [] [] (by kernel_rfl) (by kernel_rfl) ?_
  apply Exists.intro
  refine ⟨fun w0 hb0 hF0 => ?_, ?_⟩
  · skip
    have y3 : ∀ w', (∃ x : Ext w0, w' = x.at_) → w'.cell? ⟨s, 3, none⟩ = some (.int .i64 k) := fun w' ⟨x, hx⟩ => by rw [hx, ((Ks8.out.below hb0).below x.same).cell]; rfl
    have y4 : ∀ w', (∃ x : Ext w0, w' = x.at_) → w'.cell? ⟨s, 4, none⟩ = some (.int .i64 nx) := fun w' ⟨x, hx⟩ => by rw [hx, ((Ks8.out.below hb0).below x.same).cell]; rfl
    simp only [pick, List.range, List.range.loop, List.getElem?_toArray, List.getElem?_cons_succ, List.getElem?_cons_zero, Option.toList_some, List.cons_append, List.nil_append]
    repeat (first | (go_big_quiet_want; refine quiet_load_one 3 _ rfl ⟨s, 3, none⟩ rfl _ y3 _ Try.underlying3 rfl ?_; go_big_quiet_on; simp only [Act.put, List.setIfInBounds_toArray, List.set_cons_zero, List.set_cons_succ]) | (go_big_quiet_want; refine quiet_load_one 3 _ rfl ⟨s, 4, none⟩ rfl _ y4 _ Try.underlying3 rfl ?_; go_big_quiet_on; simp only [Act.put, List.setIfInBounds_toArray, List.set_cons_zero, List.set_cons_succ]) | go_big_quiet_step (fail))
    exact wpQuiet_nil rfl
  refine AlChk.nil ?_
  refine Walk.fin fun wz hz _ _ => ?_
  simp only [List.drop_succ_cons, List.drop_zero]
  have HZ := hid hz
  clear hz
  go_wp2_with fail
  go_returns
  have hlen : mm.length = mn := hml
  have hsz := H.out
  subst hlen
  refine ⟨(r + bt), rfl, ButIn.on HX7.out (ButIn.on (ButIn.of_but HB8.out (by simp)) (ButIn.of_below HZ.out)), ?_⟩
  exact ⟨⟨a3, c3, Ks8.out.below HZ.out, (HT7.out.butIn (ButIn.of_but HB8.out (by simp))).butIn (ButIn.of_below HZ.out)⟩, ⟨_, (HB8.out.blk Kq7.out (by omega)).below HZ.out⟩, ⟨_, _, _, (HB8.out.blk Kf7.out (by omega)).below HZ.out⟩, ⟨_, _, _, (HD7.out.but HB8.out (by omega) (by omega)).below HZ.out⟩, hsz.nsp, hsz.nsb, hsz.nsq, hsz.nsf, hsz.nfp, hsz.nfb, hsz.nfq, hsz.nqp, hsz.nqb, h2, by omega, hsz.bg, hsz.bk, ⟨by omega, by omega⟩, hsz.bk, ⟨by omega, by omega⟩, ⟨by omega, by omega⟩, hsz.btt, hsz.bbt⟩
set_option maxHeartbeats 4000000 in
set_option maxRecDepth 100000 in
theorem deal_hi (w : World) (s q f p bb T : Nat) (g k r ik ii : Int) (m : List Int) (nx tt bt : Int) (ma : Option Addr) (mn mc : Nat) (mm : List Int) (h : SgAt w s q f p bb T g k r ik ii m nx tt bt) (hT : TextO w [p, bb, q, f, s] ma mn mc mm) (h1 : 1 ≤ mn) (h2 : mn ≤ 200) (hq : ¬ m = mm) (hsp : nx < tt - 1) (hT1 : T + 1 < 1000000) (hrn : r ≤ nx) (hm : tt - 1 < r + bt) :
    Calls Try.prog 30 #[.pointer (some ⟨s, 0, none⟩), .slice ma mn mc] w fun e w' => ∃ r', e = .returned (.tuple #[.int .i64 k, .int .i64 nx, .int .i64 0]) ∧ FlowB.ButIn [p, bb, q, f, s] w w' ∧ SgAt w' s q f p bb (T + 1) g k r' k nx mm (nx + 1) tt bt := by
  have H := hid h
  have HT := hid hT
  obtain ⟨oa, oc, hsg, ho⟩ := h.sg
  have Ks := hid hsg
  have HO := hid ho
  have hbt := h.btt
  have hbb := h.bbt
  have hbn := h.bn
  have hbr := h.br
  have hbk := h.bk
  have hbg := h.bg
  have hml := hT.text.length
  have hsl := hsg.lt
  have hrk := h.bik
  have hri := h.bii
  obtain ⟨tv, kq⟩ := h.sl
  obtain ⟨fg, fk, fh, kf⟩ := h.fe
  obtain ⟨B, af, kv, hd⟩ := h.dk
  have Kq := hid kq
  have Kf := hid kf
  have HD := hid hd
  have hql := kq.lt
  have hfl := kf.lt
  have hpl := hd.kp.lt
  have hbl := hd.kb.lt
  have nsp := h.nsp
  have nsb := h.nsb
  have nsq := h.nsq
  have nsf := h.nsf
  have nfp := h.nfp
  have nfb := h.nfb
  have nfq := h.nfq
  have nqp := h.nqp
  have nqb := h.nqb
  have htb := h.tb
  clear kq kf hd
  have Hb := hid (Below.refl w.heap.size w)
  clear h hT hsg ho
  go_enter Try.func30, Try.ntmps30
  go_wp2_with fail
  refine (refuse_ok w s g k r ik ii (.slice oa m.length oc) nx tt bt q f ma mn mc Ks.out h1 h2).mono ?_
  rintro e w1 ⟨rfl, b1⟩
  have Ks1 := hid (Ks.out.below b1)
  have HB1 := hid b1
  have HO1 := hid (HO.out.butIn (ButIn.of_below b1))
  have HT1 := hid (HT.out.butIn (ButIn.of_below b1))
  have hs1 := b1.size
  clear b1
  go_wp2_with fail
  refine (again_any w1 s g k r ik ii nx tt bt q f false oa ma m.length oc mn mc m mm Ks1.out HO1.out.text HT1.out.text).mono ?_
  rintro e w2 ⟨rfl, b2⟩
  rw [decide_eq_false hq]
  have Ks2 := hid (Ks1.out.below b2)
  have HB2 := hid (Below.on HB1.out b2)
  have HT2 := hid (HT1.out.butIn (ButIn.of_below b2))
  have hs2 := HB2.out.size
  clear b2
  have c7 : w2.cell? ⟨s, 7, none⟩ = some (.int .i64 tt) := by rw [Ks2.out.cell]; rfl
  have c6 : w2.cell? ⟨s, 6, none⟩ = some (.int .i64 nx) := by rw [Ks2.out.cell]; rfl
  have qs : ¬ tt - 1 ≤ nx := by omega
  go_wp2_with (first
     | (refine wpList_load_mid rfl 100 _ rfl s 0 rfl _ _ (show w2.rangeAt s 0 (stC g k r ik ii (.slice oa m.length oc)).toList from fun j u hu => by
        rw [Nat.zero_add, Ks2.out.cell]
        match j, hu with
        | 0, hu => exact hu
        | 1, hu => exact hu
        | 2, hu => exact hu
        | 3, hu => exact hu
        | 4, hu => exact hu
        | 5, hu => exact hu
        | n + 6, hu => simp [stC] at hu) Try.underlying100 rfl size_state ?_)
     | (
        refine wpList_store_blk rfl 100 _ _ rfl (w2.heap.size) (stC g k r ik ii (.slice oa m.length oc)) rfl rfl _ 100 (Blk.new rfl (stC 0 0 0 0 0 (.slice none 0 0)) _) 6 size_state rfl rfl (stC_ones _ _ _ _ _ _ _ _) ?_
        intro w3 hb3 hk3
        have h3 := hb3.below ((Below.refl w2.heap.size w2).alloc (Nat.le_refl _) _) (by simp only [World.size_alloc]; omega) (Nat.le_refl _)
        have HB3 := hid (Below.on HB2.out h3)
        have Ks3 := hid (Ks2.out.below h3)
        have HT3 := hid (HT2.out.butIn (ButIn.of_below h3))
        have Kt3 := hid hk3
        have hs3 := h3.size
        have ht3 := hk3.lt
        clear hb3 hk3 h3))
  simp only [Act.put]
  clear c7 c6
  refine wp_region_flow 10 (List.range 10) [] [] (by kernel_rfl) (by kernel_rfl) ?_
  apply Exists.intro
  refine ⟨fun w0 hb0 hF0 => ?_, ?_⟩
  · skip
    have y6 : ∀ w', (∃ x : Ext w0, w' = x.at_) → w'.cell? ⟨s, 6, none⟩ = some (.int .i64 nx) := fun w' ⟨x, hx⟩ => by rw [hx, ((Ks3.out.below hb0).below x.same).cell]; rfl
    have y2 : ∀ w', (∃ x : Ext w0, w' = x.at_) → w'.cell? ⟨s, 2, none⟩ = some (.int .i64 r) := fun w' ⟨x, hx⟩ => by rw [hx, ((Ks3.out.below hb0).below x.same).cell]; rfl
    simp only [pick, List.range, List.range.loop, List.getElem?_toArray, List.getElem?_cons_succ, List.getElem?_cons_zero, Option.toList_some, List.cons_append, List.nil_append]
    repeat (first | (go_big_quiet_want; refine quiet_load_one 3 _ rfl ⟨s, 6, none⟩ rfl _ y6 _ Try.underlying3 rfl ?_; go_big_quiet_on; simp only [Act.put, List.setIfInBounds_toArray, List.set_cons_zero, List.set_cons_succ]) | (go_big_quiet_want; refine quiet_load_one 3 _ rfl ⟨s, 2, none⟩ rfl _ y2 _ Try.underlying3 rfl ?_; go_big_quiet_on; simp only [Act.put, List.setIfInBounds_toArray, List.set_cons_zero, List.set_cons_succ]) | go_big_quiet_step (fail))
    exact wpQuiet_nil rfl
  refine AlChk.nil ?_
  refine Walk.fin fun wa hwa _ _ => ?_
  simp only [List.drop_succ_cons, List.drop_zero]
  have Kswa := hid (Ks3.out.below hwa)
  have Ktwa := hid (Kt3.out.below hwa)
  have HBwa := hid (Below.on HB3.out hwa)
  have HTwa := hid (HT3.out.butIn (ButIn.of_below hwa))
  have hswa := hwa.size
  clear hwa
  have qr : r ≤ nx := by omega
  go_wp2_with fail
  have qm : tt - 1 < r + bt := hm
  refine wp_region_flow 12 (List.range 12) [] [] (by kernel_rfl) (by kernel_rfl) ?_
  apply Exists.intro
  refine ⟨fun w0 hb0 hF0 => ?_, ?_⟩
  · skip
    have y2 : ∀ w', (∃ x : Ext w0, w' = x.at_) → w'.cell? ⟨s, 2, none⟩ = some (.int .i64 r) := fun w' ⟨x, hx⟩ => by rw [hx, ((Kswa.out.below hb0).below x.same).cell]; rfl
    have y8 : ∀ w', (∃ x : Ext w0, w' = x.at_) → w'.cell? ⟨s, 8, none⟩ = some (.int .i64 bt) := fun w' ⟨x, hx⟩ => by rw [hx, ((Kswa.out.below hb0).below x.same).cell]; rfl
    simp only [pick, List.range, List.range.loop, List.getElem?_toArray, List.getElem?_cons_succ, List.getElem?_cons_zero, Option.toList_some, List.cons_append, List.nil_append]
    repeat (first | (go_big_quiet_want; refine quiet_load_one 3 _ rfl ⟨s, 2, none⟩ rfl _ y2 _ Try.underlying3 rfl ?_; go_big_quiet_on; simp only [Act.put, List.setIfInBounds_toArray, List.set_cons_zero, List.set_cons_succ]) | (go_big_quiet_want; refine quiet_load_one 3 _ rfl ⟨s, 8, none⟩ rfl _ y8 _ Try.underlying3 rfl ?_; go_big_quiet_on; simp only [Act.put, List.setIfInBounds_toArray, List.set_cons_zero, List.set_cons_succ]) | go_big_quiet_step (fail))
    exact wpQuiet_nil rfl
  refine AlChk.nil ?_
  refine Walk.fin fun wb hwb _ _ => ?_
  simp only [List.drop_succ_cons, List.drop_zero]
  have Kswb := hid (Kswa.out.below hwb)
  have Ktwb := hid (Ktwa.out.below hwb)
  have HBwb := hid (Below.on HBwa.out hwb)
  have HTwb := hid (HTwa.out.butIn (ButIn.of_below hwb))
  have hswb := hwb.size
  clear hwb
  go_wp2_with (first
     | (
        refine wpList_store_cell rfl 3 _ _ rfl (w2.heap.size) 2 (.int .i64 (tt - 1)) rfl rfl rfl rfl _ 100 Ktwb.out (by simp [stC]) size_dint ?_
        intro wc hbc hkc
        have Ktc := hid (show Blk wc (w2.heap.size) (stC g k (tt - 1) ik ii (.slice oa m.length oc)) 100 from hkc)
        have HBc := hid (hbc.below HBwb.out (by have := HBwb.out.size; omega) (by omega))
        have Ksc := hid (hbc.blk Kswb.out (by omega))
        have HTc := hid (show TextO wc [p, bb, q, f, s] ma mn mc mm from ⟨HT.out.text.below HBc.out, HT.out.out⟩)
        have hsc := hbc.size
        clear hbc hkc)
     | (refine wpList_load_blk rfl 100 _ rfl (w2.heap.size) rfl _ 100 Ktc.out _ Try.underlying100 rfl 6 size_state rfl ?_))
  refine (sraise_any wc s f (sgC g k r ik ii (.slice oa m.length oc) nx tt bt q f false) (.slice oa m.length oc) g k (tt - 1) ik ii fg fk fh Ksc.out rfl (Kf.out.below HBc.out) nsf).mono ?_
  rintro e wd ⟨rfl, bd, kd⟩
  have Ksd := hid (bd.blk Ksc.out nsf)
  have Ktd := hid (bd.blk Ktc.out (by omega))
  have Kfd := hid kd
  have HXd := hid (But.trans (But.of HBc.out) bd)
  have HTd := hid (HTc.out.butIn (ButIn.of_but bd (by simp)))
  have hsd := bd.size
  clear bd kd Ksc Ktc HTc
  go_wp2_with fail
  refine wp_region_flow 12 [0, 1, 2, 3, 4, 5, 6, 7, 8, 9] [] [(.c 10, [11], [])] (by kernel_rfl) (by kernel_rfl) ?_
  apply Exists.intro
  refine ⟨fun w0 hb0 hF0 => ?_, ?_⟩
  · skip
    have y1 : ∀ w', (∃ x : Ext w0, w' = x.at_) → w'.cell? ⟨s, 1, none⟩ = some (.int .i64 k) := fun w' ⟨x, hx⟩ => by rw [hx, ((Ksd.out.below hb0).below x.same).cell]; rfl
    have y6 : ∀ w', (∃ x : Ext w0, w' = x.at_) → w'.cell? ⟨s, 6, none⟩ = some (.int .i64 nx) := fun w' ⟨x, hx⟩ => by rw [hx, ((Ksd.out.below hb0).below x.same).cell]; rfl
    simp only [pick, List.getElem?_toArray, List.getElem?_cons_succ, List.getElem?_cons_zero, Option.toList_some, List.cons_append, List.nil_append]
    repeat (first | (go_big_quiet_want; refine quiet_load_one 3 _ rfl ⟨s, 1, none⟩ rfl _ y1 _ Try.underlying3 rfl ?_; go_big_quiet_on; simp only [Act.put, List.setIfInBounds_toArray, List.set_cons_zero, List.set_cons_succ]) | (go_big_quiet_want; refine quiet_load_one 3 _ rfl ⟨s, 6, none⟩ rfl _ y6 _ Try.underlying3 rfl ?_; go_big_quiet_on; simp only [Act.put, List.setIfInBounds_toArray, List.set_cons_zero, List.set_cons_succ]) | go_big_quiet_step (fail))
    exact wpQuiet_nil rfl
  refine AlChk.nil ?_
  refine Walk.call rfl 42 #[.slice ma mn mc] (fun v w' => ∃ a c, v = .slice a mn c ∧ TextAt w' a mn c mm ∧ ∀ p : Addr, a = some p → wd.heap.size ≤ p.block) (fun v w' w'' h k => by obtain ⟨a, c, h1, h2, h3⟩ := h; exact ⟨a, c, h1, h2.below k, h3⟩) rfl (fun w1' hb1 hF1 => ⟨by go_simp, ?_⟩) ?_
  · refine (clone_any (HTd.out.text.below hb1) (by omega)).mono ?_
    rintro e w3' ⟨a', c', rfl, hb3, ht3, ho3⟩
    exact ⟨_, rfl, hb3, a', c', rfl, ht3, fun p hp => Nat.le_trans hb1.size (ho3 p hp).1⟩
  rintro v1 w1' hb1 hF1 ⟨a3, c3, rfl, -⟩
  apply Exists.intro
  refine ⟨fun w4 hb4 hF4 => ?_, ?_⟩
  · skip
    simp only [pick, List.getElem?_toArray, List.getElem?_cons_succ, List.getElem?_cons_zero, Option.toList_some, List.cons_append, List.nil_append, Act.put, List.setIfInBounds_toArray, List.set_cons_zero, List.set_cons_succ]
    repeat (first | go_big_quiet_step (fail))
    exact wpQuiet_nil rfl
  refine AlChk.nil ?_
  refine Walk.fin fun w5 h5 hF5 _ => ?_
  simp only [List.drop_succ_cons, List.drop_zero]
  have HX5 := hid (But.trans HXd.out (But.of h5))
  have Ks5 := hid (Ksd.out.below h5)
  have Kt5 := hid (Ktd.out.below h5)
  have Kf5 := hid (Kfd.out.below h5)
  have hs5 := h5.size
  obtain ⟨a4, c4, hq4, ht4, ho4⟩ := hF5.2
  cases hq4
  have HT5 := hid ht4
  have HO5 := hid ho4
  clear h5 hF5 ht4 ho4
  go_wp2_with (first
     | (
        refine wpList_store_mid rfl 98 _ _ rfl (w2.heap.size) 3 #[.int .i64 k, .int .i64 nx, .slice a3 mn c3] rfl rfl _ 100 Kt5.out (by simp [stC]) size_intent (by simp [Value.oneCell']) ?_
        intro w6 hb6 hk6
        have Kt6 := hid (show Blk w6 (w2.heap.size) (stC g k (tt - 1) k nx (.slice a3 mn c3)) 100 from hk6)
        have Ks6 := hid (hb6.blk Ks5.out (by omega))
        have Kf6 := hid (hb6.blk Kf5.out (by omega))
        have HX6 := hid (show FlowB.ButIn [f] w w6 from ButIn.fresh (ButIn.of_but HX5.out (by simp)) hb6 (by omega))
        have HT6 := hid (show TextO w6 [p, bb, q, f, s] a3 mn c3 mm from ⟨HT5.out.butIn (S := [w2.heap.size]) (fun x hx => by have := HO5.out x hx; simp; omega) (ButIn.of_but hb6 (by simp)), fun x hx => by have := HO5.out x hx; simp only [List.mem_cons, List.not_mem_nil, or_false]; omega⟩)
        have hs6 := hb6.size
        clear hb6 hk6)
     | (refine wpList_load_blk rfl 100 _ rfl (w2.heap.size) rfl _ 100 Kt6.out _ Try.underlying100 rfl 6 size_state rfl ?_))
  refine (sreplace_ok w6 s q f p bb 400 2 B af kv tv (.slice oa m.length oc) 0 T g k (tt - 1) k nx g k r ik ii nx tt bt a3 mn c3 mm Ks6.out (HX6.out.blk Kq.out (by simp; omega)) (HD.out.butQ HX6.out (by omega) (by omega)) ⟨HT6.out.text, fun x hx => by have := HT6.out.out x hx; simp only [List.mem_cons, List.not_mem_nil, or_false] at this ⊢; omega⟩ h2 (by omega) (by omega) (by omega) ⟨by omega, by omega⟩ ⟨by omega, by omega, by omega⟩ ⟨by omega, by omega⟩ ⟨by omega, by omega⟩ ⟨by omega, by omega⟩ ⟨by omega, by omega⟩ ⟨by omega, by omega⟩).mono ?_
  rintro e w7 ⟨rfl, b7, k7, d7, a7, c7', q7, t7, o7⟩
  have Ks7 := hid k7
  have Kq7 := hid q7
  have HD7 := hid d7
  have Kf7 := hid (b7.blk Kf6.out (by simp; omega))
  have HX7 := hid (ButIn.on (S := [p, bb, q, f, s]) (ButIn.wide HX6.out (by simp)) (ButIn.wide b7 (by simp)))
  have HT7 := hid (show TextO w7 [p, bb, q, f, s] a3 mn c3 mm from ⟨HT6.out.text.butIn (fun x hx => by have := HT6.out.out x hx; simp only [List.mem_cons, List.not_mem_nil, or_false] at this ⊢; omega) b7, HT6.out.out⟩)
  have c6 : w7.cell? ⟨s, 6, none⟩ = some (.int .i64 nx) := by rw [Ks7.out.cell]; rfl
  clear b7 k7 d7 q7 t7 o7
  go_wp2_with (
        refine wpList_store_cell rfl 3 _ _ rfl s 6 (.int .i64 (nx + 1)) rfl rfl rfl rfl _ 104 Ks7.out (by simp [sgC]) size_dint ?_
        intro w8 hb8 hk8
        have Ks8 := hid (show Blk w8 s (sgC g k (tt - 1) k nx (.slice a3 mn c3) (nx + 1) tt bt q f false) 104 from hk8)
        have HB8 := hid hb8
        clear hb8 hk8 c6)
  try simp only [Act.put]
  refine wp_region_flow 13 (List.range 13) [] [] (by kernel_rfl) (by kernel_rfl) ?_
  apply Exists.intro
  refine ⟨fun w0 hb0 hF0 => ?_, ?_⟩
  · skip
    have y3 : ∀ w', (∃ x : Ext w0, w' = x.at_) → w'.cell? ⟨s, 3, none⟩ = some (.int .i64 k) := fun w' ⟨x, hx⟩ => by rw [hx, ((Ks8.out.below hb0).below x.same).cell]; rfl
    have y4 : ∀ w', (∃ x : Ext w0, w' = x.at_) → w'.cell? ⟨s, 4, none⟩ = some (.int .i64 nx) := fun w' ⟨x, hx⟩ => by rw [hx, ((Ks8.out.below hb0).below x.same).cell]; rfl
    simp only [pick, List.range, List.range.loop, List.getElem?_toArray, List.getElem?_cons_succ, List.getElem?_cons_zero, Option.toList_some, List.cons_append, List.nil_append]
    repeat (first | (go_big_quiet_want; refine quiet_load_one 3 _ rfl ⟨s, 3, none⟩ rfl _ y3 _ Try.underlying3 rfl ?_; go_big_quiet_on; simp only [Act.put, List.setIfInBounds_toArray, List.set_cons_zero, List.set_cons_succ]) | (go_big_quiet_want; refine quiet_load_one 3 _ rfl ⟨s, 4, none⟩ rfl _ y4 _ Try.underlying3 rfl ?_; go_big_quiet_on; simp only [Act.put, List.setIfInBounds_toArray, List.set_cons_zero, List.set_cons_succ]) | go_big_quiet_step (fail))
    exact wpQuiet_nil rfl
  refine AlChk.nil ?_
  refine Walk.fin fun wz hz _ _ => ?_
  simp only [List.drop_succ_cons, List.drop_zero]
  have HZ := hid hz
  clear hz
  go_wp2_with fail
  go_returns
  have hlen : mm.length = mn := hml
  have hsz := H.out
  subst hlen
  refine ⟨(tt - 1), rfl, ButIn.on HX7.out (ButIn.on (ButIn.of_but HB8.out (by simp)) (ButIn.of_below HZ.out)), ?_⟩
  exact ⟨⟨a3, c3, Ks8.out.below HZ.out, (HT7.out.butIn (ButIn.of_but HB8.out (by simp))).butIn (ButIn.of_below HZ.out)⟩, ⟨_, (HB8.out.blk Kq7.out (by omega)).below HZ.out⟩, ⟨_, _, _, (HB8.out.blk Kf7.out (by omega)).below HZ.out⟩, ⟨_, _, _, (HD7.out.but HB8.out (by omega) (by omega)).below HZ.out⟩, hsz.nsp, hsz.nsb, hsz.nsq, hsz.nsf, hsz.nfp, hsz.nfb, hsz.nfq, hsz.nqp, hsz.nqb, h2, by omega, hsz.bg, hsz.bk, ⟨by omega, by omega⟩, hsz.bk, ⟨by omega, by omega⟩, ⟨by omega, by omega⟩, hsz.btt, hsz.bbt⟩
set_option maxHeartbeats 4000000 in
set_option maxRecDepth 100000 in
theorem deal_plain (w : World) (s q f p bb T : Nat) (g k r ik ii : Int) (m : List Int) (nx tt bt : Int) (ma : Option Addr) (mn mc : Nat) (mm : List Int) (h : SgAt w s q f p bb T g k r ik ii m nx tt bt) (hT : TextO w [p, bb, q, f, s] ma mn mc mm) (h1 : 1 ≤ mn) (h2 : mn ≤ 200) (hq : ¬ m = mm) (hsp : nx < tt - 1) (hT1 : T + 1 < 1000000) (hrn : ¬ r ≤ nx) :
    Calls Try.prog 30 #[.pointer (some ⟨s, 0, none⟩), .slice ma mn mc] w fun e w' => ∃ r', e = .returned (.tuple #[.int .i64 k, .int .i64 nx, .int .i64 0]) ∧ FlowB.ButIn [p, bb, q, f, s] w w' ∧ SgAt w' s q f p bb (T + 1) g k r' k nx mm (nx + 1) tt bt := by
  have H := hid h
  have HT := hid hT
  obtain ⟨oa, oc, hsg, ho⟩ := h.sg
  have Ks := hid hsg
  have HO := hid ho
  have hbt := h.btt
  have hbb := h.bbt
  have hbn := h.bn
  have hbr := h.br
  have hbk := h.bk
  have hbg := h.bg
  have hml := hT.text.length
  have hsl := hsg.lt
  have hrk := h.bik
  have hri := h.bii
  obtain ⟨tv, kq⟩ := h.sl
  obtain ⟨fg, fk, fh, kf⟩ := h.fe
  obtain ⟨B, af, kv, hd⟩ := h.dk
  have Kq := hid kq
  have Kf := hid kf
  have HD := hid hd
  have hql := kq.lt
  have hfl := kf.lt
  have hpl := hd.kp.lt
  have hbl := hd.kb.lt
  have nsp := h.nsp
  have nsb := h.nsb
  have nsq := h.nsq
  have nsf := h.nsf
  have nfp := h.nfp
  have nfb := h.nfb
  have nfq := h.nfq
  have nqp := h.nqp
  have nqb := h.nqb
  have htb := h.tb
  clear kq kf hd
  have Hb := hid (Below.refl w.heap.size w)
  clear h hT hsg ho
  go_enter Try.func30, Try.ntmps30
  go_wp2_with fail
  refine (refuse_ok w s g k r ik ii (.slice oa m.length oc) nx tt bt q f ma mn mc Ks.out h1 h2).mono ?_
  rintro e w1 ⟨rfl, b1⟩
  have Ks1 := hid (Ks.out.below b1)
  have HB1 := hid b1
  have HO1 := hid (HO.out.butIn (ButIn.of_below b1))
  have HT1 := hid (HT.out.butIn (ButIn.of_below b1))
  have hs1 := b1.size
  clear b1
  go_wp2_with fail
  refine (again_any w1 s g k r ik ii nx tt bt q f false oa ma m.length oc mn mc m mm Ks1.out HO1.out.text HT1.out.text).mono ?_
  rintro e w2 ⟨rfl, b2⟩
  rw [decide_eq_false hq]
  have Ks2 := hid (Ks1.out.below b2)
  have HB2 := hid (Below.on HB1.out b2)
  have HT2 := hid (HT1.out.butIn (ButIn.of_below b2))
  have hs2 := HB2.out.size
  clear b2
  have c7 : w2.cell? ⟨s, 7, none⟩ = some (.int .i64 tt) := by rw [Ks2.out.cell]; rfl
  have c6 : w2.cell? ⟨s, 6, none⟩ = some (.int .i64 nx) := by rw [Ks2.out.cell]; rfl
  have qs : ¬ tt - 1 ≤ nx := by omega
  go_wp2_with (first
     | (refine wpList_load_mid rfl 100 _ rfl s 0 rfl _ _ (show w2.rangeAt s 0 (stC g k r ik ii (.slice oa m.length oc)).toList from fun j u hu => by
        rw [Nat.zero_add, Ks2.out.cell]
        match j, hu with
        | 0, hu => exact hu
        | 1, hu => exact hu
        | 2, hu => exact hu
        | 3, hu => exact hu
        | 4, hu => exact hu
        | 5, hu => exact hu
        | n + 6, hu => simp [stC] at hu) Try.underlying100 rfl size_state ?_)
     | (
        refine wpList_store_blk rfl 100 _ _ rfl (w2.heap.size) (stC g k r ik ii (.slice oa m.length oc)) rfl rfl _ 100 (Blk.new rfl (stC 0 0 0 0 0 (.slice none 0 0)) _) 6 size_state rfl rfl (stC_ones _ _ _ _ _ _ _ _) ?_
        intro w3 hb3 hk3
        have h3 := hb3.below ((Below.refl w2.heap.size w2).alloc (Nat.le_refl _) _) (by simp only [World.size_alloc]; omega) (Nat.le_refl _)
        have HB3 := hid (Below.on HB2.out h3)
        have Ks3 := hid (Ks2.out.below h3)
        have HT3 := hid (HT2.out.butIn (ButIn.of_below h3))
        have Kt3 := hid hk3
        have hs3 := h3.size
        have ht3 := hk3.lt
        clear hb3 hk3 h3))
  simp only [Act.put]
  clear c7 c6
  refine wp_region_flow 10 (List.range 10) [] [] (by kernel_rfl) (by kernel_rfl) ?_
  apply Exists.intro
  refine ⟨fun w0 hb0 hF0 => ?_, ?_⟩
  · skip
    have y6 : ∀ w', (∃ x : Ext w0, w' = x.at_) → w'.cell? ⟨s, 6, none⟩ = some (.int .i64 nx) := fun w' ⟨x, hx⟩ => by rw [hx, ((Ks3.out.below hb0).below x.same).cell]; rfl
    have y2 : ∀ w', (∃ x : Ext w0, w' = x.at_) → w'.cell? ⟨s, 2, none⟩ = some (.int .i64 r) := fun w' ⟨x, hx⟩ => by rw [hx, ((Ks3.out.below hb0).below x.same).cell]; rfl
    simp only [pick, List.range, List.range.loop, List.getElem?_toArray, List.getElem?_cons_succ, List.getElem?_cons_zero, Option.toList_some, List.cons_append, List.nil_append]
    repeat (first | (go_big_quiet_want; refine quiet_load_one 3 _ rfl ⟨s, 6, none⟩ rfl _ y6 _ Try.underlying3 rfl ?_; go_big_quiet_on; simp only [Act.put, List.setIfInBounds_toArray, List.set_cons_zero, List.set_cons_succ]) | (go_big_quiet_want; refine quiet_load_one 3 _ rfl ⟨s, 2, none⟩ rfl _ y2 _ Try.underlying3 rfl ?_; go_big_quiet_on; simp only [Act.put, List.setIfInBounds_toArray, List.set_cons_zero, List.set_cons_succ]) | go_big_quiet_step (fail))
    exact wpQuiet_nil rfl
  refine AlChk.nil ?_
  refine Walk.fin fun wa hwa _ _ => ?_
  simp only [List.drop_succ_cons, List.drop_zero]
  have Kswa := hid (Ks3.out.below hwa)
  have Ktwa := hid (Kt3.out.below hwa)
  have HBwa := hid (Below.on HB3.out hwa)
  have HTwa := hid (HT3.out.butIn (ButIn.of_below hwa))
  have hswa := hwa.size
  clear hwa
  have qr : ¬ r ≤ nx := by omega
  go_wp2_with fail
  have Ksd := Kswa
  have Ktd := Ktwa
  have Kfd := hid (Kf.out.below HBwa.out)
  have HXd := hid (But.of (b := f) HBwa.out)
  have HTd := HTwa
  refine wp_region_flow 12 [0, 1, 2, 3, 4, 5, 6, 7, 8, 9] [] [(.c 10, [11], [])] (by kernel_rfl) (by kernel_rfl) ?_
  apply Exists.intro
  refine ⟨fun w0 hb0 hF0 => ?_, ?_⟩
  · skip
    have y1 : ∀ w', (∃ x : Ext w0, w' = x.at_) → w'.cell? ⟨s, 1, none⟩ = some (.int .i64 k) := fun w' ⟨x, hx⟩ => by rw [hx, ((Ksd.out.below hb0).below x.same).cell]; rfl
    have y6 : ∀ w', (∃ x : Ext w0, w' = x.at_) → w'.cell? ⟨s, 6, none⟩ = some (.int .i64 nx) := fun w' ⟨x, hx⟩ => by rw [hx, ((Ksd.out.below hb0).below x.same).cell]; rfl
    simp only [pick, List.getElem?_toArray, List.getElem?_cons_succ, List.getElem?_cons_zero, Option.toList_some, List.cons_append, List.nil_append]
    repeat (first | (go_big_quiet_want; refine quiet_load_one 3 _ rfl ⟨s, 1, none⟩ rfl _ y1 _ Try.underlying3 rfl ?_; go_big_quiet_on; simp only [Act.put, List.setIfInBounds_toArray, List.set_cons_zero, List.set_cons_succ]) | (go_big_quiet_want; refine quiet_load_one 3 _ rfl ⟨s, 6, none⟩ rfl _ y6 _ Try.underlying3 rfl ?_; go_big_quiet_on; simp only [Act.put, List.setIfInBounds_toArray, List.set_cons_zero, List.set_cons_succ]) | go_big_quiet_step (fail))
    exact wpQuiet_nil rfl
  refine AlChk.nil ?_
  refine Walk.call rfl 42 #[.slice ma mn mc] (fun v w' => ∃ a c, v = .slice a mn c ∧ TextAt w' a mn c mm ∧ ∀ p : Addr, a = some p → wa.heap.size ≤ p.block) (fun v w' w'' h k => by obtain ⟨a, c, h1, h2, h3⟩ := h; exact ⟨a, c, h1, h2.below k, h3⟩) rfl (fun w1' hb1 hF1 => ⟨by go_simp, ?_⟩) ?_
  · refine (clone_any (HTd.out.text.below hb1) (by omega)).mono ?_
    rintro e w3' ⟨a', c', rfl, hb3, ht3, ho3⟩
    exact ⟨_, rfl, hb3, a', c', rfl, ht3, fun p hp => Nat.le_trans hb1.size (ho3 p hp).1⟩
  rintro v1 w1' hb1 hF1 ⟨a3, c3, rfl, -⟩
  apply Exists.intro
  refine ⟨fun w4 hb4 hF4 => ?_, ?_⟩
  · skip
    simp only [pick, List.getElem?_toArray, List.getElem?_cons_succ, List.getElem?_cons_zero, Option.toList_some, List.cons_append, List.nil_append, Act.put, List.setIfInBounds_toArray, List.set_cons_zero, List.set_cons_succ]
    repeat (first | go_big_quiet_step (fail))
    exact wpQuiet_nil rfl
  refine AlChk.nil ?_
  refine Walk.fin fun w5 h5 hF5 _ => ?_
  simp only [List.drop_succ_cons, List.drop_zero]
  have HX5 := hid (But.trans HXd.out (But.of h5))
  have Ks5 := hid (Ksd.out.below h5)
  have Kt5 := hid (Ktd.out.below h5)
  have Kf5 := hid (Kfd.out.below h5)
  have hs5 := h5.size
  obtain ⟨a4, c4, hq4, ht4, ho4⟩ := hF5.2
  cases hq4
  have HT5 := hid ht4
  have HO5 := hid ho4
  clear h5 hF5 ht4 ho4
  go_wp2_with (first
     | (
        refine wpList_store_mid rfl 98 _ _ rfl (w2.heap.size) 3 #[.int .i64 k, .int .i64 nx, .slice a3 mn c3] rfl rfl _ 100 Kt5.out (by simp [stC]) size_intent (by simp [Value.oneCell']) ?_
        intro w6 hb6 hk6
        have Kt6 := hid (show Blk w6 (w2.heap.size) (stC g k r k nx (.slice a3 mn c3)) 100 from hk6)
        have Ks6 := hid (hb6.blk Ks5.out (by omega))
        have Kf6 := hid (hb6.blk Kf5.out (by omega))
        have HX6 := hid (show FlowB.ButIn [f] w w6 from ButIn.fresh (ButIn.of_but HX5.out (by simp)) hb6 (by omega))
        have HT6 := hid (show TextO w6 [p, bb, q, f, s] a3 mn c3 mm from ⟨HT5.out.butIn (S := [w2.heap.size]) (fun x hx => by have := HO5.out x hx; simp; omega) (ButIn.of_but hb6 (by simp)), fun x hx => by have := HO5.out x hx; simp only [List.mem_cons, List.not_mem_nil, or_false]; omega⟩)
        have hs6 := hb6.size
        clear hb6 hk6)
     | (refine wpList_load_blk rfl 100 _ rfl (w2.heap.size) rfl _ 100 Kt6.out _ Try.underlying100 rfl 6 size_state rfl ?_))
  refine (sreplace_ok w6 s q f p bb 400 2 B af kv tv (.slice oa m.length oc) 0 T g k r k nx g k r ik ii nx tt bt a3 mn c3 mm Ks6.out (HX6.out.blk Kq.out (by simp; omega)) (HD.out.butQ HX6.out (by omega) (by omega)) ⟨HT6.out.text, fun x hx => by have := HT6.out.out x hx; simp only [List.mem_cons, List.not_mem_nil, or_false] at this ⊢; omega⟩ h2 (by omega) (by omega) (by omega) ⟨by omega, by omega⟩ ⟨by omega, by omega, by omega⟩ ⟨by omega, by omega⟩ ⟨by omega, by omega⟩ ⟨by omega, by omega⟩ ⟨by omega, by omega⟩ ⟨by omega, by omega⟩).mono ?_
  rintro e w7 ⟨rfl, b7, k7, d7, a7, c7', q7, t7, o7⟩
  have Ks7 := hid k7
  have Kq7 := hid q7
  have HD7 := hid d7
  have Kf7 := hid (b7.blk Kf6.out (by simp; omega))
  have HX7 := hid (ButIn.on (S := [p, bb, q, f, s]) (ButIn.wide HX6.out (by simp)) (ButIn.wide b7 (by simp)))
  have HT7 := hid (show TextO w7 [p, bb, q, f, s] a3 mn c3 mm from ⟨HT6.out.text.butIn (fun x hx => by have := HT6.out.out x hx; simp only [List.mem_cons, List.not_mem_nil, or_false] at this ⊢; omega) b7, HT6.out.out⟩)
  have c6 : w7.cell? ⟨s, 6, none⟩ = some (.int .i64 nx) := by rw [Ks7.out.cell]; rfl
  clear b7 k7 d7 q7 t7 o7
  go_wp2_with (
        refine wpList_store_cell rfl 3 _ _ rfl s 6 (.int .i64 (nx + 1)) rfl rfl rfl rfl _ 104 Ks7.out (by simp [sgC]) size_dint ?_
        intro w8 hb8 hk8
        have Ks8 := hid (show Blk w8 s (sgC g k r k nx (.slice a3 mn c3) (nx + 1) tt bt q f false) 104 from hk8)
        have HB8 := hid hb8
        clear hb8 hk8 c6)
  try simp only [Act.put]
  refine wp_region_flow 13 (List.range 13) [] [] (by kernel_rfl) (by kernel_rfl) ?_
  apply Exists.intro
  refine ⟨fun w0 hb0 hF0 => ?_, ?_⟩
  · skip
    have y3 : ∀ w', (∃ x : Ext w0, w' = x.at_) → w'.cell? ⟨s, 3, none⟩ = some (.int .i64 k) := fun w' ⟨x, hx⟩ => by rw [hx, ((Ks8.out.below hb0).below x.same).cell]; rfl
    have y4 : ∀ w', (∃ x : Ext w0, w' = x.at_) → w'.cell? ⟨s, 4, none⟩ = some (.int .i64 nx) := fun w' ⟨x, hx⟩ => by rw [hx, ((Ks8.out.below hb0).below x.same).cell]; rfl
    simp only [pick, List.range, List.range.loop, List.getElem?_toArray, List.getElem?_cons_succ, List.getElem?_cons_zero, Option.toList_some, List.cons_append, List.nil_append]
    repeat (first | (go_big_quiet_want; refine quiet_load_one 3 _ rfl ⟨s, 3, none⟩ rfl _ y3 _ Try.underlying3 rfl ?_; go_big_quiet_on; simp only [Act.put, List.setIfInBounds_toArray, List.set_cons_zero, List.set_cons_succ]) | (go_big_quiet_want; refine quiet_load_one 3 _ rfl ⟨s, 4, none⟩ rfl _ y4 _ Try.underlying3 rfl ?_; go_big_quiet_on; simp only [Act.put, List.setIfInBounds_toArray, List.set_cons_zero, List.set_cons_succ]) | go_big_quiet_step (fail))
    exact wpQuiet_nil rfl
  refine AlChk.nil ?_
  refine Walk.fin fun wz hz _ _ => ?_
  simp only [List.drop_succ_cons, List.drop_zero]
  have HZ := hid hz
  clear hz
  go_wp2_with fail
  go_returns
  have hlen : mm.length = mn := hml
  have hsz := H.out
  subst hlen
  refine ⟨r, rfl, ButIn.on HX7.out (ButIn.on (ButIn.of_but HB8.out (by simp)) (ButIn.of_below HZ.out)), ?_⟩
  exact ⟨⟨a3, c3, Ks8.out.below HZ.out, (HT7.out.butIn (ButIn.of_but HB8.out (by simp))).butIn (ButIn.of_below HZ.out)⟩, ⟨_, (HB8.out.blk Kq7.out (by omega)).below HZ.out⟩, ⟨_, _, _, (HB8.out.blk Kf7.out (by omega)).below HZ.out⟩, ⟨_, _, _, (HD7.out.but HB8.out (by omega) (by omega)).below HZ.out⟩, hsz.nsp, hsz.nsb, hsz.nsq, hsz.nsf, hsz.nfp, hsz.nfb, hsz.nfq, hsz.nqp, hsz.nqb, h2, by omega, hsz.bg, hsz.bk, ⟨by omega, by omega⟩, hsz.bk, ⟨by omega, by omega⟩, ⟨by omega, by omega⟩, hsz.btt, hsz.bbt⟩
end Go.Proofs.Ytmpgnpkodapidaa
