/-
  Layer 15: a signer begins (nothing fails).
-/
import Derived.Test.YtmpgnpkodapidaaSgJ
namespace Go.Proofs.Ytmpgnpkodapidaa
open Go.ChangeShapes Go.WideShapes Go.ChangeAt Go.RowKit

set_option maxHeartbeats 4000000 in
set_option maxRecDepth 100000 in
theorem begin_any (w : World) (s q f p bb z n : Nat) (B : List Int) (af : Int) (kv tv mvs : Value) (a0 T : Nat) (g0 k0 r0 ik ii gs ks rs iks iis fg fk fh G K R nx tt bt : Int) (ma : Option Addr) (mn mc : Nat) (m : List Int)
    (hk : Blk w s (sgC gs ks rs iks iis mvs nx tt bt q f false) 104) (kq : Blk w q (slC p a0 T tv false) 88) (kf : Blk w f #[.int .i64 fg, .int .i64 fk, .int .i64 fh] 96) (hd : DkAt w p bb z n B (.slice none 0 0) true false af kv) (hT : TextO w [p, bb, q, f, s] ma mn mc m) (hmn : mn ≤ 200) (hz : 272 ≤ z) (ha : a0 + 2 ≤ n) (hu : T < 1000000) (nqp : q ≠ p) (nqb : q ≠ bb) (nsp : s ≠ p) (nsb : s ≠ bb) (nsq : s ≠ q) (nsf : s ≠ f) (nfp : f ≠ p) (nfb : f ≠ bb) (nfq : f ≠ q)
    (hG : max g0 fg = G) (hL : lk k0 r0 fk fh = (K, R)) (bG : 0 ≤ G ∧ G < 1000000) (bK : 0 ≤ K ∧ K < 1000000) (bR : 0 ≤ R ∧ R < 1000000) (bi : 0 ≤ ik ∧ ik < 1000000) (bj : 0 ≤ ii ∧ ii < 1000000) :
    Calls Try.prog 53 #[.pointer (some ⟨s, 0, none⟩), .agg (stC g0 k0 r0 ik ii (.slice ma mn mc))] w fun e w' => e = .returned (.int .i64 0) ∧ FlowB.ButIn [p, bb, q, f, s] w w' ∧ Blk w' s (sgC (G + 1) K R ik ii (.slice ma mn mc) R tt bt q f false) 104 ∧ (∃ tv', Blk w' q (slC p a0 ((T : Int) + 1) tv' false) 88) ∧ (∃ fg' fk' fh', Blk w' f #[.int .i64 fg', .int .i64 fk', .int .i64 fh'] 96) ∧ DkAt w' p bb z n (putS z (a0 + (T + 1) % 2) (slotB z (T + 1) (stB (G + 1) K R ik ii m)) z B) (.slice none 0 0) true false af kv := by
  have kf0 := hid kf
  have kq0 := hid kq
  have hd0 := hid hd
  have hT0 := hid hT
  have b1 := (Below.refl w.heap.size w).alloc (Nat.le_refl _) (.cells (stC g0 k0 r0 ik ii (.slice ma mn mc)) 100 (0, 0))
  have Kt := hid (Blk.new (w := w) (n := w.heap.size) rfl (stC g0 k0 r0 ik ii (.slice ma mn mc)) 100)
  have Hb := hid b1
  have hbz := b1.size
  have Hbs := hid (show w.heap.size + 1 = (w.alloc (.cells (stC g0 k0 r0 ik ii (.slice ma mn mc)) 100 (0, 0))).heap.size by simp only [World.size_alloc])
  clear b1 
  have Kg := hid (hk.old (.cells (stC g0 k0 r0 ik ii (.slice ma mn mc)) 100 (0, 0)))
  have Kq := hid (kq.old (.cells (stC g0 k0 r0 ik ii (.slice ma mn mc)) 100 (0, 0)))
  have Kf := hid (kf.old (.cells (stC g0 k0 r0 ik ii (.slice ma mn mc)) 100 (0, 0)))
  have HD := hid (hd.below Hb.out)
  have HT := hid (hT.butIn (ButIn.of_below Hb.out))
  have hgl := hk.lt
  have hql := kq.lt
  have hfl := kf.lt
  have hpl := hd.kp.lt
  have hbl := hd.kb.lt
  have hz2 := hd.z2
  have hml := hT.text.length
  have HG := hid hG
  have HL := hid hL
  clear kq hk kf hd hT hG hL
  have c10 : (w.alloc (.cells (stC g0 k0 r0 ik ii (.slice ma mn mc)) 100 (0, 0))).cell? ⟨s, 10, none⟩ = some (.pointer (some ⟨f, 0, none⟩)) := by rw [Kg.out.cell]; rfl
  go_enter Try.func53, Try.ntmps53
  go_wp2_with fail
  clear c10
  refine (marks_any f fg fk fh 96 _ Kf.out).mono ?_
  rintro e w1 ⟨rfl, b1⟩
  have HB1 := hid (Below.on Hb.out b1)
  have Kg1 := hid (Kg.out.below b1)
  have Kt1 := hid (Kt.out.below b1)
  have hs1 := HB1.out.size
  clear b1
  go_wp2_with (first
     | (
        refine wpList_store_blk rfl 94 _ _ rfl (w1.heap.size) #[.int .i64 fg, .int .i64 fk, .int .i64 fh] rfl rfl _ 94 (Blk.new rfl #[.int .i64 0, .int .i64 0, .int .i64 0] _) 3 size_pfence rfl rfl (by simp [Value.oneCell']) ?_
        intro w2 hb2 hk2
        have h2 := hb2.below ((Below.refl w1.heap.size w1).alloc (Nat.le_refl _) _) (by simp only [World.size_alloc]; omega) (Nat.le_refl _)
        have HB2 := hid (Below.on HB1.out h2)
        have hs2 := h2.size
        have ht2 := hk2.lt
        have Kn2 := hid hk2
        have Kg2 := hid (Kg1.out.below h2)
        have Kt2 := hid (Kt1.out.below h2)
        have d0 : w2.cell? ⟨w.heap.size, 0, none⟩ = some (.int .i64 g0) := by rw [Kt2.out.cell]; rfl
        have d1 : w2.cell? ⟨w.heap.size, 1, none⟩ = some (.int .i64 k0) := by rw [Kt2.out.cell]; rfl
        have d2 : w2.cell? ⟨w.heap.size, 2, none⟩ = some (.int .i64 r0) := by rw [Kt2.out.cell]; rfl
        
        clear hb2 hk2 h2)
     | (refine wpList_load_blk rfl 94 _ rfl (w1.heap.size) rfl _ 94 Kn2.out _ Try.underlying94 rfl 3 size_pfence rfl ?_))
  clear d0 d1 d2
  refine (least_any g0 k0 r0 fg fk fh w2).mono ?_
  rintro e w3 ⟨rfl, b3⟩
  rw [HG.out, HL.out]
  have HB3 := hid (Below.on HB2.out b3)
  have Kg3 := hid (Kg2.out.below b3)
  have Kt3 := hid (Kt2.out.below b3)
  have hs3 := b3.size
  clear b3
  go_wp2_with (first
     | (
        refine wpList_store_blk rfl 94 _ _ rfl (w3.heap.size) #[.int .i64 G, .int .i64 K, .int .i64 R] rfl rfl _ 94 (Blk.new rfl #[.int .i64 0, .int .i64 0, .int .i64 0] _) 3 size_pfence rfl rfl (by simp [Value.oneCell']) ?_
        intro w4 hb4 hk4
        have h4 := hb4.below ((Below.refl w3.heap.size w3).alloc (Nat.le_refl _) _) (by simp only [World.size_alloc]; omega) (Nat.le_refl _)
        have HB4 := hid (Below.on HB3.out h4)
        have hs4 := h4.size
        have ht4 := hk4.lt
        have Kn4 := hid hk4
        have Kg4 := hid (Kg3.out.below h4)
        have Kt4 := hid (Kt3.out.below h4)
        have d0 : w4.cell? ⟨w3.heap.size, 0, none⟩ = some (.int .i64 G) := by rw [Kn4.out.cell]; rfl
        have d1 : w4.cell? ⟨w3.heap.size, 1, none⟩ = some (.int .i64 K) := by rw [Kn4.out.cell]; rfl
        have d2 : w4.cell? ⟨w3.heap.size, 2, none⟩ = some (.int .i64 R) := by rw [Kn4.out.cell]; rfl
        
        clear hb4 hk4 h4)
     | (refine wpList_load_mid rfl 98 _ rfl (w.heap.size) 3 rfl _ _ (show w4.rangeAt (w.heap.size) 3 [.int .i64 ik, .int .i64 ii, .slice ma mn mc] from fun j u hu => by
        rw [Kt4.out.cell]
        match j, hu with
        | 0, hu => exact hu
        | 1, hu => exact hu
        | 2, hu => exact hu
        | n + 3, hu => simp at hu) Try.underlying98 rfl size_intent ?_)
     | (
        refine wpList_store_blk rfl 100 _ _ rfl (w4.heap.size) (stC (G + 1) K R ik ii (.slice ma mn mc)) rfl rfl _ 100 (Blk.new rfl (stC 0 0 0 0 0 (.slice none 0 0)) _) 6 size_state rfl rfl (stC_ones _ _ _ _ _ _ _ _) ?_
        intro w5 hb5 hk5
        have h5 := hb5.below ((Below.refl w4.heap.size w4).alloc (Nat.le_refl _) _) (by simp only [World.size_alloc]; omega) (Nat.le_refl _)
        have HB5 := hid (Below.on HB4.out h5)
        have hs5 := h5.size
        have ht5 := hk5.lt
        have Kn5 := hid hk5
        have Kg5 := hid (Kg4.out.below h5)
        have Kt5 := hid (Kt4.out.below h5)
        
        clear hb5 hk5 h5)
     | (refine wpList_load_blk rfl 100 _ rfl (w4.heap.size) rfl _ 100 Kn5.out _ Try.underlying100 rfl 6 size_state rfl ?_))
  clear d0 d1 d2
  refine (sraise_any w5 s f (sgC gs ks rs iks iis mvs nx tt bt q f false) (.slice ma mn mc) (G + 1) K R ik ii fg fk fh Kg5.out rfl ((show Blk w f #[.int .i64 fg, .int .i64 fk, .int .i64 fh] 96 from kf0.out).below HB5.out) nsf).mono ?_
  rintro e w6 ⟨rfl, b6, k6⟩
  have Kg6 := hid (b6.blk Kg5.out nsf)
  have Kn6 := hid (b6.blk Kn5.out (by omega))
  have Kf6 := hid k6
  have HX6 := hid (show FlowB.ButIn [f] w w6 from ButIn.on (ButIn.of_below HB5.out) (ButIn.of_but b6 (by simp)))
  have hs6 := b6.size
  clear b6 k6
  go_wp2_with (refine wpList_load_blk rfl 100 _ rfl (w4.heap.size) rfl _ 100 Kn6.out _ Try.underlying100 rfl 6 size_state rfl ?_)
  refine (sreplace_ok w6 s q f p bb z n B af kv tv mvs a0 T (G + 1) K R ik ii gs ks rs iks iis nx tt bt ma mn mc m Kg6.out (HX6.out.blk kq0.out (by simp; omega)) (hd0.out.butQ HX6.out (by omega) (by omega)) ⟨hT0.out.text.butIn (fun x hx => by have := hT0.out.out x hx; simp only [List.mem_cons, List.not_mem_nil, or_false] at this ⊢; omega) HX6.out, fun x hx => by have := hT0.out.out x hx; simp only [List.mem_cons, List.not_mem_nil, or_false] at this ⊢; omega⟩ hmn hz ha (by omega) ⟨by omega, by omega⟩ ⟨by omega, by omega, by omega⟩ ⟨by omega, by omega⟩ ⟨by omega, by omega⟩ ⟨by omega, by omega⟩ ⟨by omega, by omega⟩ ⟨by omega, by omega⟩).mono ?_
  rintro e w7 ⟨rfl, b7, k7, d7, a7, c7', q7, t7, o7⟩
  have Ks7 := hid k7
  have Kq7 := hid q7
  have HD7 := hid d7
  have Kf7 := hid (b7.blk Kf6.out (by simp; omega))
  have Kn7 := hid (b7.blk Kn6.out (by simp; omega))
  have HX7 := hid (ButIn.on (S := [p, bb, q, f, s]) (ButIn.wide HX6.out (by simp)) (ButIn.wide b7 (by simp)))
  have d2 : w7.cell? ⟨w4.heap.size, 2, none⟩ = some (.int .i64 R) := by rw [Kn7.out.cell]; rfl
  have HT7 := hid t7
  have HO7 := hid o7
  clear b7 k7 d7 q7 t7 o7
  go_wp2_with (
        refine wpList_store_cell rfl 3 _ _ rfl s 6 (.int .i64 R) rfl rfl rfl rfl _ 104 Ks7.out (by simp [sgC]) size_dint ?_
        intro w8 hb8 hk8
        have Ks8 := hid (show Blk w8 s (sgC (G + 1) K R ik ii (.slice ma mn mc) R tt bt q f false) 104 from hk8)
        have HB8 := hid hb8
        clear hb8 hk8)
  go_returns
  refine ⟨rfl, ButIn.on HX7.out (ButIn.of_but HB8.out (by simp)), Ks8.out, ⟨_, HB8.out.blk Kq7.out (by omega)⟩, ⟨_, _, _, HB8.out.blk Kf7.out (by omega)⟩, HD7.out.but HB8.out (by omega) (by omega)⟩
end Go.Proofs.Ytmpgnpkodapidaa
