/-
  Layer 15: signer.Open on a fresh disk (nothing fails).
-/
import Derived.Test.YtmpgnpkodapidaaSgK
namespace Go.Proofs.Ytmpgnpkodapidaa
open Go.ChangeShapes Go.WideShapes Go.ChangeAt Go.RowKit

def zerosD : List Int := List.replicate (2 * 400) 0
theorem openS_zero : openS 400 zerosD 0 = (0, []) := by decide +kernel
theorem build_signer (tt bt : Int) (q f : Nat) (w : World) : (Instr.build 104 #[(2, .int .i64 tt), (3, .int .i64 bt), (4, .pointer (some ⟨q, 0, none⟩)), (5, .pointer (some ⟨f, 0, none⟩))]).run Try.prog w = .ok (.agg (sgC 0 0 0 0 0 (.slice none 0 0) 0 tt bt q f false)) w := by
  refine run_build w _ _ _ ?_
  obtain ⟨i0, hi, hz0⟩ := Option.map_eq_some_iff.1 (show (Try.prog.info? 104).map (·.zero) = some (some (.agg #[.int .i64 0, .int .i64 0, .int .i64 0, .int .i64 0, .int .i64 0, .slice none 0 0, .int .i64 0, .int .i64 0, .int .i64 0, .pointer none, .pointer none, .bool false])) by kernel_rfl)
  obtain ⟨fields, hu, hq⟩ : ∃ fields, Try.prog.underlying 104 = some (.struct fields) ∧ fields.toList.mapM (fun f => (Try.prog.info? f.type).map fun i => (f.offset, i.size)) = some [(0, 6), (6, 1), (7, 1), (8, 1), (9, 1), (10, 1), (11, 1)] := ⟨_, Try.underlying104, by kernel_rfl⟩
  have hz : (Value.agg #[.int .i64 0, .int .i64 0, .int .i64 0, .int .i64 0, .int .i64 0, .slice none 0 0, .int .i64 0, .int .i64 0, .int .i64 0, .pointer none, .pointer none, .bool false]).cells = #[.int .i64 0, .int .i64 0, .int .i64 0, .int .i64 0, .int .i64 0, .slice none 0 0, .int .i64 0, .int .i64 0, .int .i64 0, .pointer none, .pointer none, .bool false] := rfl
  unfold Program.built
  simp only [hi, hu, hz0, hq, hz]
  have t0 : splice ([.int .i64 0, .int .i64 0, .int .i64 0, .int .i64 0, .int .i64 0, .slice none 0 0, .int .i64 0, .int .i64 0, .int .i64 0, .pointer none, .pointer none, .bool false] : List Value) 7 (Value.int .i64 tt).cells.toList = [.int .i64 0, .int .i64 0, .int .i64 0, .int .i64 0, .int .i64 0, .slice none 0 0, .int .i64 0, .int .i64 tt, .int .i64 0, .pointer none, .pointer none, .bool false] := by rfl
  have t1 : splice ([.int .i64 0, .int .i64 0, .int .i64 0, .int .i64 0, .int .i64 0, .slice none 0 0, .int .i64 0, .int .i64 tt, .int .i64 0, .pointer none, .pointer none, .bool false] : List Value) 8 (Value.int .i64 bt).cells.toList = [.int .i64 0, .int .i64 0, .int .i64 0, .int .i64 0, .int .i64 0, .slice none 0 0, .int .i64 0, .int .i64 tt, .int .i64 bt, .pointer none, .pointer none, .bool false] := by rfl
  have t2 : splice ([.int .i64 0, .int .i64 0, .int .i64 0, .int .i64 0, .int .i64 0, .slice none 0 0, .int .i64 0, .int .i64 tt, .int .i64 bt, .pointer none, .pointer none, .bool false] : List Value) 9 (Value.pointer (some ⟨q, 0, none⟩)).cells.toList = [.int .i64 0, .int .i64 0, .int .i64 0, .int .i64 0, .int .i64 0, .slice none 0 0, .int .i64 0, .int .i64 tt, .int .i64 bt, .pointer (some ⟨q, 0, none⟩), .pointer none, .bool false] := by rfl
  have t3 : splice ([.int .i64 0, .int .i64 0, .int .i64 0, .int .i64 0, .int .i64 0, .slice none 0 0, .int .i64 0, .int .i64 tt, .int .i64 bt, .pointer (some ⟨q, 0, none⟩), .pointer none, .bool false] : List Value) 10 (Value.pointer (some ⟨f, 0, none⟩)).cells.toList = [.int .i64 0, .int .i64 0, .int .i64 0, .int .i64 0, .int .i64 0, .slice none 0 0, .int .i64 0, .int .i64 tt, .int .i64 bt, .pointer (some ⟨q, 0, none⟩), .pointer (some ⟨f, 0, none⟩), .bool false] := by rfl
  rw [fill_part _ _ 2 7 _ _ (by rfl) (by show 7 + 1 ≤ 12; omega), t0]
  rw [fill_part _ _ 3 8 _ _ (by rfl) (by show 8 + 1 ≤ 12; omega), List.toList_toArray, t1]
  rw [fill_part _ _ 4 9 _ _ (by rfl) (by show 9 + 1 ≤ 12; omega), List.toList_toArray, t2]
  rw [fill_part _ _ 5 10 _ _ (by rfl) (by show 10 + 1 ≤ 12; omega), List.toList_toArray, t3, Instr.fill]
  rfl
set_option maxHeartbeats 4000000 in
set_option maxRecDepth 100000 in
theorem sopen_fresh (w : World) (f p bb : Nat) (kv : Value) (tt bt : Int) (hd : DkAt w p bb 400 2 zerosD (.slice none 0 0) true false 0 kv) (kf : Blk w f #[.int .i64 0, .int .i64 0, .int .i64 0] 96) (hfp : f ≠ p) (hfb : f ≠ bb) (ht : 2 ≤ tt ∧ tt ≤ 65536) (hb : 1 ≤ bt ∧ bt ≤ 16) :
    Calls Try.prog 29 #[.pointer (some ⟨p, 0, none⟩), .int .i64 0, .pointer (some ⟨f, 0, none⟩), .int .i64 tt, .int .i64 bt] w fun e w' => ∃ s q, e = .returned (.tuple #[.pointer (some ⟨s, 0, none⟩), .int .i64 0]) ∧ w.heap.size ≤ s ∧ w.heap.size ≤ q ∧ w.heap.size ≤ w'.heap.size ∧ FlowB.ButIn [p, bb, f] w w' ∧ SgAt w' s q f p bb 1 1 0 0 0 0 [] 0 tt bt := by
  have HD := hid hd
  have Kf := hid kf
  have hfl := kf.lt
  have hpl := hd.kp.lt
  have hbl := hd.kb.lt
  have g0 : ¬ tt < 2 := by omega
  have g1 : ¬ 65536 < tt := by omega
  have g2 : ¬ bt < 1 := by omega
  have g3 : ¬ 16 < bt := by omega
  have Hb := hid (Below.refl w.heap.size w)
  clear hd kf
  go_enter Try.func29, Try.ntmps29
  go_wp2_with fail
  refine (open_good w p bb 400 2 zerosD false 0 kv 0 HD.out (by omega) (by omega)).mono ?_
  rintro e w1 ⟨q, ta, tn, tc, rfl, hq, b1, k1, t1⟩
  rw [openS_zero] at k1
  have HB1 := hid b1
  have Kq1 := hid k1
  have HD1 := hid (HD.out.below b1)
  have hs1 := b1.size
  have hql := k1.lt
  clear b1 k1 t1
  go_wp2_with fail
  refine (room_any w1 q p _ _ _ _ bb 400 2 zerosD _ _ _ _ _ HD1.out Kq1.out (by omega)).mono ?_
  rintro e w2 ⟨rfl, b2⟩
  have HB2 := hid (Below.on HB1.out b2)
  have Kq2 := hid (Kq1.out.below b2)
  have HD2 := hid (HD1.out.below b2)
  have hs2 := b2.size
  clear b2
  rw [show (((400 : Nat) : Int) - 18) = 382 from rfl]
  go_wp2_with fail
  have c0 := (Below.refl w2.heap.size w2).alloc (Nat.le_refl _) (.cells (stC 0 0 0 0 0 (.slice none 0 0)) 100 (0, 0))
  refine (turn_any (w2.alloc (.cells (stC 0 0 0 0 0 (.slice none 0 0)) 100 (0, 0))) q p _ _ _ _ (Kq2.out.below c0)).mono ?_
  rintro e w3 ⟨rfl, b3⟩
  have K0 := hid ((Blk.new (w := w2) (n := w2.heap.size) rfl (stC 0 0 0 0 0 (.slice none 0 0)) 100).below b3)
  have b3' := Below.on c0 b3
  have HB3 := hid (Below.on HB2.out b3')
  have Kq3 := hid (Kq2.out.below b3')
  have HD3 := hid (HD2.out.below b3')
  have hs3 := b3'.size
  have h03 := K0.out.lt
  clear b3 b3' c0
  have HBS := hid (fun W : World => build_signer tt bt q f W)
  go_wp2_with (first
     | (refine wpList_buildv rfl 104 _ rfl [(2, .int .i64 tt), (3, .int .i64 bt), (4, .pointer (some ⟨q, 0, none⟩)), (5, .pointer (some ⟨f, 0, none⟩))] rfl _ HBS.out ?_)
     | (refine wpList_load_blk rfl 100 _ rfl (w2.heap.size) rfl _ 100 (K0.out.old (.cells (sgC 0 0 0 0 0 (.slice none 0 0) 0 tt bt q f false) 104 (0, 0))) _ Try.underlying100 rfl 6 size_state rfl ?_))
  have c3 := (Below.refl w3.heap.size w3).alloc (Nat.le_refl _) (.cells (sgC 0 0 0 0 0 (.slice none 0 0) 0 tt bt q f false) 104 (0, 0))
  have hc3 : (w3.alloc (.cells (sgC 0 0 0 0 0 (.slice none 0 0) 0 tt bt q f false) 104 (0, 0))).heap.size = w3.heap.size + 1 := by simp only [World.size_alloc]
  refine (begin_any (w3.alloc (.cells (sgC 0 0 0 0 0 (.slice none 0 0) 0 tt bt q f false) 104 (0, 0))) w3.heap.size q f p bb 400 2 zerosD 0 kv _ (.slice none 0 0) 0 0 0 0 0 0 0 0 0 0 0 0 0 0 0 0 0 0 0 tt bt none 0 0 [] (Blk.new rfl (sgC 0 0 0 0 0 (.slice none 0 0) 0 tt bt q f false) 104) (Kq3.out.below c3) ((Kf.out.below HB3.out).below c3) (HD3.out.below c3) ⟨TextAt.nil, fun x hx => by cases hx⟩ (by omega) (by omega) (by omega) (by omega) (by omega) (by omega) (by omega) (by omega) (by omega) (by omega) hfp hfb (by omega) rfl rfl ⟨by omega, by omega⟩ ⟨by omega, by omega⟩ ⟨by omega, by omega⟩ ⟨by omega, by omega⟩ ⟨by omega, by omega⟩).mono ?_
  rintro e w4 ⟨rfl, b4, k4, ⟨tv4, q4⟩, ⟨fg4, fk4, fh4, f4⟩, d4⟩
  have H4 := hid (show w4.heap.size ≥ w3.heap.size + 1 ∧ SgAt w4 w3.heap.size q f p bb 1 1 0 0 0 0 [] 0 tt bt from ⟨by have := b4.size; omega, ⟨⟨none, 0, k4, ⟨TextAt.nil, fun x hx => by cases hx⟩⟩, ⟨_, q4⟩, ⟨_, _, _, f4⟩, ⟨_, _, _, d4⟩, by omega, by omega, by omega, by omega, hfp, hfb, by omega, by omega, by omega, by simp, by omega, ⟨by omega, by omega⟩, ⟨by omega, by omega⟩, ⟨by omega, by omega⟩, ⟨by omega, by omega⟩, ⟨by omega, by omega⟩, ⟨by omega, by omega⟩, ht, hb⟩⟩)
  have HX4 := hid (show FlowB.ButIn [p, bb, f] w w4 from by
    have x := Below.on HB3.out c3
    refine ⟨b4.os.trans x.os, b4.tape.trans x.tape, b4.output.trans x.output, Nat.le_trans x.size b4.size, fun k hk hn => ?_⟩
    rw [b4.block k (by omega) (by simp only [List.mem_cons, List.not_mem_nil, or_false, not_or] at hn ⊢; omega)]
    exact x.block k hk)
  clear b4 k4 q4 f4 d4 c3
  go_wp2_with fail
  go_returns
  exact ⟨_, _, rfl, by omega, by omega, by have := H4.out.1; omega, HX4.out, H4.out.2⟩
end Go.Proofs.Ytmpgnpkodapidaa
