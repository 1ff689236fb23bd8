/-
  Layer 15: what the law knows.
-/
import Derived.Test.YtmpgnpkodapidaaSgL
import Derived.Lib.SmallJoins
namespace Go.Proofs.Ytmpgnpkodapidaa
open Go.ChangeShapes Go.WideShapes Go.ChangeAt Go.RowKit

theorem SgAt.below {w w' : World} {s q f p bb T : Nat} {g k r ik ii : Int} {m : List Int} {nx tt bt : Int} (h : SgAt w s q f p bb T g k r ik ii m nx tt bt) (hb : Below w.heap.size w w') : SgAt w' s q f p bb T g k r ik ii m nx tt bt := by
  obtain ⟨ma, mc, h1, h2⟩ := h.sg
  obtain ⟨tv, h3⟩ := h.sl
  obtain ⟨a, b, c, h4⟩ := h.fe
  obtain ⟨B, af, kv, h5⟩ := h.dk
  exact { h with sg := ⟨ma, mc, h1.below hb, h2.butIn (ButIn.of_below hb)⟩, sl := ⟨tv, h3.below hb⟩, fe := ⟨a, b, c, h4.below hb⟩, dk := ⟨B, af, kv, h5.below hb⟩ }
theorem SgAt.lts {w : World} {s q f p bb T : Nat} {g k r ik ii : Int} {m : List Int} {nx tt bt : Int} (h : SgAt w s q f p bb T g k r ik ii m nx tt bt) : s < w.heap.size ∧ q < w.heap.size ∧ f < w.heap.size ∧ p < w.heap.size ∧ bb < w.heap.size := by
  obtain ⟨ma, mc, h1, h2⟩ := h.sg
  obtain ⟨tv, h3⟩ := h.sl
  obtain ⟨a, b, c, h4⟩ := h.fe
  obtain ⟨B, af, kv, h5⟩ := h.dk
  exact ⟨h1.lt, h3.lt, h4.lt, h5.kp.lt, h5.kb.lt⟩
theorem SgAt.made {w : World} {s q f p bb T : Nat} {g k r ik ii : Int} {m : List Int} {nx tt bt : Int} (h : SgAt w s q f p bb T g k r ik ii m nx tt bt) (bs : List Int) (n : Nat) (hn : bs.length = n) (hm : n ≤ 9223372036854775807) (hs : ∀ x ∈ bs, 0 ≤ x ∧ x < 256) (U : TypeId) (mark : Nat × Nat) :
    SgAt (w.alloc (.cells (bs.map (Value.int .u8)).toArray U mark)) s q f p bb T g k r ik ii m nx tt bt ∧ TextO (w.alloc (.cells (bs.map (Value.int .u8)).toArray U mark)) [p, bb, q, f, s] (some ⟨w.heap.size, 0, none⟩) n n bs := by
  have L := h.lts
  refine ⟨h.below ((Below.refl w.heap.size w).alloc (Nat.le_refl _) _), TextAt.made mark hn hm hs, fun x hx => ?_⟩
  cases hx
  simp only [List.mem_cons, List.not_mem_nil, or_false]
  omega
theorem conv_one (c : Int) (W : World) : (convert 31 31 (.slice (some ⟨W.heap.size, 0, none⟩) 1 1)).run Try.prog (W.alloc (.cells #[.int .u8 c] 5)) = .ok (.slice (some ⟨W.heap.size, 0, none⟩) 1 1) (W.alloc (.cells #[.int .u8 c] 5 (1, 2))) := by
  have h := Go.Lib.run_convert_bytes_const (P := Try.prog) W 31 5 #[.int .u8 c] 1 1 Try.underlying31 Try.underlying5
  simpa using h
theorem deal_new (w : World) (s q f p bb T : Nat) (g k r ik ii : Int) (m : List Int) (nx tt bt : Int) (ma : Option Addr) (mn mc : Nat) (mm : List Int) (h : SgAt w s q f p bb T g k r ik ii m nx tt bt) (hT : TextO w [p, bb, q, f, s] ma mn mc mm) (h1 : 1 ≤ mn) (h2 : mn ≤ 200) (hq : ¬ m = mm) (hsp : nx < tt - 1) (hT1 : T + 1 < 1000000) :
    Calls Try.prog 30 #[.pointer (some ⟨s, 0, none⟩), .slice ma mn mc] w fun e w' => ∃ r', e = .returned (.tuple #[.int .i64 k, .int .i64 nx, .int .i64 0]) ∧ FlowB.ButIn [p, bb, q, f, s] w w' ∧ SgAt w' s q f p bb (T + 1) g k r' k nx mm (nx + 1) tt bt := by
  by_cases hr : r ≤ nx
  · by_cases hm : tt - 1 < r + bt
    · exact deal_hi w s q f p bb T g k r ik ii m nx tt bt ma mn mc mm h hT h1 h2 hq hsp hT1 hr hm
    · exact deal_lo w s q f p bb T g k r ik ii m nx tt bt ma mn mc mm h hT h1 h2 hq hsp hT1 hr (by omega)
  · exact deal_plain w s q f p bb T g k r ik ii m nx tt bt ma mn mc mm h hT h1 h2 hq hsp hT1 hr
set_option maxHeartbeats 4000000 in
set_option maxRecDepth 100000 in
theorem sopen_nil (w : World) (d : Value) : Calls Try.prog 29 #[d, .int .i64 0, .pointer none, .int .i64 2, .int .i64 1] w fun e w' => e = .returned (.tuple #[.pointer none, .int .i64 1]) ∧ Below w.heap.size w w' := by
  have Hb := hid (Below.refl w.heap.size w)
  go_enter Try.func29, Try.ntmps29
  go_wp2_with fail
  go_returns
  exact ⟨rfl, Hb.out⟩
set_option maxHeartbeats 4000000 in
set_option maxRecDepth 100000 in
theorem knows15 (w : World) : Calls Try.prog 28 #[] w fun e w' => e = .returned (.bool true) ∧ Below w.heap.size w w' := by
  have Hb := hid (Below.refl w.heap.size w)
  have hcv := conv_one
  go_enter Try.func28, Try.ntmps28
  go_wp2_with fail
  refine (new_good w 2 400 (by omega) (by omega) (by omega) (by omega)).mono ?_
  rintro e w1 ⟨p, bb, rfl, hp, hbb, b1, d1⟩
  have HB1 := hid b1
  have HD1 := hid d1
  have hs1 := b1.size
  have hpl := d1.kp.lt
  have hbl := d1.kb.lt
  clear b1 d1
  go_wp2_with fail
  refine (new_any w1).mono ?_
  rintro e w2 ⟨rfl, b2, f2⟩
  have HB2 := hid (Below.on HB1.out b2)
  have HD2 := hid (HD1.out.below b2)
  have HF2 := hid f2
  have hs2 := b2.size
  have hfl := f2.lt
  clear b2 f2
  go_wp2_with fail
  refine (sopen_fresh w2 w1.heap.size p bb _ 2 1 HD2.out HF2.out (by omega) (by omega) (by omega) (by omega)).mono ?_
  rintro e w3 ⟨s, q, rfl, hs, hq, hsz, b3, g3⟩
  have HB3 := hid (b3.below HB2.out (by omega) (by simp only [List.mem_cons, List.not_mem_nil, or_false, forall_eq_or_imp, forall_eq]; omega))
  have HG3 := hid g3
  clear b3 g3
  go_wp2_with fail
  refine (sopen_nil w3 _).mono ?_
  rintro e w4 ⟨rfl, b4⟩
  have HB4 := hid (Below.on HB3.out b4)
  have HG4 := hid (HG3.out.below b4)
  have hs4 := b4.size
  clear b4
  go_wp2_with fail
  have M := HG4.out.made [97] 1 rfl (by omega) (by simp) 5 (1, 2)
  have HA4 := hid M.1
  have HT4 := hid M.2
  have hb4 := hid (Below.on HB4.out ((Below.refl w4.heap.size w4).alloc (Nat.le_refl _) (.cells (List.map (Value.int .u8) [97]).toArray 5 (1, 2))))
  have hz4 := hb4.out.size
  have hl4 := HA4.out.lts
  clear M
  refine (deal_new _ s q _ p bb 1 1 0 0 0 0 [] 0 2 1 _ 1 1 [97] HA4.out HT4.out (by omega) (by omega) (by decide) (by omega) (by omega)).mono ?_
  rintro e w5 ⟨r5, rfl, b5, g5⟩
  have HB5 := hid (b5.below hb4.out (by omega) (by simp only [List.mem_cons, List.not_mem_nil, or_false, forall_eq_or_imp, forall_eq]; omega))
  have HG5 := hid g5
  clear g5
  clear b5 hb4 hz4 hl4 HA4 HT4
  go_wp2_with fail
  have M := HG5.out.made [98] 1 rfl (by omega) (by simp) 5 (1, 2)
  have HA5 := hid M.1
  have HT5 := hid M.2
  have hb5 := hid (Below.on HB5.out ((Below.refl w5.heap.size w5).alloc (Nat.le_refl _) (.cells (List.map (Value.int .u8) [98]).toArray 5 (1, 2))))
  have hz5 := hb5.out.size
  have hl5 := HA5.out.lts
  clear M
  refine (deal_spent _ s q _ p bb 2 1 0 r5 0 0 [97] 1 2 1 _ 1 1 [98] HA5.out HT5.out (by omega) (by omega) (by decide) (by omega)).mono ?_
  rintro e w6 ⟨rfl, b6⟩
  have HB6 := hid (Below.on hb5.out b6)
  have HG6 := hid (HA5.out.below b6)
  clear b6 hb5 hz5 hl5 HA5 HT5
  go_wp2_with fail
  have M := HG6.out.made [114] 1 rfl (by omega) (by simp) 5 (1, 2)
  have HA6 := hid M.1
  have HT6 := hid M.2
  have hb6 := hid (Below.on HB6.out ((Below.refl w6.heap.size w6).alloc (Nat.le_refl _) (.cells (List.map (Value.int .u8) [114]).toArray 5 (1, 2))))
  have hz6 := hb6.out.size
  have hl6 := HA6.out.lts
  clear M
  refine (roll_new _ s q _ p bb 2 1 0 r5 0 0 [97] 1 2 1 _ 1 1 [114] HA6.out HT6.out (by omega) (by omega) (by decide) (by omega) (by omega) (by omega)).mono ?_
  rintro e w7 ⟨rfl, b7, g7⟩
  have HB7 := hid (b7.below hb6.out (by omega) (by simp only [List.mem_cons, List.not_mem_nil, or_false, forall_eq_or_imp, forall_eq]; omega))
  have HG7 := hid g7
  clear g7
  clear b7 hb6 hz6 hl6 HA6 HT6
  go_wp2_with fail
  have M := HG7.out.made [98] 1 rfl (by omega) (by simp) 5 (1, 2)
  have HA7 := hid M.1
  have HT7 := hid M.2
  have hb7 := hid (Below.on HB7.out ((Below.refl w7.heap.size w7).alloc (Nat.le_refl _) (.cells (List.map (Value.int .u8) [98]).toArray 5 (1, 2))))
  have hz7 := hb7.out.size
  have hl7 := HA7.out.lts
  clear M
  refine (deal_new _ s q _ p bb 3 1 1 0 0 1 [114] 0 2 1 _ 1 1 [98] HA7.out HT7.out (by omega) (by omega) (by decide) (by omega) (by omega)).mono ?_
  rintro e w8 ⟨r8, rfl, b8, g8⟩
  have HB8 := hid (b8.below hb7.out (by omega) (by simp only [List.mem_cons, List.not_mem_nil, or_false, forall_eq_or_imp, forall_eq]; omega))
  have HG8 := hid g8
  clear g8
  clear b8 hb7 hz7 hl7 HA7 HT7
  go_wp2_with fail
  obtain ⟨ma, mc, hk, -⟩ := HG8.out.sg
  have HK := hid hk
  clear hk
  refine (skey_any w8 s _ _ _ _ _ _ _ _ _ _ _ _ HK.out).mono ?_
  rintro e w9 ⟨rfl, b9⟩
  have HB9 := hid (Below.on HB8.out b9)
  have HK9 := hid (HK.out.below b9)
  clear b9
  go_wp2_with fail
  refine (snext_any w9 s _ _ _ _ _ _ _ _ _ _ _ _ HK9.out).mono ?_
  rintro e w10 ⟨rfl, b10⟩
  have HB10 := hid (Below.on HB9.out b10)
  clear b10
  go_wp2_with fail
  go_returns
  exact ⟨rfl, HB10.out⟩
end Go.Proofs.Ytmpgnpkodapidaa
