/-
  The statement PackNumbers: the walk of its text, at most eight bytes.
-/
import Derived.Test.YtkiaeepdpmcafaaNumbersWalk
import Derived.Test.YtkiaeepdpmcafaaFlow

namespace Go.Proofs.Ytkiaeepdpmcafaa
open Go.ChangeShapes Go.WideShapes Go.ChangeAt Go.RowKit

theorem be_numOf (bs : List Int) (hb : ∀ x ∈ bs, 0 ≤ x ∧ x < 256) : be bs.length (numOf bs) = bs := by
  have key : ∀ (k : Nat), k ≤ bs.length → be k (numOf (bs.take k)) = bs.take k := by
    intro k
    induction k with
    | zero => intro _; simp [be]
    | succ k ih =>
      intro hk
      have h2 := hb bs[k] (List.getElem_mem _)
      rw [take_next bs k (by omega), numOf_snoc, show bs.getD k 0 = bs[k] by simp [show k < bs.length by omega]]
      have e1 : (256 * numOf (bs.take k) + bs[k]) / 256 = numOf (bs.take k) := by omega
      have e2 : (256 * numOf (bs.take k) + bs[k]) % 256 = bs[k] := by omega
      rw [be, e1, e2, ih (by omega)]
  have := key bs.length (Nat.le_refl _)
  simpa using this

theorem of_text {w : World} {a : Option Addr} {len cap : Nat} {bs : List Int} (h : TextAt w a len cap bs) (h8 : len ≤ 8) :
    Calls Try.prog 38 #[.slice a len cap] w fun e w' => e = .returned (.tuple #[.int .u64 (numOf bs), .int .i64 0]) ∧ w = w' := by
  rcases Nat.eq_zero_or_pos len with rfl | h0
  · rw [h.empty rfl]
    exact of_nil _ _ _
  · obtain ⟨x, o, rfl, hx, hc⟩ := h.at_ h0
    exact of_bytes x o bs len cap w h.length h8 h.small hc
theorem ref_text {w : World} {a : Option Addr} {len cap : Nat} {bs : List Int} (h : TextAt w a len cap bs) (h8 : len ≤ 8) :
    Calls Try.prog 39 #[.slice a len cap] w fun e w' => e = .returned (.int .u64 (numOf bs)) ∧ Below w.heap.size w w' := by
  rcases Nat.eq_zero_or_pos len with rfl | h0
  · rw [h.empty rfl]
    exact (ref_of_nil _ _ _).mono fun _ _ ⟨h, e⟩ => ⟨h, e ▸ Below.refl _ _⟩
  · obtain ⟨x, o, rfl, hx, hc⟩ := h.at_ h0
    exact (ref_of x o bs len cap w h.length h8 h.small hc).mono fun _ _ ⟨h, e⟩ => ⟨h, e ▸ Below.refl _ _⟩
theorem text_string {w : World} {a : Option Addr} {len cap : Nat} {bs : List Int} (h : TextAt w a len cap bs) : (convert 56 9 (.slice a len cap)).run Try.prog w = .ok (.string (strOfNums bs)) w :=
  h.string Try.underlying56 Try.underlying5 Try.underlying9

theorem refnumber_int (n0 x : Int) (k : Nat) (w : World) (h0 : 0 ≤ n0) (h1 : n0 < 18446744073709551616) (hk : k ≤ 64) (hx : x = (k : Int)) (S : ByteArray) (hS : strOfNums (be k n0) = S) :
    Calls Try.prog 41 #[.int .u64 n0, .int .i64 x] w fun e w' => ∃ v, e = .returned v ∧ Below w.heap.size w w' ∧ ConvS S v w' := by
  subst hx
  refine (refnumber_any n0 k _ h0 h1 hk).mono ?_
  rintro e w5 ⟨v, rfl, b5, hv⟩
  refine ⟨v, rfl, b5, ?_⟩
  rcases hv with ⟨rfl, rfl⟩ | ⟨_, g5, cap5, rfl, _, hr5⟩
  · exact ConvS.nil hS
  · exact ConvS.of hr5 (be_length k n0) hS
theorem number_conv (n s : Int) (k : Nat) (w : World) (h0 : 0 ≤ n) (h1 : n < 18446744073709551616) (hk : max 0 (min s 64) = (k : Int)) (S : ByteArray) (hS : strOfNums (be k n) = S) :
    Calls Try.prog 40 #[.int .u64 n, .int .i64 s] w fun e w' => ∃ v, e = .returned v ∧ Below w.heap.size w w' ∧ ConvS S v w' := by
  refine (number_any n s k _ h0 h1 hk).mono ?_
  rintro e w5 ⟨g5, hg5, rfl, b5, kB5⟩
  exact ⟨_, rfl, b5, ConvS.of (row_of kB5 rfl) (be_length k n) hS⟩

set_option maxHeartbeats 2000000 in
set_option maxRecDepth 100000 in
theorem numbers_short (n s : Int) (a : Option Addr) (len cap : Nat) (bs : List Int) (w : World) (hn0 : 0 ≤ n) (hn1 : n < 18446744073709551616) (h8 : len ≤ 8) (hT : TextAt w a len cap bs) :
    Calls Try.prog 10 #[.int .u64 n, .int .i64 s, .slice a len cap] w fun e w' => e = .returned (.bool true) ∧ Below w.heap.size w w' := by
  have h1 : ¬ (100 : Int) < (len : Int) := by omega
  have h2 : ¬ (8 : Int) < (len : Int) := by omega
  obtain ⟨k, hk⟩ : ∃ k : Nat, max 0 (min s 64) = (k : Int) := ⟨(max 0 (min s 64)).toNat, by omega⟩
  have hb := hT.small
  have hof := of_text hT h8
  have hlen := hT.length
  have hbn := be_numOf bs hb
  have hnb := numOf_bounds bs hb
  rw [hlen] at hbn hnb
  have hN1 : numOf bs < 18446744073709551616 := by
    have hp : (256 : Int) ^ len ≤ 18446744073709551616 := by
      rw [show (18446744073709551616 : Int) = (256 : Int) ^ 8 by decide]
      exact_mod_cast Nat.pow_le_pow_right (show 0 < 256 by decide) h8
    omega
  have hN0 := hnb.1
  have hkl : max 0 (min (len : Int) 64) = (len : Int) := by omega
  have Hkl := hid hkl
  have Hk := hid hk
  have HT := hid hT
  have HBN := hid hbn
  have H8 := hid h8
  clear hnb hbn hlen hT hkl hb hk h8
  have t1 : (numOf bs != numOf bs) = false := by simp
  have hs : s < 0 ∨ (¬ s < 0 ∧ 64 < s) ∨ (¬ s < 0 ∧ ¬ 64 < s) := by omega
  rcases hs with hs1 | ⟨hs1, hs2⟩ | ⟨hs1, hs2⟩
  all_goals
    go_enter Try.func10, Try.ntmps10
    go_wp2_with (go_at_call 38; refine hof.mono ?_; rintro e w1 ⟨rfl, rfl⟩)
    refine wp_region_flow 18 [0, 1, 2, 3, 4, 5, 6, 7, 8, 9, 10, 11, 14, 15] [] [(.c 12, [13, 16, 17], [])] (by kernel_rfl) (by kernel_rfl) ?_
    apply Exists.intro; refine ⟨fun w0 hb0 hF0 => ?_, ?_⟩
    · have href : ∀ x : Ext w0, _ := fun x => ref_text ((HT.out.below hb0).below x.same) H8.out
      have hconv : ∀ x : Ext w0, _ := fun x => text_string ((HT.out.below hb0).below x.same)
      simp only [pick, List.getElem?_toArray, List.getElem?_cons_succ, List.getElem?_cons_zero, Option.toList_some, List.cons_append, List.nil_append]
      repeat (go_big_quiet_step (first | (go_at_call 39; exact Calls.ext (href _))))
      exact wpQuiet_nil rfl
    refine AlChk.nil ?_
    refine Walk.call rfl 40 #[.int .u64 (numOf bs), .int .i64 len] (ConvS (strOfNums bs)) (fun v w' w'' h k => h.below k) rfl (fun w1 hb1 hF1 => ⟨by go_simp, number_conv _ _ len _ hN0 hN1 Hkl.out _ (by rw [HBN.out])⟩) ?_
    intro v w0 hb0 hF0 _
    apply Exists.intro; refine ⟨fun w1 hb1 hF1 => ?_, ?_⟩
    · have hs : ∀ x : Ext w1, (convert 56 9 v).run Try.prog x.at_ = .ok (.string (strOfNums bs)) x.at_ := fun x => hF1.2 _ x.same
      simp only [pick, List.getElem?_toArray, List.getElem?_cons_succ, List.getElem?_cons_zero, Option.toList_some, List.cons_append, List.nil_append, Act.put, List.setIfInBounds_toArray, List.set_cons_zero, List.set_cons_succ]
      repeat (go_big_quiet_step (fail))
      exact wpQuiet_nil rfl
    refine AlChk.nil ?_
    refine Walk.fin fun w2 hb2 hF2 _ => ?_
    simp only [List.drop_succ_cons, List.drop_zero]
    clear hF2 hF0 hb0
    go_wp2_with fail
    refine (number_any n 8 8 _ hn0 hn1 (by decide)).mono ?_
    rintro e w3 ⟨g, hg, rfl, b3, kB⟩
    have hrow := row_of kB (rfl : be ((8 : Nat)) n = be 8 n)
    have hof8 := of_bytes g 0 (be 8 n) 8 8 w3 (be_length 8 n) (by decide) (be_small 8 n) (fun i hi => by rw [Nat.zero_add]; exact hrow.cell i (by rw [be_length]; exact hi))
    rw [be8 n hn0 hn1] at hof8
    have bel := Below.on hb2 b3
    clear b3 kB hrow hb2
    go_wp2_with fail
    refine hof8.mono ?_
    rintro e w4 ⟨rfl, rfl⟩
    clear hof8
    go_wp2_with fail
    refine wp_region_flow 21 [0, 1, 4, 5] [] [(.c 2, [3], []), (.c 6, [7, 8, 9, 10, 11, 12, 13, 14, 15, 16, 17, 18, 19, 20], [])] (by kernel_rfl) (by kernel_rfl) ?_
    apply Exists.intro; refine ⟨fun w0 hb0 hF0 => ?_, ?_⟩
    · simp only [pick, List.getElem?_toArray, List.getElem?_cons_succ, List.getElem?_cons_zero, Option.toList_some, List.cons_append, List.nil_append]
      repeat (go_big_quiet_step (fail))
      exact wpQuiet_nil rfl
    refine AlChk.nil ?_
    refine Walk.call rfl 40 #[.int .u64 n, .int .i64 s] (ConvS (strOfNums (be k n))) (fun v w' w'' h k => h.below k) rfl (fun w1 hb1 hF1 => ⟨by go_simp, number_conv _ _ k _ hn0 hn1 Hk.out _ rfl⟩) ?_
    intro v1 w0 hb0 hF0 _
    apply Exists.intro; refine ⟨fun w1 hb1 hF1 => ?_, ?_⟩
    · have hs : ∀ x : Ext w1, (convert 56 9 v1).run Try.prog x.at_ = .ok (.string (strOfNums (be k n))) x.at_ := fun x => hF1.2 _ x.same
      simp only [pick, List.getElem?_toArray, List.getElem?_cons_succ, List.getElem?_cons_zero, Option.toList_some, List.cons_append, List.nil_append, Act.put, List.setIfInBounds_toArray, List.set_cons_zero, List.set_cons_succ]
      repeat (go_big_quiet_step (fail))
      exact wpQuiet_nil rfl
    refine AlChk.nil ?_
    first
      | (have _g : s < 0 := hs1; refine Walk.call rfl 41 #[.int .u64 n, .int .i64 0] (ConvS (strOfNums (be k n))) (fun v w' w'' h k => h.below k) rfl (fun w1 hb1 hF1 => ⟨by go_simp, refnumber_int _ _ k _ hn0 hn1 (by have := Hk.out; omega) (by have := Hk.out; omega) _ rfl⟩) ?_)
      | (have _g : 64 < s := hs2; refine Walk.call rfl 41 #[.int .u64 n, .int .i64 64] (ConvS (strOfNums (be k n))) (fun v w' w'' h k => h.below k) rfl (fun w1 hb1 hF1 => ⟨by go_simp, refnumber_int _ _ k _ hn0 hn1 (by have := Hk.out; omega) (by have := Hk.out; omega) _ rfl⟩) ?_)
      | (have _g : s ≤ 64 := hs2; refine Walk.call rfl 41 #[.int .u64 n, .int .i64 s] (ConvS (strOfNums (be k n))) (fun v w' w'' h k => h.below k) rfl (fun w1 hb1 hF1 => ⟨by go_simp, refnumber_int _ _ k _ hn0 hn1 (by have := Hk.out; omega) (by have := Hk.out; omega) _ rfl⟩) ?_)
    intro v2 w0 hb0 hF0 _
    apply Exists.intro; refine ⟨fun w1 hb1 hF1 => ?_, ?_⟩
    · have hs : ∀ x : Ext w1, (convert 56 9 v2).run Try.prog x.at_ = .ok (.string (strOfNums (be k n))) x.at_ := fun x => hF1.2 _ x.same
      simp only [pick, List.getElem?_toArray, List.getElem?_cons_succ, List.getElem?_cons_zero, Option.toList_some, List.cons_append, List.nil_append, Act.put, List.setIfInBounds_toArray, List.set_cons_zero, List.set_cons_succ]
      repeat (go_big_quiet_step (first | (go_at_call 37; exact Calls.ext (knows03 _))))
      exact wpQuiet_nil rfl
    refine AlChk.nil ?_
    refine Walk.fin fun w9 hb9 hF9 _ => ?_
    simp only [List.drop_succ_cons, List.drop_zero]
    go_wp2_with fail
    go_returns
    exact ⟨rfl, Below.on bel hb9⟩
end Go.Proofs.Ytkiaeepdpmcafaa
