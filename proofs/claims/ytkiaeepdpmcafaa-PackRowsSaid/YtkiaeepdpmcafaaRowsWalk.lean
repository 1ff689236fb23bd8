/-
  The statement PackRows: the walk of its text.
-/
import Derived.Test.YtkiaeepdpmcafaaSplitFacts
import Derived.Test.YtkiaeepdpmcafaaKnowsPack
import Derived.Test.YtkiaeepdpmcafaaFew
import Derived.Test.YtkiaeepdpmcafaaFlow

namespace Go.Proofs.Ytkiaeepdpmcafaa
open Go.ChangeShapes Go.WideShapes Go.ChangeAt Go.RowKit

theorem rows_not (a : Option Addr) (n c : Nat) (ts : List (List Int)) (w : World) (hT : TextsAt w a n c ts) (hr : ∀ t ∈ ts, t.length ≤ 140737488351232) (hf : fewB ts 3000 = false) :
    Calls Try.prog 11 #[.slice a n c] w fun e w' => e = .returned (.bool true) ∧ Below w.heap.size w w' := by
  have h := few_any a n c ts 3000 w hT hr
  rw [hf] at h
  go_enter Try.func11, Try.ntmps11
  go_wp2_with (first | (go_at_call 42; refine h.mono ?_; rintro e w1 ⟨rfl, rfl⟩) | (go_at_call 37; refine (knows03 _).mono ?_; rintro e w2 ⟨rfl, bel⟩))
  go_returns
  exact ⟨rfl, bel⟩

set_option maxHeartbeats 2000000 in
theorem rows_walk (a : Option Addr) (n c : Nat) (ts : List (List Int)) (w : World) (hT : TextsAt w a n c ts) (hr : ∀ t ∈ ts, t.length ≤ 140737488351232) (hf : fewB ts 3000 = true) :
    Calls Try.prog 11 #[.slice a n c] w fun e w' => e = .returned (.bool true) ∧ Below w.heap.size w w' := by
  have h := few_any a n c ts 3000 w hT hr
  rw [hf] at h
  obtain ⟨hsum, hn⟩ := fewB_spec hf
  have hl := hT.length
  have h6 : ∀ t ∈ ts, t.length ≤ 65535 := fun t ht => Nat.le_trans (len_le_sum hsum t ht) (by omega)
  have hrow := row_any a n c ts w hT (by omega) h6
  have hsp := splitB_row ts (by omega) h6
  have hRl := rowB_length ts h6
  have hRs : ∀ x ∈ be 2 n ++ rowB ts, 0 ≤ x ∧ x < 256 := fun x hx => by
    rw [List.mem_append] at hx
    rcases hx with hx | hx
    · exact be_small 2 n x hx
    · unfold rowB at hx
      simp only [List.mem_flatMap, List.mem_append] at hx
      obtain ⟨t, ht, hx | hx⟩ := hx
      · exact be_small 2 _ x hx
      · exact hT.small t ht x hx
  rw [hl] at hsp
  have hn' : n ≤ 100 := by omega
  have HT := hid hT
  have Hl := hid hl
  have H6 := hid h6
  have Hsp := hid hsp
  have HRs := hid hRs
  have hlen : (be 2 (n : Int) ++ rowB ts).length = 2 + (rowB ts).length := by simp [be_length]
  have hRl2 : (rowB ts).length ≤ 6553700 := Nat.le_trans hRl (Nat.le_trans (Nat.mul_le_mul_right _ (show ts.length ≤ 100 by omega)) (by decide))
  generalize hB : be 2 (n : Int) ++ rowB ts = B at *
  have HB := hid hB
  generalize (rowB ts).length = m at *
  clear hT hl h6 hsum hf hr hRl hsp hRs hB
  go_enter Try.func11, Try.ntmps11
  go_wp2_with (first | (go_at_call 42; refine h.mono ?_; rintro e w1 ⟨rfl, rfl⟩))
  refine hrow.mono ?_
  rintro e w1 ⟨g, m', cap, rfl, rfl, hc1, hc2, hg, b1, hR⟩
  have hTB := TextAt.of_row hR hlen hc1 hc2 HRs.out
  have HTB := hid hTB
  have hspl := split_any hTB (by omega)
  rw [Hsp.out] at hspl
  clear hrow hR hTB h hlen
  go_wp2_with fail
  refine hspl.mono ?_
  rintro e w2 ⟨b2, ⟨h, _⟩ | ⟨l, v, h, rfl, hown⟩⟩
  · cases h
  injection h with h
  subst h
  obtain ⟨av, cv, rfl, hTv⟩ := hown.texts
  rw [Hl.out] at hTv
  rw [Hl.out]
  have bel := Below.on b1 b2
  have HTv := hid hTv
  have HTB2 := hid (HTB.out.below b2)
  clear hspl hown hTv b1 b2
  go_wp2_with fail
  refine wp_region_flow 22 [0, 1, 2] [] [(.c 3, [4, 5, 6, 7, 8, 9, 10, 11, 12, 13, 14, 15, 16, 17, 18, 19, 20, 21], [])] (by kernel_rfl) (by kernel_rfl) ?_
  apply Exists.intro
  refine ⟨fun w0 hb0 hF0 => ?_, ?_⟩
  · have h1 := conv_ext (HTB2.out.below hb0)
    simp only [pick, List.getElem?_toArray, List.getElem?_cons_succ, List.getElem?_cons_zero, Option.toList_some, List.cons_append, List.nil_append]
    repeat (go_big_quiet_step (fail))
    exact wpQuiet_nil rfl
  refine AlChk.nil ?_
  refine Walk.call rfl 45 #[.slice a n c] (fun v w' => OwnB w' w.heap.size 5 v B) (fun v w' w'' h k => h.below k) rfl (fun w3 hb3 hF3 => ⟨by go_simp, ?_⟩) ?_
  · have b3 := Below.on bel hb3
    refine (refrow_any a n c ts w3 (HT.out.below b3) (by omega) H6.out).mono ?_
    rintro e w4 ⟨v, rfl, b4, ho⟩
    rw [HB.out] at ho
    exact ⟨v, rfl, b4, ho.re b3.size⟩
  rintro v w4 hb4 hF4 ho
  obtain ⟨a4, c4, rfl, hT4, _⟩ := ho.text
  clear hT4 ho
  apply Exists.intro
  refine ⟨fun w5 hb5 hF5 => ?_, ?_⟩
  · have h2 : ∀ x : Ext w5, (convert 56 9 (.slice a4 B.length c4)).run Try.prog x.at_ = .ok (.string (strOfNums B)) x.at_ := by
      obtain ⟨a5, c5, he, hT5, _⟩ := hF5.2.text
      injection he with e1 e2 e3
      subst e1 e3
      exact conv_ext hT5
    have b5 := Below.on bel hb5
    have hsame := fun x : Ext w5 => same_eq a av n c cv ts x.at_ (HT.out.below (Below.on b5 x.same)) (HTv.out.below (Below.on hb5 x.same))
    simp only [pick, List.getElem?_toArray, List.getElem?_cons_succ, List.getElem?_cons_zero, Option.toList_some, List.cons_append, List.nil_append, Act.put, List.setIfInBounds_toArray, List.set_cons_zero, List.set_cons_succ]
    repeat (go_big_quiet_step (first | (go_at_call 46; exact Calls.ext (hsame _)) | (go_at_call 37; exact Calls.ext (knows03 _))))
    exact wpQuiet_nil rfl
  refine AlChk.nil ?_
  refine Walk.fin fun w9 hb9 _ _ => ?_
  simp only [List.drop_succ_cons, List.drop_zero]
  go_wp2_with fail
  go_returns
  exact ⟨rfl, Below.on bel hb9⟩
end Go.Proofs.Ytkiaeepdpmcafaa
