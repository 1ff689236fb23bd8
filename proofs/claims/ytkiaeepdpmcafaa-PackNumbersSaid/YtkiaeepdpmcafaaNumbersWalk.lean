/-
  The statement PackNumbers: the walk of its text.
-/
import Derived.Test.YtkiaeepdpmcafaaKnowsPack
import Derived.Test.YtkiaeepdpmcafaaPhases

namespace Go.Proofs.Ytkiaeepdpmcafaa
open Go.ChangeShapes Go.WideShapes Go.ChangeAt Go.RowKit

theorem numbers_long (n s : Int) (a : Option Addr) (len cap : Nat) (w : World) (hl : 100 < len) (hm : len ≤ 9223372036854775807) :
    Calls Try.prog 10 #[.int .u64 n, .int .i64 s, .slice a len cap] w fun e w' => e = .returned (.bool true) ∧ Below w.heap.size w w' := by
  have h1 : (100 : Int) < (len : Int) := by omega
  go_enter Try.func10, Try.ntmps10
  go_wp2_with (go_at_call 37; refine (knows03 _).mono ?_; rintro e w1 ⟨rfl, bel⟩)
  go_returns
  exact ⟨rfl, bel⟩

/-- what the statement makes of a size -/
theorem many_of (s : Int) : (s < 0 ∧ max 0 (min s 64) = ((0 : Nat) : Int)) ∨ (¬ s < 0 ∧ 64 < s ∧ max 0 (min s 64) = ((64 : Nat) : Int)) ∨ (¬ s < 0 ∧ ¬ 64 < s ∧ ∃ k : Nat, s = k ∧ k ≤ 64 ∧ max 0 (min s 64) = (k : Int)) := by
  by_cases h1 : s < 0
  · left; omega
  · by_cases h2 : 64 < s
    · right; left; omega
    · right; right; exact ⟨h1, h2, s.toNat, by omega, by omega, by omega⟩
/-- It makes this string, here and where all that is here stays. -/
def ConvS (S : ByteArray) (v : Value) (w : World) : Prop := ∀ w', Below w.heap.size w w' → (convert 56 9 v).run Try.prog w' = .ok (.string S) w'
theorem ConvS.below {S : ByteArray} {v : Value} {w w' : World} (h : ConvS S v w) (hb : Below w.heap.size w w') : ConvS S v w' := fun w'' hb' => h w'' (hb.trans (hb'.mono hb.size))
theorem ConvS.of {w : World} {g n cap : Nat} {bs : List Int} {S : ByteArray} (hr : Row8 w g bs) (hn : bs.length = n) (hS : strOfNums bs = S) : ConvS S (.slice (some ⟨g, 0, none⟩) n cap) w := fun _ hb => conv_bytes (hr.below hb) hn hS
theorem ConvS.nil {w : World} {n : Int} {S : ByteArray} (hS : strOfNums (be 0 n) = S) : ConvS S (.slice none 0 0) w := fun w' _ => by
  subst hS
  exact run_convert_bytes_nil w' 56 5 Try.underlying56 Try.underlying5 0 0 9 Try.underlying9

theorem be8 (n : Int) (h0 : 0 ≤ n) (h1 : n < 18446744073709551616) : numOf (be 8 n) = n := by
  rw [numOf_be, show (256 : Int) ^ 8 = 18446744073709551616 by decide]
  omega

set_option maxHeartbeats 1000000 in
theorem numbers_mid (n : Int) (k : Nat) (a : Option Addr) (len cap : Nat) (w : World) (hn0 : 0 ≤ n) (hn1 : n < 18446744073709551616) (hk : k ≤ 64) (hl : ¬ 100 < len) (h8 : 8 < len) :
    Calls Try.prog 10 #[.int .u64 n, .int .i64 k, .slice a len cap] w fun e w' => e = .returned (.bool true) ∧ Below w.heap.size w w' := by
  have h1 : ¬ (100 : Int) < (len : Int) := by omega
  have h2 : (8 : Int) < (len : Int) := by omega
  have h3 : ¬ (k : Int) < 0 := by omega
  have h4 : ¬ (64 : Int) < (k : Int) := by omega
  go_enter Try.func10, Try.ntmps10
  go_wp2_with (go_at_call 38; refine (of_long_bytes _ _ _ _ h8 (by omega)).mono ?_; rintro e w1 ⟨rfl, rfl⟩)
  refine (number_any n 8 8 _ hn0 hn1 (by decide)).mono ?_
  rintro e w2 ⟨g, hg, rfl, b2, kB⟩
  have hrow := row_of kB (rfl : be ((8 : Nat)) n = be 8 n)
  have hof := of_bytes g 0 (be 8 n) 8 8 w2 (be_length 8 n) (by decide) (be_small 8 n) (fun i hi => by rw [Nat.zero_add]; exact hrow.cell i (by rw [be_length]; exact hi))
  rw [be8 n hn0 hn1] at hof
  go_wp2_with fail
  refine hof.mono ?_
  rintro e w3 ⟨rfl, rfl⟩
  clear hof hrow kB
  go_wp2_with fail
  obtain ⟨S, hS⟩ : ∃ S, strOfNums (be k n) = S := ⟨_, rfl⟩
  have hS := hid hS
  refine wp_region_phases (N1 := 21) (lev := [0,1,4,5]) (ph := [(2, [3]), (6, [7,8,9,10,11,12,13,14,15,16,17,18,19,20])]) (by kernel_rfl) (by kernel_rfl) ?_
  apply Exists.intro
  refine ⟨fun w4 hb4 => ?_, ?_⟩
  · simp only [pick, List.getElem?_toArray, List.getElem?_cons_succ, List.getElem?_cons_zero, Option.toList_some, List.cons_append, List.nil_append]
    repeat (go_big_quiet_step (fail))
    exact wpQuiet_nil rfl
  refine LexP.cons (o := ?oo) ?ho (ConvS S) (fun _ _ => True) ?_ ?_ ?_ ?_ ?_
  case ho =>
    simp only [List.getElem?_toArray, List.getElem?_cons_succ, List.getElem?_cons_zero]
    rfl
  · exact fun v w' w'' h hb => h.below hb
  · exact fun _ _ _ _ _ => trivial
  · exact fun _ _ _ => trivial
  · intro w4 hb4 _ _
    refine ⟨rfl, .inr ⟨40, #[.int .u64 n, .int .i64 k], by go_simp, ?_⟩⟩
    refine (number_any n k k _ hn0 hn1 (by omega)).mono ?_
    rintro e w5 ⟨g5, hg5, rfl, b5, kB5⟩
    exact ⟨_, rfl, b5, ConvS.of (row_of kB5 rfl) (be_length k n) hS.out, trivial⟩
  intro v1 w0 _
  apply Exists.intro
  refine ⟨fun w4 hb4 hf => ?_, ?_⟩
  · have hs : ∀ x : Ext w4, (convert 56 9 v1).run Try.prog x.at_ = .ok (.string S) x.at_ := fun x => hf _ x.same
    simp only [pick, List.getElem?_toArray, List.getElem?_cons_succ, List.getElem?_cons_zero, Option.toList_some, List.cons_append, List.nil_append, Act.put, List.setIfInBounds_toArray, List.set_cons_zero, List.set_cons_succ]
    repeat (go_big_quiet_step (fail))
    exact wpQuiet_nil rfl
  refine LexP.cons (o := ?oo2) ?ho2 (fun v w' => ConvS S v1 w' ∧ ConvS S v w') (fun _ _ => True) ?_ ?_ ?_ ?_ ?_
  case ho2 =>
    simp only [List.getElem?_toArray, List.getElem?_cons_succ, List.getElem?_cons_zero]
    rfl
  · exact fun v w' w'' h hb => ⟨h.1.below hb, h.2.below hb⟩
  · exact fun _ _ _ _ _ => trivial
  · exact fun _ _ h => h.1
  · intro w4 hb4 hF _
    refine ⟨rfl, .inr ⟨41, #[.int .u64 n, .int .i64 k], by go_simp, ?_⟩⟩
    refine (refnumber_any n k _ hn0 hn1 hk).mono ?_
    rintro e w5 ⟨v, rfl, b5, hv⟩
    refine ⟨_, rfl, b5, ⟨hF.below b5, ?_⟩, trivial⟩
    rcases hv with ⟨rfl, rfl⟩ | ⟨_, g5, cap5, rfl, _, hr5⟩
    · exact ConvS.nil hS.out
    · exact ConvS.of hr5 (be_length k n) hS.out
  intro v2 w0' _
  apply Exists.intro
  refine ⟨fun w4 hb4 hf => ?_, ?_⟩
  · have hs : ∀ x : Ext w4, (convert 56 9 v2).run Try.prog x.at_ = .ok (.string S) x.at_ := fun x => hf.2 _ x.same
    simp only [pick, List.getElem?_toArray, List.getElem?_cons_succ, List.getElem?_cons_zero, Option.toList_some, List.cons_append, List.nil_append, Act.put, List.setIfInBounds_toArray, List.set_cons_zero, List.set_cons_succ]
    repeat (go_big_quiet_step (first | (go_at_call 37; exact Calls.ext (knows03 _))))
    exact wpQuiet_nil rfl
  refine LexP.nil fun w4 hb4 _ _ => ?_
  simp only [List.drop_succ_cons, List.drop_zero]
  go_wp2_with fail
  go_returns
  exact ⟨rfl, b2.trans (hb4.mono b2.size)⟩
set_option maxHeartbeats 1000000 in
theorem numbers_mid_neg (n s : Int) (a : Option Addr) (len cap : Nat) (w : World) (hn0 : 0 ≤ n) (hn1 : n < 18446744073709551616) (h3 : s < 0) (hl : ¬ 100 < len) (h8 : 8 < len) :
    Calls Try.prog 10 #[.int .u64 n, .int .i64 s, .slice a len cap] w fun e w' => e = .returned (.bool true) ∧ Below w.heap.size w w' := by
  have h1 : ¬ (100 : Int) < (len : Int) := by omega
  have h2 : (8 : Int) < (len : Int) := by omega
  go_enter Try.func10, Try.ntmps10
  go_wp2_with (go_at_call 38; refine (of_long_bytes _ _ _ _ h8 (by omega)).mono ?_; rintro e w1 ⟨rfl, rfl⟩)
  refine (number_any n 8 8 _ hn0 hn1 (by decide)).mono ?_
  rintro e w2 ⟨g, hg, rfl, b2, kB⟩
  have hrow := row_of kB (rfl : be ((8 : Nat)) n = be 8 n)
  have hof := of_bytes g 0 (be 8 n) 8 8 w2 (be_length 8 n) (by decide) (be_small 8 n) (fun i hi => by rw [Nat.zero_add]; exact hrow.cell i (by rw [be_length]; exact hi))
  rw [be8 n hn0 hn1] at hof
  go_wp2_with fail
  refine hof.mono ?_
  rintro e w3 ⟨rfl, rfl⟩
  clear hof hrow kB
  go_wp2_with fail
  obtain ⟨S, hS⟩ : ∃ S, strOfNums (be 0 n) = S := ⟨_, rfl⟩
  have hS := hid hS
  refine wp_region_phases (N1 := 21) (lev := [0,1,4,5]) (ph := [(2, [3]), (6, [7,8,9,10,11,12,13,14,15,16,17,18,19,20])]) (by kernel_rfl) (by kernel_rfl) ?_
  apply Exists.intro
  refine ⟨fun w4 hb4 => ?_, ?_⟩
  · simp only [pick, List.getElem?_toArray, List.getElem?_cons_succ, List.getElem?_cons_zero, Option.toList_some, List.cons_append, List.nil_append]
    repeat (go_big_quiet_step (fail))
    exact wpQuiet_nil rfl
  refine LexP.cons (o := ?oo) ?ho (ConvS S) (fun _ _ => True) ?_ ?_ ?_ ?_ ?_
  case ho =>
    simp only [List.getElem?_toArray, List.getElem?_cons_succ, List.getElem?_cons_zero]
    rfl
  · exact fun v w' w'' h hb => h.below hb
  · exact fun _ _ _ _ _ => trivial
  · exact fun _ _ _ => trivial
  · intro w4 hb4 _ _
    refine ⟨rfl, .inr ⟨40, #[.int .u64 n, .int .i64 s], by go_simp, ?_⟩⟩
    refine (number_any n s 0 _ hn0 hn1 (by omega)).mono ?_
    rintro e w5 ⟨g5, hg5, rfl, b5, kB5⟩
    exact ⟨_, rfl, b5, ConvS.of (row_of kB5 rfl) (be_length 0 n) hS.out, trivial⟩
  intro v1 w0 _
  apply Exists.intro
  refine ⟨fun w4 hb4 hf => ?_, ?_⟩
  · have hs : ∀ x : Ext w4, (convert 56 9 v1).run Try.prog x.at_ = .ok (.string S) x.at_ := fun x => hf _ x.same
    simp only [pick, List.getElem?_toArray, List.getElem?_cons_succ, List.getElem?_cons_zero, Option.toList_some, List.cons_append, List.nil_append, Act.put, List.setIfInBounds_toArray, List.set_cons_zero, List.set_cons_succ]
    repeat (go_big_quiet_step (fail))
    exact wpQuiet_nil rfl
  refine LexP.cons (o := ?oo2) ?ho2 (fun v w' => ConvS S v1 w' ∧ ConvS S v w') (fun _ _ => True) ?_ ?_ ?_ ?_ ?_
  case ho2 =>
    simp only [List.getElem?_toArray, List.getElem?_cons_succ, List.getElem?_cons_zero]
    rfl
  · exact fun v w' w'' h hb => ⟨h.1.below hb, h.2.below hb⟩
  · exact fun _ _ _ _ _ => trivial
  · exact fun _ _ h => h.1
  · intro w4 hb4 hF _
    refine ⟨rfl, .inr ⟨41, #[.int .u64 n, .int .i64 0], by go_simp, ?_⟩⟩
    refine (refnumber_any n 0 _ hn0 hn1 (by decide)).mono ?_
    rintro e w5 ⟨v, rfl, b5, hv⟩
    refine ⟨_, rfl, b5, ⟨hF.below b5, ?_⟩, trivial⟩
    rcases hv with ⟨_, rfl⟩ | ⟨_, g5, cap5, rfl, _, hr5⟩
    · exact ConvS.nil hS.out
    · exact ConvS.of hr5 (be_length 0 n) hS.out
  intro v2 w0' _
  apply Exists.intro
  refine ⟨fun w4 hb4 hf => ?_, ?_⟩
  · have hs : ∀ x : Ext w4, (convert 56 9 v2).run Try.prog x.at_ = .ok (.string S) x.at_ := fun x => hf.2 _ x.same
    simp only [pick, List.getElem?_toArray, List.getElem?_cons_succ, List.getElem?_cons_zero, Option.toList_some, List.cons_append, List.nil_append, Act.put, List.setIfInBounds_toArray, List.set_cons_zero, List.set_cons_succ]
    repeat (go_big_quiet_step (first | (go_at_call 37; exact Calls.ext (knows03 _))))
    exact wpQuiet_nil rfl
  refine LexP.nil fun w4 hb4 _ _ => ?_
  simp only [List.drop_succ_cons, List.drop_zero]
  go_wp2_with fail
  go_returns
  exact ⟨rfl, b2.trans (hb4.mono b2.size)⟩

set_option maxHeartbeats 1000000 in
theorem numbers_mid_big (n s : Int) (a : Option Addr) (len cap : Nat) (w : World) (hn0 : 0 ≤ n) (hn1 : n < 18446744073709551616) (h4 : 64 < s) (hl : ¬ 100 < len) (h8 : 8 < len) :
    Calls Try.prog 10 #[.int .u64 n, .int .i64 s, .slice a len cap] w fun e w' => e = .returned (.bool true) ∧ Below w.heap.size w w' := by
  have h1 : ¬ (100 : Int) < (len : Int) := by omega
  have h2 : (8 : Int) < (len : Int) := by omega
  have h3 : ¬ s < 0 := by omega
  go_enter Try.func10, Try.ntmps10
  go_wp2_with (go_at_call 38; refine (of_long_bytes _ _ _ _ h8 (by omega)).mono ?_; rintro e w1 ⟨rfl, rfl⟩)
  refine (number_any n 8 8 _ hn0 hn1 (by decide)).mono ?_
  rintro e w2 ⟨g, hg, rfl, b2, kB⟩
  have hrow := row_of kB (rfl : be ((8 : Nat)) n = be 8 n)
  have hof := of_bytes g 0 (be 8 n) 8 8 w2 (be_length 8 n) (by decide) (be_small 8 n) (fun i hi => by rw [Nat.zero_add]; exact hrow.cell i (by rw [be_length]; exact hi))
  rw [be8 n hn0 hn1] at hof
  go_wp2_with fail
  refine hof.mono ?_
  rintro e w3 ⟨rfl, rfl⟩
  clear hof hrow kB
  go_wp2_with fail
  obtain ⟨S, hS⟩ : ∃ S, strOfNums (be 64 n) = S := ⟨_, rfl⟩
  have hS := hid hS
  refine wp_region_phases (N1 := 21) (lev := [0,1,4,5]) (ph := [(2, [3]), (6, [7,8,9,10,11,12,13,14,15,16,17,18,19,20])]) (by kernel_rfl) (by kernel_rfl) ?_
  apply Exists.intro
  refine ⟨fun w4 hb4 => ?_, ?_⟩
  · simp only [pick, List.getElem?_toArray, List.getElem?_cons_succ, List.getElem?_cons_zero, Option.toList_some, List.cons_append, List.nil_append]
    repeat (go_big_quiet_step (fail))
    exact wpQuiet_nil rfl
  refine LexP.cons (o := ?oo) ?ho (ConvS S) (fun _ _ => True) ?_ ?_ ?_ ?_ ?_
  case ho =>
    simp only [List.getElem?_toArray, List.getElem?_cons_succ, List.getElem?_cons_zero]
    rfl
  · exact fun v w' w'' h hb => h.below hb
  · exact fun _ _ _ _ _ => trivial
  · exact fun _ _ _ => trivial
  · intro w4 hb4 _ _
    refine ⟨rfl, .inr ⟨40, #[.int .u64 n, .int .i64 s], by go_simp, ?_⟩⟩
    refine (number_any n s 64 _ hn0 hn1 (by omega)).mono ?_
    rintro e w5 ⟨g5, hg5, rfl, b5, kB5⟩
    exact ⟨_, rfl, b5, ConvS.of (row_of kB5 rfl) (be_length 64 n) hS.out, trivial⟩
  intro v1 w0 _
  apply Exists.intro
  refine ⟨fun w4 hb4 hf => ?_, ?_⟩
  · have hs : ∀ x : Ext w4, (convert 56 9 v1).run Try.prog x.at_ = .ok (.string S) x.at_ := fun x => hf _ x.same
    simp only [pick, List.getElem?_toArray, List.getElem?_cons_succ, List.getElem?_cons_zero, Option.toList_some, List.cons_append, List.nil_append, Act.put, List.setIfInBounds_toArray, List.set_cons_zero, List.set_cons_succ]
    repeat (go_big_quiet_step (fail))
    exact wpQuiet_nil rfl
  refine LexP.cons (o := ?oo2) ?ho2 (fun v w' => ConvS S v1 w' ∧ ConvS S v w') (fun _ _ => True) ?_ ?_ ?_ ?_ ?_
  case ho2 =>
    simp only [List.getElem?_toArray, List.getElem?_cons_succ, List.getElem?_cons_zero]
    rfl
  · exact fun v w' w'' h hb => ⟨h.1.below hb, h.2.below hb⟩
  · exact fun _ _ _ _ _ => trivial
  · exact fun _ _ h => h.1
  · intro w4 hb4 hF _
    refine ⟨rfl, .inr ⟨41, #[.int .u64 n, .int .i64 64], by go_simp, ?_⟩⟩
    refine (refnumber_any n 64 _ hn0 hn1 (by decide)).mono ?_
    rintro e w5 ⟨v, rfl, b5, hv⟩
    refine ⟨_, rfl, b5, ⟨hF.below b5, ?_⟩, trivial⟩
    rcases hv with ⟨h, _⟩ | ⟨_, g5, cap5, rfl, _, hr5⟩
    · cases h
    · exact ConvS.of hr5 (be_length 64 n) hS.out
  intro v2 w0' _
  apply Exists.intro
  refine ⟨fun w4 hb4 hf => ?_, ?_⟩
  · have hs : ∀ x : Ext w4, (convert 56 9 v2).run Try.prog x.at_ = .ok (.string S) x.at_ := fun x => hf.2 _ x.same
    simp only [pick, List.getElem?_toArray, List.getElem?_cons_succ, List.getElem?_cons_zero, Option.toList_some, List.cons_append, List.nil_append, Act.put, List.setIfInBounds_toArray, List.set_cons_zero, List.set_cons_succ]
    repeat (go_big_quiet_step (first | (go_at_call 37; exact Calls.ext (knows03 _))))
    exact wpQuiet_nil rfl
  refine LexP.nil fun w4 hb4 _ _ => ?_
  simp only [List.drop_succ_cons, List.drop_zero]
  go_wp2_with fail
  go_returns
  exact ⟨rfl, b2.trans (hb4.mono b2.size)⟩
end Go.Proofs.Ytkiaeepdpmcafaa
