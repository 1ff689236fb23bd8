/-
  The statement PackSplits: the walk of its text.
-/
import Derived.Test.YtkiaeepdpmcafaaSplitFacts
import Derived.Test.YtkiaeepdpmcafaaKnowsPack
import Derived.Test.YtkiaeepdpmcafaaFlow

namespace Go.Proofs.Ytkiaeepdpmcafaa
open Go.ChangeShapes Go.WideShapes Go.ChangeAt Go.RowKit

theorem toolong_yes (a : Option Addr) (len cap : Nat) (w : World) (h : 65535 < len) (hm : len ≤ 9223372036854775807) :
    Calls Try.prog 50 #[.slice a len cap] w fun e w' => e = .returned (.bool true) ∧ w = w' := by
  have h1 : decide ((65535 : Int) < (len : Int)) = true := by simp; omega
  go_enter Try.func50, Try.ntmps50
  go_wp2
  go_ret
  exact ⟨rfl, rfl⟩

set_option maxHeartbeats 1000000 in
theorem index_first (x o c : Nat) (a : Option Addr) (l d : Nat) (w : World) (hc : w.cell? ⟨x, o, none⟩ = some (.slice a l d)) (hl : 65535 < l) (hm : l ≤ 9223372036854775807) :
    Calls Try.prog 53 #[.slice (some ⟨x, o, none⟩) 1 c, .func (.func 50) #[] #[]] w fun e w' => e = .returned (.int .i64 0) ∧ w = w' := by
  have ht := toolong_yes a l d w hl hm
  go_enter Try.func53, Try.ntmps53
  go_wp2
  go_loop [8] (fun i => i = .int .i64 0) (fun _ => 0)
  case atStart => rfl
  case round =>
    obtain rfl := hrel
    go_wp2_with (go_at_call 50; refine ht.mono ?_; rintro e w5 ⟨rfl, rfl⟩)
    go_ret
    exact ⟨rfl, rfl⟩

theorem row_long (x o c : Nat) (a : Option Addr) (l d : Nat) (w : World) (hc : w.cell? ⟨x, o, none⟩ = some (.slice a l d)) (hl : 65535 < l) (hm : l ≤ 9223372036854775807) :
    Calls Try.prog 43 #[.slice (some ⟨x, o, none⟩) 1 c] w fun e w' => e = .returned (.tuple #[.slice none 0 0, .int .i64 1]) ∧ w = w' := by
  have hi := index_first x o c a l d w hc hl hm
  have h49 : Calls Try.prog 49 #[.slice (some ⟨x, o, none⟩) 1 c, .func (.func 50) #[] #[]] w fun e w' => e = .returned (.bool true) ∧ w = w' := by
    go_enter Try.func49, Try.ntmps49
    go_wp2_with (go_at_call 53; refine hi.mono ?_; rintro e w5 ⟨rfl, rfl⟩)
    go_ret
    exact ⟨rfl, rfl⟩
  clear hc hi
  go_enter Try.func43, Try.ntmps43
  go_wp2_with (go_at_call 49; refine h49.mono ?_; rintro e w5 ⟨rfl, rfl⟩)
  go_ret2
  exact ⟨rfl, rfl⟩

theorem splits_big (a : Option Addr) (len cap : Nat) (bs : List Int) (n : Int) (w : World) (hT : TextAt w a len cap bs) (h : 3000 < len ∨ 70000 < n) :
    Calls Try.prog 12 #[.slice a len cap, .int .u32 n] w fun e w' => e = .returned (.bool true) ∧ Below w.heap.size w w' := by
  have hmx := Nat.le_trans hT.le hT.max
  by_cases hl : 3000 < len
  · have h1 : decide ((3000 : Int) < (len : Int)) = true := by simp; omega
    go_enter Try.func12, Try.ntmps12
    go_wp2_with (go_at_call 37; refine (knows03 _).mono ?_; rintro e w2 ⟨rfl, bel⟩)
    go_returns
    exact ⟨rfl, bel⟩
  · have h1 : decide ((3000 : Int) < (len : Int)) = false := by simp; omega
    have h2 : decide ((70000 : Int) < n) = true := by simp; omega
    go_enter Try.func12, Try.ntmps12
    go_wp2_with (go_at_call 37; refine (knows03 _).mono ?_; rintro e w2 ⟨rfl, bel⟩)
    go_returns
    exact ⟨rfl, bel⟩

set_option maxHeartbeats 4000000 in
set_option maxRecDepth 100000 in
theorem splits_walk (a : Option Addr) (len cap : Nat) (bs : List Int) (n : Int) (w : World) (hT : TextAt w a len cap bs) (hl : len ≤ 3000) (hn0 : 0 ≤ n) (hn : n ≤ 70000) :
    Calls Try.prog 12 #[.slice a len cap, .int .u32 n] w fun e w' => e = .returned (.bool true) ∧ Below w.heap.size w w' := by
  obtain ⟨i0, hi, hz0, hz1, hz2⟩ := info_parts info_byte
  have h1 : decide ((3000 : Int) < (len : Int)) = false := by simp; omega
  have h2 : decide ((70000 : Int) < n) = false := by simp; omega
  have hsp := split_any hT (by omega)
  have HT := hid hT
  obtain ⟨n, rfl⟩ := Int.eq_ofNat_of_zero_le hn0
  clear hT
  go_enter Try.func12, Try.ntmps12
  go_wp2_with fail
  refine hsp.mono ?_
  rintro e w1 ⟨b1, hend⟩
  clear hsp
  have hrs := refsplit_any (HT.out.below b1) (by omega)
  rcases hend with ⟨hb, rfl⟩ | ⟨l, v, hb, rfl, hown⟩
  rotate_left
  · rw [hb] at hrs
    obtain ⟨hback, hl1, hl2⟩ := splitB_back bs HT.out.small l hb
    have Hback := hid hback
    have hlen := HT.out.length
    have hml : 2 + (rowB l).length = bs.length := by rw [← hback]; simp [be_length]
    obtain ⟨a1, c1, rfl, hT1⟩ := hown.texts
    clear hown hb hback
    go_wp2_with fail
    refine hrs.mono ?_
    rintro e w2 ⟨b2, ⟨h, _⟩ | ⟨l2, v2, h, rfl, hown2⟩⟩
    · cases h
    injection h with h
    subst h
    obtain ⟨a2, c2, rfl, hT2⟩ := hown2.texts
    have bel2 := Below.on b1 b2
    have hT1 := hT1.below b2
    clear hrs hown2 b1 b2
    go_wp2_with fail
    refine (row_any a1 l.length c1 l _ hT1 hl1 hl2).mono ?_
    rintro e w3 ⟨g, m, cp, rfl, rfl, hc1, hc2, hg, b3, hR⟩
    rw [Hback.out] at hR
    have hTR := TextAt.of_row hR hml.symm hc1 hc2 HT.out.small
    have bel3 := Below.on bel2 b3
    have hT1 := hT1.below b3
    have hT2 := hT2.below b3
    have hsame := same_eq a1 a2 l.length c1 c2 l w3 hT1 hT2
    generalize 2 + (rowB l).length = m at *
    clear hT1 hT2 bel2 b3 hR hml hc1 hc2
    go_wp2_with fail
    refine hsame.mono ?_
    rintro e w4 ⟨rfl, b4⟩
    have bel := Below.on bel3 b4
    have hs1 : (convert 56 9 (.slice (some ⟨g, 0, none⟩) m cp)).run Try.prog w4 = .ok (.string (strOfNums bs)) w4 := (hTR.below b4).string Try.underlying56 Try.underlying5 Try.underlying9
    have hs2 : (convert 56 9 (.slice a len cap)).run Try.prog w4 = .ok (.string (strOfNums bs)) w4 := (HT.out.below bel).string Try.underlying56 Try.underlying5 Try.underlying9
    clear hsame hTR bel3 b4
    go_wp2_with (at_make; refine wpList_make_full _ rfl _ _ 56 rfl w.heap.size 5 i0 (.int .u8 0) 1 Try.underlying56 hi hz0 hz1 _ _ _ _ n rfl rfl ?a1 ?a2 ?a3 ?a4 ?a5 ?_)
    case a1 => omega
    case a2 => omega
    case a3 => rw [hz2]; omega
    case a4 => unfold maxLen; omega
    case a5 => exact bel.size
    intro w5 hown5 hgrow5
    obtain ⟨_, k5⟩ := blk_of_owns hown5
    have bel5 : Below w.heap.size w w5 := bel.grown hgrow5 bel.size (fun _ h => by cases h)
    rw [made_zeros n 0, show be 0 0 = [] from rfl, List.append_nil] at k5
    clear hown5 hgrow5
    generalize w4.heap.size = pz at *
    have hTz : TextAt w5 (some ⟨pz, 0, none⟩) n n (List.replicate n 0) := TextAt.of_ints k5 (by simp) (by omega) (fun x hx => by rw [List.eq_of_mem_replicate hx]; omega)
    have bN : Below w5.heap.size w5 (w5.alloc (Obj.cells #[.slice (some ⟨pz, 0, none⟩) n n] 56)) := (Below.refl _ _).alloc (Nat.le_refl _) _
    have kN : Blk (w5.alloc (Obj.cells #[.slice (some ⟨pz, 0, none⟩) n n] 56)) w5.heap.size #[.slice (some ⟨pz, 0, none⟩) n n] 56 := Blk.new rfl _ _
    have belN := Below.on bel5 bN
    have hTN := hTz.below bN
    clear bel bel5 k5 hTz bN
    by_cases h65 : n ≤ 65535
    · have t1 : decide ((65535 : Int) < (n : Int)) = false := by simp; omega
      have hTs : TextsAt (w5.alloc (Obj.cells #[.slice (some ⟨pz, 0, none⟩) n n] 56)) (some ⟨w5.heap.size, 0, none⟩) 1 1 [List.replicate n 0] :=
        ⟨rfl, Nat.le_refl _, by omega, .inr ⟨_, _, rfl, kN.lt, fun j hj => by
          obtain rfl : j = 0 := by omega
          exact ⟨_, _, _, by rw [kN.cell]; rfl, hTN⟩⟩⟩
      have hrow := row_any _ 1 1 _ _ hTs (by omega) (by simp; omega)
      have hm : 2 + (rowB [List.replicate n (0 : Int)]).length = n + 4 := by rw [rowB_one]; simp [be_length]; omega
      rw [hm] at hrow
      clear hTs kN hTN hm
      go_wp2_with fail
      refine hrow.mono ?_
      rintro e w6 ⟨g6, m6, c6, rfl, rfl, _, _, _, b6, _⟩
      have bel6 := Below.on belN b6
      clear hrow belN b6
      go_wp2_with (go_at_call 37; refine (knows03 _).mono ?_; rintro e w7 ⟨rfl, b7⟩)
      go_returns
      exact ⟨rfl, Below.on bel6 b7⟩
    · have t1 : decide ((65535 : Int) < (n : Int)) = true := by simp; omega
      have hrow := row_long w5.heap.size 0 1 (some ⟨pz, 0, none⟩) n n _ (by rw [kN.cell]; rfl) (by omega) (by omega)
      clear kN hTN
      go_wp2_with fail
      refine hrow.mono ?_
      rintro e w6 ⟨rfl, rfl⟩
      clear hrow
      go_wp2_with (go_at_call 37; refine (knows03 _).mono ?_; rintro e w7 ⟨rfl, b7⟩)
      go_returns
      exact ⟨rfl, Below.on belN b7⟩
  · rw [hb] at hrs
    have hb := hid hb
    go_wp2_with fail
    refine hrs.mono ?_
    rintro e w4 ⟨b2, ⟨_, v2, rfl⟩ | ⟨l, v2, h, _⟩⟩
    rotate_left
    · cases h
    have bel := Below.on b1 b2
    clear hrs b1 b2 hb
    go_wp2_with (at_make; refine wpList_make_full _ rfl _ _ 56 rfl w.heap.size 5 i0 (.int .u8 0) 1 Try.underlying56 hi hz0 hz1 _ _ _ _ n rfl rfl ?a1 ?a2 ?a3 ?a4 ?a5 ?_)
    case a1 => omega
    case a2 => omega
    case a3 => rw [hz2]; omega
    case a4 => unfold maxLen; omega
    case a5 => exact bel.size
    intro w5 hown5 hgrow5
    obtain ⟨_, k5⟩ := blk_of_owns hown5
    have bel5 : Below w.heap.size w w5 := bel.grown hgrow5 bel.size (fun _ h => by cases h)
    rw [made_zeros n 0, show be 0 0 = [] from rfl, List.append_nil] at k5
    clear hown5 hgrow5
    generalize w4.heap.size = pz at *
    have hTz : TextAt w5 (some ⟨pz, 0, none⟩) n n (List.replicate n 0) := TextAt.of_ints k5 (by simp) (by omega) (fun x hx => by rw [List.eq_of_mem_replicate hx]; omega)
    have bN : Below w5.heap.size w5 (w5.alloc (Obj.cells #[.slice (some ⟨pz, 0, none⟩) n n] 56)) := (Below.refl _ _).alloc (Nat.le_refl _) _
    have kN : Blk (w5.alloc (Obj.cells #[.slice (some ⟨pz, 0, none⟩) n n] 56)) w5.heap.size #[.slice (some ⟨pz, 0, none⟩) n n] 56 := Blk.new rfl _ _
    have belN := Below.on bel5 bN
    have hTN := hTz.below bN
    clear bel bel5 k5 hTz bN
    by_cases h65 : n ≤ 65535
    · have t1 : decide ((65535 : Int) < (n : Int)) = false := by simp; omega
      have hTs : TextsAt (w5.alloc (Obj.cells #[.slice (some ⟨pz, 0, none⟩) n n] 56)) (some ⟨w5.heap.size, 0, none⟩) 1 1 [List.replicate n 0] :=
        ⟨rfl, Nat.le_refl _, by omega, .inr ⟨_, _, rfl, kN.lt, fun j hj => by
          obtain rfl : j = 0 := by omega
          exact ⟨_, _, _, by rw [kN.cell]; rfl, hTN⟩⟩⟩
      have hrow := row_any _ 1 1 _ _ hTs (by omega) (by simp; omega)
      have hm : 2 + (rowB [List.replicate n (0 : Int)]).length = n + 4 := by rw [rowB_one]; simp [be_length]; omega
      rw [hm] at hrow
      clear hTs kN hTN hm
      go_wp2_with fail
      refine hrow.mono ?_
      rintro e w6 ⟨g6, m6, c6, rfl, rfl, _, _, _, b6, _⟩
      have bel6 := Below.on belN b6
      clear hrow belN b6
      go_wp2_with (go_at_call 37; refine (knows03 _).mono ?_; rintro e w7 ⟨rfl, b7⟩)
      go_returns
      exact ⟨rfl, Below.on bel6 b7⟩
    · have t1 : decide ((65535 : Int) < (n : Int)) = true := by simp; omega
      have hrow := row_long w5.heap.size 0 1 (some ⟨pz, 0, none⟩) n n _ (by rw [kN.cell]; rfl) (by omega) (by omega)
      clear kN hTN
      go_wp2_with fail
      refine hrow.mono ?_
      rintro e w6 ⟨rfl, rfl⟩
      clear hrow
      go_wp2_with (go_at_call 37; refine (knows03 _).mono ?_; rintro e w7 ⟨rfl, b7⟩)
      go_returns
      exact ⟨rfl, Below.on belN b7⟩
end Go.Proofs.Ytkiaeepdpmcafaa
