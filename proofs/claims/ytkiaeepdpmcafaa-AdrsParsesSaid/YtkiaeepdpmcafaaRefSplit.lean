/-
  Contracts of the reference's Row, Same and Split.
-/
import Derived.Test.YtkiaeepdpmcafaaRefNumber
import Derived.Test.YtkiaeepdpmcafaaPackSplit
import Derived.Test.YtkiaeepdpmcafaaPackRow
import Derived.Test.YtkiaeepdpmcafaaFlow
namespace Go.Proofs.Ytkiaeepdpmcafaa
open Go.ChangeShapes Go.WideShapes Go.ChangeAt Go.RowKit

set_option maxHeartbeats 2000000 in
theorem refrow_any (a : Option Addr) (n c : Nat) (ts : List (List Int)) (w : World) (hT : TextsAt w a n c ts) (hn : n ≤ 65535) (hts : ∀ t ∈ ts, t.length ≤ 65535) :
    Calls Try.prog 45 #[.slice a n c] w fun e w' => ∃ v, e = .returned v ∧ Below w.heap.size w w' ∧ OwnB w' w.heap.size 5 v (be 2 n ++ rowB ts) := by
  obtain ⟨i0, hi, hz0, hz1, hz2⟩ := info_parts info_byte
  have Hl := hid hT.length
  have HT := hid hT
  have Hts := hid hts
  clear hT hts
  go_enter Try.func45, Try.ntmps45
  go_wp2_with (go_at_call 41; refine (refnumber_own n 2 2 _ (by omega) (by omega) rfl (by omega)).mono ?_; rintro e w1 ⟨v, rfl, b1, hown⟩)
  go_loopw [3, 4] (fun v i wr => ∃ k : Nat, k ≤ n ∧ i = .int .i64 k ∧ OwnB wr w.heap.size 5 v (be 2 n ++ rowB (ts.take k)) ∧ Below w.heap.size w wr) (fun _ i _ => n - (intOf i).toNat)
  case atStart => exact ⟨0, by omega, rfl, by simpa [rowB] using hown, b1⟩
  case round =>
    clear hown b1
    obtain ⟨k, hk, rfl, hown, bel⟩ := hrel
    by_cases hlt : k < n
    · obtain ⟨x, o, a', l', c', rfl, hx, hc, ht⟩ := HT.out.at_ k hlt
      have hcw : wr.cell? ⟨x, o + k, none⟩ = some (.slice a' l' c') := (bel.cell (p := ⟨x, o + k, none⟩) hx).trans hc
      have hkt : k < ts.length := by rw [Hl.out]; exact hlt
      have HS := hid (rowB_take ts k hkt)
      have htl := texts_len HT.out Hts.out k hlt
      have hB : (rowB (ts.take k)).length ≤ k * 65537 := by
        have := rowB_length (ts.take k) (fun t h => Hts.out t (List.mem_of_mem_take h))
        rwa [List.length_take, Nat.min_eq_left (by omega)] at this
      have hlen := ht.length
      generalize ts.getD k [] = t at *
      generalize rowB (ts.take k) = RB at *
      have Ht := hid ht
      have Hc := hid hc
      have HL := hid hlen
      have hl6 : l' ≤ 65535 := by omega
      clear ht hc hlen htl
      go_wp2_with fail
      refine (refnumber_own l' 2 2 _ (by omega) (by omega) rfl (by omega)).mono ?_
      rintro e w3 ⟨v3, rfl, b3, hown3⟩
      obtain ⟨a3, c3, rfl, hT3, _⟩ := hown3.text
      rw [be_length] at hT3
      rw [be_length]
      have hown := hown.below b3
      have bel := Below.on bel b3
      clear hown3 b3
      go_wp2_with (at_builtin; refine wpList_append_text rfl _ _ rfl Try.underlying56 hi hz0 hz1 hz2 rfl hown rfl hT3 ?c1 ?c2 ?_)
      case c1 => simp [be_length]; omega
      case c2 => exact bel.size
      intro v4 w4 hown4 _ b4
      have bel4 := bel.trans b4
      have ht4 := Ht.out.below bel4
      have hcw4 : w4.cell? ⟨x, o + k, none⟩ = some (.slice a' l' c') := (bel4.cell (p := ⟨x, o + k, none⟩) hx).trans Hc.out
      clear hown bel hT3 b4
      go_wp2_with (at_builtin; refine wpList_append_text rfl _ _ rfl Try.underlying56 hi hz0 hz1 hz2 rfl hown4 rfl ht4 ?c1 ?c2 ?_)
      case c1 => simp [be_length]; omega
      case c2 => exact bel4.size
      intro v5 w5 hown5 _ b5
      have bel5 := bel4.trans b5
      have hown6 : OwnB w5 w.heap.size 5 v5 (be 2 n ++ rowB (ts.take (k + 1))) := by rw [HS.out, HL.out]; simpa only [List.append_assoc] using hown5
      clear hown4 bel4 ht4 b5 hown5
      go_wp2_with fail
      exact ⟨⟨k + 1, by omega, by go_num, hown6, bel5⟩, by simp [intOf]; omega⟩
    · obtain rfl : k = n := by omega
      rw [List.take_of_length_le (by rw [Hl.out]; omega)] at hown
      go_wp2_with fail
      go_ret
      exact ⟨_, rfl, bel, hown⟩

theorem conv_ext {w : World} {a : Option Addr} {len cap : Nat} {bs : List Int} (h : TextAt w a len cap bs) : ∀ x : Ext w, (convert 56 9 (.slice a len cap)).run Try.prog x.at_ = .ok (.string (strOfNums bs)) x.at_ :=
  fun x => (h.below x.same).string Try.underlying56 Try.underlying5 Try.underlying9

set_option maxHeartbeats 1000000 in
theorem same_eq (a b : Option Addr) (n c d : Nat) (ts : List (List Int)) (w : World) (hT : TextsAt w a n c ts) (hU : TextsAt w b n d ts) :
    Calls Try.prog 46 #[.slice a n c, .slice b n d] w fun e w' => e = .returned (.bool true) ∧ Below w.heap.size w w' := by
  have hmx := Nat.le_trans hT.le hT.max
  have HT := hid hT
  have HU := hid hU
  clear hT hU
  have t1 : ((n : Int) != (n : Int)) = false := by simp
  go_enter Try.func46, Try.ntmps46
  go_wp2_with fail
  go_loopw [5] (fun i wr => ∃ k : Nat, k ≤ n ∧ i = .int .i64 k ∧ Below w.heap.size w wr) (fun i _ => n - (intOf i).toNat)
  case atStart => exact ⟨0, by omega, rfl, Below.refl _ _⟩
  case round =>
    obtain ⟨k, hk, rfl, bel⟩ := hrel
    by_cases hlt : k < n
    · obtain ⟨x, o, a', l', c', rfl, hx, hc, ht⟩ := HT.out.at_ k hlt
      obtain ⟨y, q, b', m', d', rfl, hy, hd, hu⟩ := HU.out.at_ k hlt
      have Ht := hid ht
      have Hu := hid hu
      have Hc := hid hc
      have Hd := hid hd
      clear ht hu hc hd
      generalize ts.getD k [] = t at *
      go_wp2_with fail
      refine wp_region_flow 11 [0, 1, 2, 3, 4, 5, 6, 7, 8, 9, 10] [] [] (by kernel_rfl) (by kernel_rfl) ?_
      apply Exists.intro
      refine ⟨fun w0 hb0 hF0 => ?_, ?_⟩
      · have b0 := Below.on bel hb0
        have h1 : ∀ e : Ext w0, e.at_.cell? ⟨x, o + k, none⟩ = some (.slice a' l' c') := fun e => ((Below.on b0 e.same).cell (p := ⟨x, o + k, none⟩) hx).trans Hc.out
        have h2 : ∀ e : Ext w0, e.at_.cell? ⟨y, q + k, none⟩ = some (.slice b' m' d') := fun e => ((Below.on b0 e.same).cell (p := ⟨y, q + k, none⟩) hy).trans Hd.out
        have h3 := conv_ext (Ht.out.below b0)
        have h4 := conv_ext (Hu.out.below b0)
        simp only [pick, List.getElem?_toArray, List.getElem?_cons_succ, List.getElem?_cons_zero, Option.toList_some, List.cons_append, List.nil_append]
        repeat (go_big_quiet_step (fail))
        exact wpQuiet_nil rfl
      refine AlChk.nil ?_
      refine Walk.fin fun w1 hb1 _ _ => ?_
      simp only [List.drop_succ_cons, List.drop_zero]
      have bel1 := Below.on bel hb1
      clear bel hb1
      go_wp2_with fail
      exact ⟨⟨k + 1, by omega, by go_num, bel1⟩, by simp [intOf]; omega⟩
    · obtain rfl : k = n := by omega
      go_wp2_with fail
      go_ret
      exact ⟨rfl, bel⟩

theorem numOf_pair (bs : List Int) (k : Nat) (h : k + 2 ≤ bs.length) : numOf ((bs.drop k).take 2) = 256 * bs.getD k 0 + bs.getD (k + 1) 0 := by
  have e1 := List.drop_eq_getElem_cons (l := bs) (i := k) (by omega)
  have e2 := List.drop_eq_getElem_cons (l := bs) (i := k + 1) (by omega)
  rw [e1, e2]
  simp only [List.take_succ_cons, List.take_zero, numOf, List.foldl]
  rw [show bs.getD k 0 = bs[k] by simp [show k < bs.length by omega], show bs.getD (k + 1) 0 = bs[k + 1] by simp [show k + 1 < bs.length by omega]]
  omega

/-- how the reference's split ends -/
def RefSplitPost (w : World) (o : Option (List (List Int))) (e : Ending) (w' : World) : Prop :=
  Below w.heap.size w w' ∧ ((o = none ∧ ∃ v, e = .returned (.tuple #[v, .bool false])) ∨ ∃ l v, o = some l ∧ e = .returned (.tuple #[v, .bool true]) ∧ OwnT w' w.heap.size 56 5 v l)

set_option maxHeartbeats 4000000 in
set_option maxRecDepth 100000 in
theorem refsplit_any {w : World} {a : Option Addr} {len cap : Nat} {bs : List Int} (hT : TextAt w a len cap bs) (hl : len ≤ 4294967296) :
    Calls Try.prog 47 #[.slice a len cap] w (RefSplitPost w (splitB bs)) := by
  obtain ⟨i0, hi, hz0, hz1, hz2⟩ := info_parts row_info
  obtain ⟨i1, hi1, hy0, hy1, hy2⟩ := info_parts info_byte
  have hlen := hT.length
  by_cases h2 : len < 2
  · have hb := hid (show splitB bs = none by unfold splitB; rw [if_pos (by omega)])
    have h1 : decide ((len : Int) < 2) = true := by simp; omega
    go_enter Try.func47, Try.ntmps47
    go_wp2_with fail
    go_ret2
    exact ⟨Below.refl _ _, .inl ⟨hb.out, _, rfl⟩⟩
  have h1 : decide ((len : Int) < 2) = false := by simp; omega
  obtain ⟨x, o, rfl, hx, hc⟩ := hT.at_ (by omega)
  have hn := numOf_two bs hT.small
  have Hb : Hid (splitB bs = splitEnd (splitK (bs.drop 2) (numOf (bs.take 2)).toNat)) := hid (by unfold splitB; rw [if_neg (by omega)])
  have hp := numOf_pair bs 0 (by omega)
  rw [List.drop_zero] at hp
  have g0 := hT.getD 0
  have g1 := hT.getD 1
  have HT := hid hT
  have Hc := hid hc
  have hc0 := hc 0 (by omega)
  have hc1 := hc 1 (by omega)
  have hle := hT.le
  have hmx := hT.max
  have Hp := hid hp
  have Hlen := hid hlen
  clear hT hc hlen hp
  generalize numOf (bs.take 2) = n at *
  obtain ⟨hn0, hn1⟩ := hn
  obtain ⟨g00, g01⟩ := g0
  obtain ⟨g10, g11⟩ := g1
  have Hn := hid (show 256 * bs.getD 0 0 + bs.getD (0 + 1) 0 = n from Hp.out.symm)
  simp only [Nat.zero_add] at Hn
  generalize bs.getD 0 0 = y0 at *
  generalize bs.getD 1 0 = y1 at *
  obtain rfl := Hn.out
  go_enter Try.func47, Try.ntmps47
  go_wp2_with fail
  refine wp_region_flow 10 [0, 1, 2, 3, 4, 5, 6, 7, 8, 9] [] [] (by kernel_rfl) (by kernel_rfl) ?_
  apply Exists.intro
  refine ⟨fun w0 hb0 hF0 => ?_, ?_⟩
  · have q1 : ∀ e : Ext w0, e.at_.cell? ⟨x, o, none⟩ = some (.int .u8 y0) := fun e => ((Below.on hb0 e.same).cell (p := ⟨x, o, none⟩) hx).trans hc0
    have q2 : ∀ e : Ext w0, e.at_.cell? ⟨x, o + 1, none⟩ = some (.int .u8 y1) := fun e => ((Below.on hb0 e.same).cell (p := ⟨x, o + 1, none⟩) hx).trans hc1
    simp only [pick, List.getElem?_toArray, List.getElem?_cons_succ, List.getElem?_cons_zero, Option.toList_some, List.cons_append, List.nil_append]
    repeat (go_big_quiet_step (fail))
    exact wpQuiet_nil rfl
  refine AlChk.nil ?_
  refine Walk.fin fun w1 b1 _ _ => ?_
  simp only [List.drop_succ_cons, List.drop_zero]
  clear hc0 hc1
  generalize hnn : 256 * y0 + y1 = n at *
  clear hnn
  go_wp2_with fail
  go_loopw [4, 6, 7] (fun v at_ i wr => ∃ (k p : Nat) (l : List (List Int)), (k : Int) ≤ n ∧ p ≤ len ∧ i = .int .i64 k ∧ at_ = .int .i64 p ∧ splitK (bs.drop 2) k = some (l, bs.drop p) ∧ OwnT wr w.heap.size 56 5 v l ∧ Below w.heap.size w wr) (fun _ _ i _ => (n - intOf i).toNat)
  case atStart => exact ⟨0, 2, [], hn0, by omega, rfl, rfl, rfl, OwnT.nil _ _ _ _, b1⟩
  case round =>
    clear b1
    obtain ⟨k, p, l, hk, hp, rfl, rfl, hS, hown, bel⟩ := hrel
    obtain ⟨hll, hrl⟩ := splitK_len _ k l _ hS
    simp only [List.length_drop] at hrl
    have hk2 : k ≤ len := by have := Hlen.out; omega
    clear hrl
    by_cases hlt : (k : Int) < n
    · by_cases h2 : len < p + 2
      · have hb := hid (show splitB bs = none by
          rw [Hb.out, splitK_none _ (k + 1) (by unfold splitK; rw [hS]; simp only; rw [if_pos (by simp; have := Hlen.out; omega)]) n.toNat (by omega), splitEnd_none])
        have h5 : decide ((len : Int) < (p : Int) + 2) = true := by simp; omega
        clear hS hown
        go_wp2_with fail
        go_ret2
        exact ⟨bel, .inl ⟨hb.out, _, rfl⟩⟩
      have h5 : decide ((len : Int) < (p : Int) + 2) = false := by simp; omega
      have hpp := numOf_pair bs p (by have := Hlen.out; omega)
      have hm := numOf_two (bs.drop p) (fun x hx => HT.out.small x (List.mem_of_mem_drop hx))
      have HS : Hid (splitK (bs.drop 2) (k + 1) = if len - p - 2 < (numOf ((bs.drop p).take 2)).toNat then none else some (l ++ [(bs.drop (p + 2)).take (numOf ((bs.drop p).take 2)).toNat], bs.drop (p + 2 + (numOf ((bs.drop p).take 2)).toNat))) := hid (by
        unfold splitK; rw [hS]; simp only; rw [if_neg (by simp; have := Hlen.out; omega)]
        simp only [List.length_drop, List.drop_drop, Hlen.out])
      have g0 := HT.out.getD p
      have g1 := HT.out.getD (p + 1)
      have q1 := Hc.out p (by omega)
      have q2 := Hc.out (p + 1) (by omega)
      have Hpp := hid hpp.symm
      clear hpp hS
      generalize numOf ((bs.drop p).take 2) = m at *
      obtain ⟨hm0, hm1⟩ := hm
      obtain ⟨g00, g01⟩ := g0
      obtain ⟨g10, g11⟩ := g1
      generalize bs.getD p 0 = z0 at *
      generalize bs.getD (p + 1) 0 = z1 at *
      have h5' : ¬ (len : Int) < (p : Int) + 2 := by omega
      go_wp2_with fail
      refine wp_region_flow 13 [0, 1, 2, 3, 4, 5, 6, 7, 8, 9, 10, 11, 12] [] [] (by kernel_rfl) (by kernel_rfl) ?_
      apply Exists.intro
      refine ⟨fun w0 hb0 hF0 => ?_, ?_⟩
      · have b0 := Below.on bel hb0
        have q3 : ∀ e : Ext w0, e.at_.cell? ⟨x, o + p, none⟩ = some (.int .u8 z0) := fun e => ((Below.on b0 e.same).cell (p := ⟨x, o + p, none⟩) hx).trans q1
        have q4 : ∀ e : Ext w0, e.at_.cell? ⟨x, o + (p + 1), none⟩ = some (.int .u8 z1) := fun e => ((Below.on b0 e.same).cell (p := ⟨x, o + (p + 1), none⟩) hx).trans q2
        simp only [pick, List.getElem?_toArray, List.getElem?_cons_succ, List.getElem?_cons_zero, Option.toList_some, List.cons_append, List.nil_append]
        repeat (go_big_quiet_step (fail))
        exact wpQuiet_nil rfl
      refine AlChk.nil ?_
      refine Walk.fin fun w1 b1 _ _ => ?_
      simp only [List.drop_succ_cons, List.drop_zero]
      have hq := Hpp.out
      generalize 256 * z0 + z1 = m' at *
      subst hq
      have bel1 := Below.on bel b1
      have hown1 := hown.below b1
      obtain ⟨m, rfl⟩ := Int.eq_ofNat_of_zero_le hm0
      clear bel hown b1 q1 q2 Hpp
      by_cases h3 : len < p + 2 + m
      · have hb := hid (show splitB bs = none by
          rw [Hb.out, splitK_none _ (k + 1) (by rw [HS.out, if_pos (by omega)]) n.toNat (by omega), splitEnd_none])
        have h6 : decide ((len : Int) < (p : Int) + 2 + (m : Int)) = true := by simp; omega
        clear hown1
        go_wp2_with fail
        go_ret2
        exact ⟨bel1, .inl ⟨hb.out, _, rfl⟩⟩
      · have h6 : decide ((len : Int) < (p : Int) + 2 + (m : Int)) = false := by simp; omega
        have hs1 : ∀ w, (Instr.slice 56 (.slice (some ⟨x, o, none⟩) len cap) (some (.int .i64 ((p : Int) + 2))) (some (.int .i64 ((p : Int) + 2 + (m : Int)))) none).run Try.prog w = .ok (.slice (cutA (some ⟨x, o, none⟩) (p + 2) cap) m (cap - (p + 2))) w := fun w => by
          have := run_cut_lh Try.underlying56 size_byte (some ⟨x, o, none⟩) len cap ((p : Int) + 2) ((p : Int) + 2 + (m : Int)) w (by omega) (by omega) (by omega)
          rw [this, show ((p : Int) + 2).toNat = p + 2 by omega, show ((p : Int) + 2 + (m : Int)).toNat - (p + 2) = m by omega]
        have hT5 := HT.out.cut (p + 2) (p + 2 + m) (by omega) (by omega)
        rw [Nat.add_sub_cancel_left] at hT5
        have HS2 := hid (show splitK (bs.drop 2) (k + 1) = some (l ++ [(bs.drop (p + 2)).take m], bs.drop (p + 2 + m)) by rw [HS.out, if_neg (by omega)]; rfl)
        clear HS
        generalize cutA (some ⟨x, o, none⟩) (p + 2) cap = ac at *
        generalize (bs.drop (p + 2)).take m = tt at *
        have kE : OwnB (w1.alloc (Obj.cells #[] 5)) w1.heap.size 5 (.slice (some ⟨w1.heap.size, 0, none⟩) 0 0) [] := OwnB.of_blk (Blk.new rfl _ _) (Nat.le_refl _) rfl (by omega) (by simp)
        have bE : Below w1.heap.size w1 (w1.alloc (Obj.cells #[] 5)) := (Below.refl _ _).alloc (Nat.le_refl _) _
        have belE := Below.on bel1 bE
        have hT6 := hT5.below belE
        have hT5len := hT5.length
        clear hT5
        go_wp2_with (at_builtin; refine wpList_append_text rfl (.tmp 54) (.tmp 60) rfl Try.underlying56 hi1 hy0 hy1 hy2 rfl kE rfl hT6 ?c1 ?c2 ?_)
        case c1 => simp; omega
        case c2 => exact bE.size
        intro v2 w2 hown2 _ b2
        have b12 := bE.trans b2
        have hown3 := hown1.below b12
        have bel2 := Below.on bel1 b12
        have hge := bel1.size
        obtain ⟨a2, c2, rfl, hT2, hp2⟩ := hown2.text2
        rw [hT5len] at hT2
        rw [hT5len]
        clear kE bE belE hT6 hown1 hown2 b2 b12 bel1
        have kN : Blk (w2.alloc (Obj.cells #[.slice a2 m c2] 56)) w2.heap.size #[.slice a2 m c2] 56 := Blk.new rfl _ _
        have bN : Below w2.heap.size w2 (w2.alloc (Obj.cells #[.slice a2 m c2] 56)) := (Below.refl _ _).alloc (Nat.le_refl _) _
        have hT7 := hT2.below bN
        have hp7 : ∀ p : Addr, a2 = some p → w.heap.size ≤ p.block ∧ ∃ cs, (w2.alloc (Obj.cells #[.slice a2 m c2] 56)).heap[p.block]? = some (.cells cs 5 (0, 0)) := fun p hp => by
          obtain ⟨q1, cs, q2⟩ := hp2 p hp
          exact ⟨Nat.le_trans hge q1, cs, by rw [bN.block _ (Array.getElem?_eq_some_iff.1 q2).1]; exact q2⟩
        have hown7 := hown3.below bN
        have bel7 := Below.on bel2 bN
        clear hT2 hp2 hown3 bel2 bN
        go_wp2_with (at_builtin; refine wpList_append_one rfl (.tmp 53) (.tmp 62) rfl Try.underlying71 hi hz0 hz1 hz2 byte_ne_row rfl hown7 rfl kN hT7 hp7 ?c1 ?c2 ?_)
        case c1 => omega
        case c2 => exact bel7.size
        intro v' w8 hown8 _ b8
        have bel8 := bel7.trans b8
        clear hown7 kN hT7 hp7 bel7 b8
        go_wp2_with fail
        exact ⟨⟨k + 1, p + 2 + m, _, by omega, by omega, by go_num, by go_num, HS2.out, hown8, bel8⟩, by simp [intOf]; omega⟩
    · have hkn : (k : Int) = n := by omega
      have hS' : splitK (bs.drop 2) n.toNat = some (l, bs.drop p) := by rw [← hkn]; exact hS
      by_cases h0 : p = len
      · have hb := hid (show splitB bs = some l by rw [Hb.out, hS', splitEnd_some, if_pos (by rw [h0, ← Hlen.out]; simp)])
        have h4 : ((p : Int) == (len : Int)) = true := by simp; omega
        clear hS hS' hkn h0
        go_wp2_with fail
        go_ret2
        exact ⟨bel, .inr ⟨_, _, hb.out, rfl, hown⟩⟩
      · have hb := hid (show splitB bs = none by rw [Hb.out, hS', splitEnd_some, if_neg (by simp; have := Hlen.out; omega)])
        have h4 : ((p : Int) == (len : Int)) = false := by simp; omega
        clear hS hS' hkn h0
        go_wp2_with fail
        go_ret2
        exact ⟨bel, .inl ⟨hb.out, _, rfl⟩⟩
end Go.Proofs.Ytkiaeepdpmcafaa
