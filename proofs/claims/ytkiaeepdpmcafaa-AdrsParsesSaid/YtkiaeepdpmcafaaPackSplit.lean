/-
  Contracts of pack.Split and what it calls.
-/
import Derived.WalkLawsBesides
import Derived.Test.YtkiaeepdpmcafaaOwn
import Derived.Test.YtkiaeepdpmcafaaPackRef
import Derived.Test.YtkiaeepdpmcafaaNumber
namespace Go.Proofs.Ytkiaeepdpmcafaa
open Go.ChangeShapes Go.WideShapes Go.ChangeAt Go.RowKit

/-- the texts that come out first, and what is left -/
def splitK (bs : List Int) : Nat → Option (List (List Int) × List Int)
  | 0 => some ([], bs)
  | k + 1 => match splitK bs k with
    | none => none
    | some (l, r) => if r.length < 2 then none else if r.length - 2 < (numOf (r.take 2)).toNat then none else some (l ++ [(r.drop 2).take (numOf (r.take 2)).toNat], (r.drop 2).drop (numOf (r.take 2)).toNat)

theorem splitK_none (bs : List Int) (k : Nat) (h : splitK bs k = none) (m : Nat) (hm : k ≤ m) : splitK bs m = none := by
  induction m with
  | zero =>
    obtain rfl : k = 0 := by omega
    exact h
  | succ m ih =>
    rcases Nat.lt_or_ge k (m + 1) with hlt | hge
    · unfold splitK
      rw [ih (by omega)]
    · obtain rfl : k = m + 1 := by omega
      exact h

theorem numOf_two (bs : List Int) (hb : ∀ x ∈ bs, 0 ≤ x ∧ x < 256) : 0 ≤ numOf (bs.take 2) ∧ numOf (bs.take 2) ≤ 65535 := by
  have h := numOf_bounds (bs.take 2) (fun x hx => hb x (List.mem_of_mem_take hx))
  have hl : (bs.take 2).length ≤ 2 := by rw [List.length_take]; omega
  generalize (bs.take 2).length = m at *
  have hp : (256 : Int) ^ m ≤ 65536 := by
    have hm : m = 0 ∨ m = 1 ∨ m = 2 := by omega
    rcases hm with rfl | rfl | rfl <;> decide
  omega

theorem of_text {w : World} {a : Option Addr} {len cap : Nat} {bs : List Int} (h : TextAt w a len cap bs) (h8 : len ≤ 8) :
    Calls Try.prog 38 #[.slice a len cap] w fun e w' => e = .returned (.tuple #[.int .u64 (numOf bs), .int .i64 0]) ∧ w = w' := by
  rcases Nat.eq_zero_or_pos len with rfl | h0
  · rw [h.empty rfl]
    exact of_nil _ _ _
  · obtain ⟨x, o, rfl, hx, hc⟩ := h.at_ h0
    exact of_bytes x o bs len cap w h.length h8 h.small hc

theorem size_byte : (Try.prog.info? 5).map (·.size) = some 1 := by kernel_rfl

theorem cut_short {w : World} {a : Option Addr} {len cap : Nat} (h : len < 2) :
    Calls Try.prog 51 #[.slice a len cap] w fun e w' => e = .returned (.tuple #[.int .i64 0, .slice none 0 0, .bool false]) ∧ w = w' := by
  have h1 : decide ((len : Int) < 2) = true := by simp; omega
  go_enter Try.func51, Try.ntmps51
  go_wp2
  go_ret3
  exact ⟨rfl, rfl⟩

set_option maxHeartbeats 1000000 in
theorem cut_long {w : World} {a : Option Addr} {len cap : Nat} {bs : List Int} (hT : TextAt w a len cap bs) (h : 2 ≤ len) :
    Calls Try.prog 51 #[.slice a len cap] w fun e w' => e = .returned (.tuple #[.int .i64 (numOf (bs.take 2)), .slice (cutA a 2 cap) (len - 2) (cap - 2), .bool true]) ∧ Below w.heap.size w w' := by
  have h1 : decide ((len : Int) < 2) = false := by simp; omega
  have hle := hT.le
  have hmx := hT.max
  have h2 := numOf_two bs hT.small
  have hs1 : ∀ w, (Instr.slice 56 (.slice a len cap) none (some (.int .i64 2)) none).run Try.prog w = .ok (.slice a 2 cap) w := fun w => run_cut_h Try.underlying56 size_byte a len cap 2 w (by omega) (by omega)
  have hs2 : ∀ w, (Instr.slice 56 (.slice a len cap) (some (.int .i64 2)) none none).run Try.prog w = .ok (.slice (cutA a 2 cap) (len - 2) (cap - 2)) w := fun w => run_cut_l Try.underlying56 size_byte a len cap 2 w (by omega) (by omega)
  have hT2 := hT.cut 0 2 (by omega) h
  simp only [cutA_zero, List.drop_zero, Nat.sub_zero] at hT2
  have ho := of_text hT2 (by omega)
  generalize numOf (bs.take 2) = n at *
  obtain ⟨h2, h3⟩ := h2
  clear hT2
  go_enter Try.func51, Try.ntmps51
  go_wp2_with (go_at_call 38; refine ho.mono ?_; rintro e w5 ⟨rfl, rfl⟩)
  go_quiet (fail)
  go_wp2_with fail
  go_ret3
  exact ⟨rfl, rfl, rfl, rfl, Nat.le_refl _, fun _ _ => rfl⟩

theorem row_info : (Try.prog.info? 56).map (fun i => (i.zero, i.size, i.bytes)) = some (some (.slice none 0 0), 1, 24) := by kernel_rfl
theorem byte_ne_row : 5 ≠ 56 := by decide

/-- What is handed back is nil just where what came in is. -/
theorem clone_any {w : World} {a : Option Addr} {len cap : Nat} {bs : List Int} (hT : TextAt w a len cap bs) (hl : len ≤ 140737488355328) :
    Calls Try.prog 52 #[.slice a len cap] w fun e w' => ∃ a' c', e = .returned (.slice a' len c') ∧ Below w.heap.size w w' ∧ TextAt w' a' len c' bs ∧ ∀ p : Addr, a' = some p → w.heap.size ≤ p.block ∧ ∃ cs, w'.heap[p.block]? = some (.cells cs 5 (0, 0)) := by
  obtain ⟨i0, hi, hz0, hz1, hz2⟩ := info_parts info_byte
  have hlen := hT.length
  have kE : OwnB (w.alloc (Obj.cells #[] 5)) w.heap.size 5 (.slice (some ⟨w.heap.size, 0, none⟩) 0 0) [] := OwnB.of_blk (Blk.new rfl _ _) (Nat.le_refl _) rfl (by omega) (by simp)
  have belE : Below w.heap.size w (w.alloc (Obj.cells #[] 5)) := (Below.refl _ _).alloc (Nat.le_refl _) _
  have hq := fun (w : World) (a : Option Addr) (n c : Nat) => Lib.run_eql_slice_nil (P := Try.prog) w 56 5 a n c 0 0 Try.underlying56
  cases a with
  | none =>
    rcases hT.mem with ⟨_, rfl, rfl⟩ | ⟨x, o, s, h, _⟩
    · go_enter Try.func52, Try.ntmps52
      go_wp2
      go_ret
      exact ⟨none, 0, rfl, Below.refl _ _, hT, fun p hp => by cases hp⟩
    · cases h
  | some p =>
    have hT' := hT.below belE
    clear hT
    go_enter Try.func52, Try.ntmps52
    go_wp2_with (at_builtin; refine wpList_append_text rfl _ _ rfl Try.underlying56 hi hz0 hz1 hz2 rfl kE rfl hT' ?c1 ?c2 ?_)
    case c1 => simp; omega
    case c2 => exact belE.size
    intro v' w3 hown _ hb
    have bel := belE.trans hb
    clear hb belE kE hT'
    obtain ⟨a', c', rfl, q1, q2⟩ := hown.text2
    rw [hlen] at q1
    rw [hlen]
    clear hown
    go_wp2_with fail
    go_ret
    exact ⟨a', c', rfl, bel, q1, q2⟩

/-- what the split of a text comes to -/
def splitEnd : Option (List (List Int) × List Int) → Option (List (List Int))
  | none => none
  | some (l, r) => if r = [] then some l else none
def splitB (bs : List Int) : Option (List (List Int)) :=
  if bs.length < 2 then none else splitEnd (splitK (bs.drop 2) (numOf (bs.take 2)).toNat)
theorem splitEnd_none : splitEnd none = none := rfl
theorem splitEnd_some (l : List (List Int)) (r : List Int) : splitEnd (some (l, r)) = if r = [] then some l else none := rfl

theorem splitK_len (bs : List Int) : ∀ (k : Nat) (l : List (List Int)) (r : List Int), splitK bs k = some (l, r) → l.length = k ∧ r.length + 2 * k ≤ bs.length
  | 0, l, r, h => by simp [splitK] at h; obtain ⟨rfl, rfl⟩ := h; simp
  | k + 1, l, r, h => by
    unfold splitK at h
    cases hk : splitK bs k with
    | none => rw [hk] at h; cases h
    | some p =>
      obtain ⟨l', r'⟩ := p
      rw [hk] at h
      obtain ⟨h1, h2⟩ := splitK_len bs k l' r' hk
      simp only at h
      split at h
      · cases h
      · split at h
        · cases h
        · injection h with h
          injection h with h3 h4
          subst h3 h4
          simp
          omega

/-- how the split of a text ends -/
def SplitPost (w : World) (o : Option (List (List Int))) (e : Ending) (w' : World) : Prop :=
  Below w.heap.size w w' ∧ ((o = none ∧ e = .returned (.tuple #[.slice none 0 0, .int .i64 2])) ∨ ∃ l v, o = some l ∧ e = .returned (.tuple #[v, .int .i64 0]) ∧ OwnT w' w.heap.size 56 5 v l)

set_option maxHeartbeats 4000000 in
set_option maxRecDepth 100000 in
theorem split_any {w : World} {a : Option Addr} {len cap : Nat} {bs : List Int} (hT : TextAt w a len cap bs) (hl : len ≤ 4294967296) :
    Calls Try.prog 44 #[.slice a len cap] w (SplitPost w (splitB bs)) := by
  obtain ⟨i0, hi, hz0, hz1, hz2⟩ := info_parts row_info
  have hlen := hT.length
  by_cases h2 : len < 2
  · have hb : splitB bs = none := by unfold splitB; rw [if_pos (by omega)]
    have hb := hid hb
    have hc := fun w => cut_short (w := w) (a := a) (cap := cap) h2
    go_enter Try.func44, Try.ntmps44
    go_wp2_with (go_at_call 51; refine (hc _).mono ?_; rintro e w5 ⟨rfl, rfl⟩)
    go_ret2
    exact ⟨Below.refl _ _, .inl ⟨hb.out, rfl⟩⟩
  have hc := cut_long hT (by omega)
  have hn := numOf_two bs hT.small
  have hT1 := hT.cut 2 len (by omega) (Nat.le_refl _)
  rw [List.take_of_length_le (by simp; omega)] at hT1
  have Hb : Hid (splitB bs = splitEnd (splitK (bs.drop 2) (numOf (bs.take 2)).toNat)) := hid (by unfold splitB; rw [if_neg (by omega)])
  have hlr : (bs.drop 2).length ≤ 4294967296 := by simp; omega
  generalize numOf (bs.take 2) = n at *
  obtain ⟨hn0, hn1⟩ := hn
  generalize bs.drop 2 = rs at *
  generalize cutA a 2 cap = a1 at *
  generalize len - 2 = len1 at *
  generalize cap - 2 = cap1 at *
  have HT1 := hid hT1
  clear hT hT1 h2 hlen
  go_enter Try.func44, Try.ntmps44
  go_wp2_with (go_at_call 51; refine hc.mono ?_; rintro e w1 ⟨rfl, b1⟩)
  go_loopw [5, 7, 20] (fun rest v i wr => ∃ (k : Nat) (l : List (List Int)) (r : List Int) (ar : Option Addr) (lr cr : Nat), (k : Int) ≤ n ∧ i = .int .i64 k ∧ splitK rs k = some (l, r) ∧ rest = .slice ar lr cr ∧ TextAt w ar lr cr r ∧ OwnT wr w.heap.size 56 5 v l ∧ Below w.heap.size w wr) (fun _ _ i _ => (n - intOf i).toNat)
  case atStart => exact ⟨0, [], rs, a1, len1, cap1, hn0, rfl, rfl, rfl, HT1.out, OwnT.nil _ _ _ _, b1⟩
  case round =>
    clear b1 hc
    obtain ⟨k, l, r, ar, lr, cr, hk, rfl, hS, rfl, hTr, hown, bel⟩ := hrel
    obtain ⟨hll, hrl⟩ := splitK_len rs k l r hS
    by_cases hlt : (k : Int) < n
    · have hTw := hTr.below bel
      by_cases h2 : lr < 2
      · have hb := hid (show splitB bs = none by
          rw [Hb.out, splitK_none rs (k + 1) (by unfold splitK; rw [hS]; simp only; rw [if_pos (by rw [hTr.length]; exact h2)]) n.toNat (by omega), splitEnd_none])
        have hc := fun w => cut_short (w := w) (a := ar) (cap := cr) h2
        clear hTw hTr hown hS
        go_wp2_with (go_at_call 51; refine (hc _).mono ?_; rintro e w5 ⟨rfl, rfl⟩)
        go_ret2
        exact ⟨bel, .inl ⟨hb.out, rfl⟩⟩
      have hc := cut_long hTw (by omega)
      have hm := numOf_two r hTr.small
      have hTb := hTr.cut 2 lr (by omega) (Nat.le_refl _)
      rw [List.take_of_length_le (by simp [hTr.length])] at hTb
      have HS : Hid (splitK rs (k + 1) = if r.length - 2 < (numOf (r.take 2)).toNat then none else some (l ++ [(r.drop 2).take (numOf (r.take 2)).toNat], (r.drop 2).drop (numOf (r.take 2)).toNat)) := hid (by
        unfold splitK; rw [hS]; simp only; rw [if_neg (by rw [hTr.length]; omega)])
      have hrlen := hTr.length
      generalize numOf (r.take 2) = m at *
      obtain ⟨hm0, hm1⟩ := hm
      have hb2 : (r.drop 2).length = lr - 2 := by simp; omega
      generalize r.drop 2 = rb at *
      generalize cutA ar 2 cr = ab at *
      obtain ⟨m, rfl⟩ := Int.eq_ofNat_of_zero_le hm0
      have hle := hTb.le
      have hmx := hTb.max
      by_cases h3 : lr - 2 < m
      · have hb := hid (show splitB bs = none by
          rw [Hb.out, splitK_none rs (k + 1) (by rw [HS.out, if_pos (by omega)]) n.toNat (by omega), splitEnd_none])
        have h4 : decide (((lr - 2 : Nat) : Int) < (m : Int)) = true := by simp; omega
        clear hTw hTr hown hS hTb
        go_wp2_with (go_at_call 51; refine hc.mono ?_; rintro e w5 ⟨rfl, b5⟩)
        go_ret2
        exact ⟨Below.on bel b5, .inl ⟨hb.out, rfl⟩⟩
      · have h4 : decide (((lr - 2 : Nat) : Int) < (m : Int)) = false := by simp; omega
        have hs1 : ∀ w, (Instr.slice 56 (.slice ab (lr - 2) (cr - 2)) none (some (.int .i64 m)) none).run Try.prog w = .ok (.slice ab m (cr - 2)) w := fun w => run_cut_h Try.underlying56 size_byte ab _ _ m w (by omega) (by omega)
        have hs2 : ∀ w, (Instr.slice 56 (.slice ab (lr - 2) (cr - 2)) (some (.int .i64 m)) none none).run Try.prog w = .ok (.slice (cutA ab m (cr - 2)) (lr - 2 - m) (cr - 2 - m)) w := fun w => run_cut_l Try.underlying56 size_byte ab _ _ m w (by omega) (by omega)
        have hT5 := hTb.cut 0 m (by omega) (by omega)
        have hT6 := hTb.cut m (lr - 2) (by omega) (Nat.le_refl _)
        rw [List.take_of_length_le (by simp; omega)] at hT6
        simp only [cutA_zero, List.drop_zero, Nat.sub_zero] at hT5
        have HS2 := hid (show splitK rs (k + 1) = some (l ++ [rb.take m], rb.drop m) by rw [HS.out, if_neg (by omega)]; rfl)
        clear HS hTb hTr hTw hS
        go_wp2_with (go_at_call 51; refine hc.mono ?_; rintro e w5 ⟨rfl, b5⟩)
        have bel5 := Below.on bel b5
        have hown5 := hown.below b5
        refine (clone_any (hT5.below bel5) (by omega)).mono ?_
        rintro e w6 ⟨a6, c6, rfl, b6, hT6c, hp6⟩
        have bel6 := Below.on bel5 b6
        have hown6 := hown5.below b6
        clear hown hown5 bel b5 hc
        have kN : Blk (w6.alloc (Obj.cells #[.slice a6 m c6] 56)) w6.heap.size #[.slice a6 m c6] 56 := Blk.new rfl _ _
        have bN : Below w6.heap.size w6 (w6.alloc (Obj.cells #[.slice a6 m c6] 56)) := (Below.refl _ _).alloc (Nat.le_refl _) _
        have hT7 := hT6c.below bN
        have hp7 : ∀ p : Addr, a6 = some p → w.heap.size ≤ p.block ∧ ∃ cs, (w6.alloc (Obj.cells #[.slice a6 m c6] 56)).heap[p.block]? = some (.cells cs 5 (0, 0)) := fun p hp => by
          obtain ⟨q1, cs, q2⟩ := hp6 p hp
          exact ⟨Nat.le_trans bel5.size q1, cs, by rw [bN.block _ (Array.getElem?_eq_some_iff.1 q2).1]; exact q2⟩
        have hown7 := hown6.below bN
        have bel7 := Below.on bel6 bN
        clear hT6c hp6 hown6 bel6 bN b6 bel5
        go_wp2_with (at_builtin; refine wpList_append_one rfl _ _ rfl Try.underlying71 hi hz0 hz1 hz2 byte_ne_row rfl hown7 rfl kN hT7 hp7 ?c1 ?c2 ?_)
        case c1 => omega
        case c2 => exact bel7.size
        intro v' w8 hown8 _ b8
        have bel8 := bel7.trans b8
        clear hown7 kN hT7 hp7 bel7 b8
        go_wp2_with fail
        exact ⟨⟨k + 1, _, _, _, _, _, by omega, by go_num, HS2.out, rfl, hT6, hown8, bel8⟩, by simp [intOf]; omega⟩
    · have hkn : (k : Int) = n := by omega
      have hS' : splitK rs n.toNat = some (l, r) := by rw [← hkn]; exact hS
      have hrlen := hTr.length
      have hle := hTr.le
      have hmx := hTr.max
      by_cases h0 : lr = 0
      · have hr0 : r = [] := List.eq_nil_of_length_eq_zero (by omega)
        have hb := hid (show splitB bs = some l by rw [Hb.out, hS', splitEnd_some, if_pos hr0])
        have h4 : decide ((0 : Int) < (lr : Int)) = false := by simp; omega
        clear hS hS' hkn hTr
        go_wp2_with fail
        go_ret2
        exact ⟨bel, .inr ⟨_, _, hb.out, rfl, hown⟩⟩
      · have hr0 : r ≠ [] := fun h => by rw [h] at hrlen; simp at hrlen; omega
        have hb := hid (show splitB bs = none by rw [Hb.out, hS', splitEnd_some, if_neg hr0])
        have h4 : decide ((0 : Int) < (lr : Int)) = true := by simp; omega
        clear hS hS' hkn hTr
        go_wp2_with fail
        go_ret2
        exact ⟨bel, .inl ⟨hb.out, rfl⟩⟩
end Go.Proofs.Ytkiaeepdpmcafaa
