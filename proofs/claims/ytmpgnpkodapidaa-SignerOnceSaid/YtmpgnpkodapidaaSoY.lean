/-
  Layer 15: the rows that SignerOnce keeps.
-/
import Derived.Test.YtmpgnpkodapidaaSpJ
import Derived.Test.YtmpgnpkodapidaaSpH
import Derived.Lib.ConvBytes
namespace Go.Proofs.Ytmpgnpkodapidaa
open Go.ChangeShapes Go.WideShapes Go.ChangeAt Go.RowKit

/-- the texts that come out first, and what is left -/
def splitK (bs : List Int) : Nat → Option (List (List Int) × List Int)
  | 0 => some ([], bs)
  | k + 1 => match splitK bs k with
    | none => none
    | some (l, r) => if r.length < 2 then none else if r.length - 2 < (numOf (r.take 2)).toNat then none else some (l ++ [(r.drop 2).take (numOf (r.take 2)).toNat], (r.drop 2).drop (numOf (r.take 2)).toNat)

theorem splitK_none (bs : List Int) (k : Nat) (h : splitK bs k = none) (m : Nat) (hm : k ≤ m) : splitK bs m = none := by
  induction m with
  | zero =>
    obtain rfl : k = 0 := by omega
    exact h
  | succ m ih =>
    rcases Nat.lt_or_ge k (m + 1) with hlt | hge
    · unfold splitK
      rw [ih (by omega)]
    · obtain rfl : k = m + 1 := by omega
      exact h

theorem numOf_two (bs : List Int) (hb : ∀ x ∈ bs, 0 ≤ x ∧ x < 256) : 0 ≤ numOf (bs.take 2) ∧ numOf (bs.take 2) ≤ 65535 := by
  have h := numOf_bounds (bs.take 2) (fun x hx => hb x (List.mem_of_mem_take hx))
  have hl : (bs.take 2).length ≤ 2 := by rw [List.length_take]; omega
  generalize (bs.take 2).length = m at *
  have hp : (256 : Int) ^ m ≤ 65536 := by
    have hm : m = 0 ∨ m = 1 ∨ m = 2 := by omega
    rcases hm with rfl | rfl | rfl <;> decide
  omega

theorem size_byte : (Try.prog.info? 5).map (·.size) = some 1 := by kernel_rfl

theorem cut_short {w : World} {a : Option Addr} {len cap : Nat} (h : len < 2) :
    Calls Try.prog 71 #[.slice a len cap] w fun e w' => e = .returned (.tuple #[.int .i64 0, .slice none 0 0, .bool false]) ∧ w = w' := by
  have h1 : decide ((len : Int) < 2) = true := by simp; omega
  go_enter Try.func71, Try.ntmps71
  go_wp2
  go_ret3
  exact ⟨rfl, rfl⟩

set_option maxHeartbeats 1000000 in
theorem cut_long {w : World} {a : Option Addr} {len cap : Nat} {bs : List Int} (hT : TextAt w a len cap bs) (h : 2 ≤ len) :
    Calls Try.prog 71 #[.slice a len cap] w fun e w' => e = .returned (.tuple #[.int .i64 (numOf (bs.take 2)), .slice (cutA a 2 cap) (len - 2) (cap - 2), .bool true]) ∧ Below w.heap.size w w' := by
  have h1 : decide ((len : Int) < 2) = false := by simp; omega
  have hle := hT.le
  have hmx := hT.max
  have h2 := numOf_two bs hT.small
  have hs1 : ∀ w, (Instr.slice 31 (.slice a len cap) none (some (.int .i64 2)) none).run Try.prog w = .ok (.slice a 2 cap) w := fun w => run_cut_h Try.underlying31 size_byte a len cap 2 w (by omega) (by omega)
  have hs2 : ∀ w, (Instr.slice 31 (.slice a len cap) (some (.int .i64 2)) none none).run Try.prog w = .ok (.slice (cutA a 2 cap) (len - 2) (cap - 2)) w := fun w => run_cut_l Try.underlying31 size_byte a len cap 2 w (by omega) (by omega)
  have hT2 := hT.cut 0 2 (by omega) h
  simp only [cutA_zero, List.drop_zero, Nat.sub_zero] at hT2
  have ho := of_text hT2 (by omega)
  generalize numOf (bs.take 2) = n at *
  obtain ⟨h2, h3⟩ := h2
  clear hT2
  go_enter Try.func71, Try.ntmps71
  go_wp2_with (go_at_call 60; refine ho.mono ?_; rintro e w5 ⟨rfl, rfl⟩)
  go_quiet (fail)
  go_wp2_with fail
  go_ret3
  exact ⟨rfl, rfl, rfl, rfl, Nat.le_refl _, fun _ _ => rfl⟩

theorem row_info : (Try.prog.info? 31).map (fun i => (i.zero, i.size, i.bytes)) = some (some (.slice none 0 0), 1, 24) := by kernel_rfl
theorem byte_ne_row : 5 ≠ 31 := by decide

/-- what the split of a text comes to -/
def splitEnd : Option (List (List Int) × List Int) → Option (List (List Int))
  | none => none
  | some (l, r) => if r = [] then some l else none
def splitB (bs : List Int) : Option (List (List Int)) :=
  if bs.length < 2 then none else splitEnd (splitK (bs.drop 2) (numOf (bs.take 2)).toNat)
theorem splitEnd_none : splitEnd none = none := rfl
theorem splitEnd_some (l : List (List Int)) (r : List Int) : splitEnd (some (l, r)) = if r = [] then some l else none := rfl

theorem splitK_len (bs : List Int) : ∀ (k : Nat) (l : List (List Int)) (r : List Int), splitK bs k = some (l, r) → l.length = k ∧ r.length + 2 * k ≤ bs.length
  | 0, l, r, h => by simp [splitK] at h; obtain ⟨rfl, rfl⟩ := h; simp
  | k + 1, l, r, h => by
    unfold splitK at h
    cases hk : splitK bs k with
    | none => rw [hk] at h; cases h
    | some p =>
      obtain ⟨l', r'⟩ := p
      rw [hk] at h
      obtain ⟨h1, h2⟩ := splitK_len bs k l' r' hk
      simp only at h
      split at h
      · cases h
      · split at h
        · cases h
        · injection h with h
          injection h with h3 h4
          subst h3 h4
          simp
          omega

/-- how the split of a text ends -/
def SplitPost (w : World) (o : Option (List (List Int))) (e : Ending) (w' : World) : Prop :=
  Below w.heap.size w w' ∧ ((o = none ∧ e = .returned (.tuple #[.slice none 0 0, .int .i64 2])) ∨ ∃ l v, o = some l ∧ e = .returned (.tuple #[v, .int .i64 0]) ∧ OwnT w' w.heap.size 31 5 v l)

set_option maxHeartbeats 4000000 in
set_option maxRecDepth 100000 in
theorem split_any {w : World} {a : Option Addr} {len cap : Nat} {bs : List Int} (hT : TextAt w a len cap bs) (hl : len ≤ 4294967296) :
    Calls Try.prog 63 #[.slice a len cap] w (SplitPost w (splitB bs)) := by
  obtain ⟨i0, hi, hz0, hz1, hz2⟩ := info_parts row_info
  have hlen := hT.length
  by_cases h2 : len < 2
  · have hb : splitB bs = none := by unfold splitB; rw [if_pos (by omega)]
    have hb := hid hb
    have hc := fun w => cut_short (w := w) (a := a) (cap := cap) h2
    go_enter Try.func63, Try.ntmps63
    go_wp2_with (go_at_call 71; refine (hc _).mono ?_; rintro e w5 ⟨rfl, rfl⟩)
    go_ret2
    exact ⟨Below.refl _ _, .inl ⟨hb.out, rfl⟩⟩
  have hc := cut_long hT (by omega)
  have hn := numOf_two bs hT.small
  have hT1 := hT.cut 2 len (by omega) (Nat.le_refl _)
  rw [List.take_of_length_le (by simp; omega)] at hT1
  have Hb : Hid (splitB bs = splitEnd (splitK (bs.drop 2) (numOf (bs.take 2)).toNat)) := hid (by unfold splitB; rw [if_neg (by omega)])
  have hlr : (bs.drop 2).length ≤ 4294967296 := by simp; omega
  generalize numOf (bs.take 2) = n at *
  obtain ⟨hn0, hn1⟩ := hn
  generalize bs.drop 2 = rs at *
  generalize cutA a 2 cap = a1 at *
  generalize len - 2 = len1 at *
  generalize cap - 2 = cap1 at *
  have HT1 := hid hT1
  clear hT hT1 h2 hlen
  go_enter Try.func63, Try.ntmps63
  go_wp2_with (go_at_call 71; refine hc.mono ?_; rintro e w1 ⟨rfl, b1⟩)
  go_loopw [5, 7, 20] (fun rest v i wr => ∃ (k : Nat) (l : List (List Int)) (r : List Int) (ar : Option Addr) (lr cr : Nat), (k : Int) ≤ n ∧ i = .int .i64 k ∧ splitK rs k = some (l, r) ∧ rest = .slice ar lr cr ∧ TextAt w ar lr cr r ∧ OwnT wr w.heap.size 31 5 v l ∧ Below w.heap.size w wr) (fun _ _ i _ => (n - intOf i).toNat)
  case atStart => exact ⟨0, [], rs, a1, len1, cap1, hn0, rfl, rfl, rfl, HT1.out, OwnT.nil _ _ _ _, b1⟩
  case round =>
    clear b1 hc
    obtain ⟨k, l, r, ar, lr, cr, hk, rfl, hS, rfl, hTr, hown, bel⟩ := hrel
    obtain ⟨hll, hrl⟩ := splitK_len rs k l r hS
    by_cases hlt : (k : Int) < n
    · have hTw := hTr.below bel
      by_cases h2 : lr < 2
      · have hb := hid (show splitB bs = none by
          rw [Hb.out, splitK_none rs (k + 1) (by unfold splitK; rw [hS]; simp only; rw [if_pos (by rw [hTr.length]; exact h2)]) n.toNat (by omega), splitEnd_none])
        have hc := fun w => cut_short (w := w) (a := ar) (cap := cr) h2
        clear hTw hTr hown hS
        go_wp2_with (go_at_call 71; refine (hc _).mono ?_; rintro e w5 ⟨rfl, rfl⟩)
        go_ret2
        exact ⟨bel, .inl ⟨hb.out, rfl⟩⟩
      have hc := cut_long hTw (by omega)
      have hm := numOf_two r hTr.small
      have hTb := hTr.cut 2 lr (by omega) (Nat.le_refl _)
      rw [List.take_of_length_le (by simp [hTr.length])] at hTb
      have HS : Hid (splitK rs (k + 1) = if r.length - 2 < (numOf (r.take 2)).toNat then none else some (l ++ [(r.drop 2).take (numOf (r.take 2)).toNat], (r.drop 2).drop (numOf (r.take 2)).toNat)) := hid (by
        unfold splitK; rw [hS]; simp only; rw [if_neg (by rw [hTr.length]; omega)])
      have hrlen := hTr.length
      generalize numOf (r.take 2) = m at *
      obtain ⟨hm0, hm1⟩ := hm
      have hb2 : (r.drop 2).length = lr - 2 := by simp; omega
      generalize r.drop 2 = rb at *
      generalize cutA ar 2 cr = ab at *
      obtain ⟨m, rfl⟩ := Int.eq_ofNat_of_zero_le hm0
      have hle := hTb.le
      have hmx := hTb.max
      by_cases h3 : lr - 2 < m
      · have hb := hid (show splitB bs = none by
          rw [Hb.out, splitK_none rs (k + 1) (by rw [HS.out, if_pos (by omega)]) n.toNat (by omega), splitEnd_none])
        have h4 : decide (((lr - 2 : Nat) : Int) < (m : Int)) = true := by simp; omega
        clear hTw hTr hown hS hTb
        go_wp2_with (go_at_call 71; refine hc.mono ?_; rintro e w5 ⟨rfl, b5⟩)
        go_ret2
        exact ⟨Below.on bel b5, .inl ⟨hb.out, rfl⟩⟩
      · have h4 : decide (((lr - 2 : Nat) : Int) < (m : Int)) = false := by simp; omega
        have hs1 : ∀ w, (Instr.slice 31 (.slice ab (lr - 2) (cr - 2)) none (some (.int .i64 m)) none).run Try.prog w = .ok (.slice ab m (cr - 2)) w := fun w => run_cut_h Try.underlying31 size_byte ab _ _ m w (by omega) (by omega)
        have hs2 : ∀ w, (Instr.slice 31 (.slice ab (lr - 2) (cr - 2)) (some (.int .i64 m)) none none).run Try.prog w = .ok (.slice (cutA ab m (cr - 2)) (lr - 2 - m) (cr - 2 - m)) w := fun w => run_cut_l Try.underlying31 size_byte ab _ _ m w (by omega) (by omega)
        have hT5 := hTb.cut 0 m (by omega) (by omega)
        have hT6 := hTb.cut m (lr - 2) (by omega) (Nat.le_refl _)
        rw [List.take_of_length_le (by simp; omega)] at hT6
        simp only [cutA_zero, List.drop_zero, Nat.sub_zero] at hT5
        have HS2 := hid (show splitK rs (k + 1) = some (l ++ [rb.take m], rb.drop m) by rw [HS.out, if_neg (by omega)]; rfl)
        clear HS hTb hTr hTw hS
        go_wp2_with (go_at_call 71; refine hc.mono ?_; rintro e w5 ⟨rfl, b5⟩)
        have bel5 := Below.on bel b5
        have hown5 := hown.below b5
        refine (clone_any (hT5.below bel5) (by omega)).mono ?_
        rintro e w6 ⟨a6, c6, rfl, b6, hT6c, hp6⟩
        have bel6 := Below.on bel5 b6
        have hown6 := hown5.below b6
        clear hown hown5 bel b5 hc
        have kN : Blk (w6.alloc (Obj.cells #[.slice a6 m c6] 31)) w6.heap.size #[.slice a6 m c6] 31 := Blk.new rfl _ _
        have bN : Below w6.heap.size w6 (w6.alloc (Obj.cells #[.slice a6 m c6] 31)) := (Below.refl _ _).alloc (Nat.le_refl _) _
        have hT7 := hT6c.below bN
        have hp7 : ∀ p : Addr, a6 = some p → w.heap.size ≤ p.block ∧ ∃ cs, (w6.alloc (Obj.cells #[.slice a6 m c6] 31)).heap[p.block]? = some (.cells cs 5 (0, 0)) := fun p hp => by
          obtain ⟨q1, cs, q2⟩ := hp6 p hp
          exact ⟨Nat.le_trans bel5.size q1, cs, by rw [bN.block _ (Array.getElem?_eq_some_iff.1 q2).1]; exact q2⟩
        have hown7 := hown6.below bN
        have bel7 := Below.on bel6 bN
        clear hT6c hp6 hown6 bel6 bN b6 bel5
        go_wp2_with (at_builtin; refine wpList_append_one rfl _ _ rfl Try.underlying114 hi hz0 hz1 hz2 byte_ne_row rfl hown7 rfl kN hT7 hp7 ?c1 ?c2 ?_)
        case c1 => omega
        case c2 => exact bel7.size
        intro v' w8 hown8 _ b8
        have bel8 := bel7.trans b8
        clear hown7 kN hT7 hp7 bel7 b8
        go_wp2_with fail
        exact ⟨⟨k + 1, _, _, _, _, _, by omega, by go_num, HS2.out, rfl, hT6, hown8, bel8⟩, by simp [intOf]; omega⟩
    · have hkn : (k : Int) = n := by omega
      have hS' : splitK rs n.toNat = some (l, r) := by rw [← hkn]; exact hS
      have hrlen := hTr.length
      have hle := hTr.le
      have hmx := hTr.max
      by_cases h0 : lr = 0
      · have hr0 : r = [] := List.eq_nil_of_length_eq_zero (by omega)
        have hb := hid (show splitB bs = some l by rw [Hb.out, hS', splitEnd_some, if_pos hr0])
        have h4 : decide ((0 : Int) < (lr : Int)) = false := by simp; omega
        clear hS hS' hkn hTr
        go_wp2_with fail
        go_ret2
        exact ⟨bel, .inr ⟨_, _, hb.out, rfl, hown⟩⟩
      · have hr0 : r ≠ [] := fun h => by rw [h] at hrlen; simp at hrlen; omega
        have hb := hid (show splitB bs = none by rw [Hb.out, hS', splitEnd_some, if_neg hr0])
        have h4 : decide ((0 : Int) < (lr : Int)) = true := by simp; omega
        clear hS hS' hkn hTr
        go_wp2_with fail
        go_ret2
        exact ⟨bel, .inl ⟨hb.out, rfl⟩⟩
end Go.Proofs.Ytmpgnpkodapidaa

namespace Go.Proofs.Ytmpgnpkodapidaa
open Go.ChangeShapes Go.WideShapes Go.ChangeAt Go.RowKit

theorem numOf_be2 (n : Nat) (h : n ≤ 65535) : numOf (be 2 n) = n := by
  rw [numOf_be, show (256 : Int) ^ 2 = 65536 by decide]
  omega

theorem rowB_cons (t : List Int) (ts : List (List Int)) : rowB (t :: ts) = be 2 t.length ++ t ++ rowB ts := by simp [rowB]
theorem rowB_append (a b : List (List Int)) : rowB (a ++ b) = rowB a ++ rowB b := by simp [rowB]
theorem rowB_one (t : List Int) : rowB [t] = be 2 t.length ++ t := by simp [rowB]

theorem splitK_row (ts : List (List Int)) (hts : ∀ t ∈ ts, t.length ≤ 65535) : ∀ k, k ≤ ts.length → splitK (rowB ts) k = some (ts.take k, rowB (ts.drop k))
  | 0, _ => by simp [splitK]
  | k + 1, hk => by
    have ih := splitK_row ts hts k (by omega)
    unfold splitK
    rw [ih]
    simp only
    have hd : ts.drop k = ts[k] :: ts.drop (k + 1) := List.drop_eq_getElem_cons (by omega)
    have htk : ts[k].length ≤ 65535 := hts _ (List.getElem_mem _)
    have e1 : rowB (ts.drop k) = be 2 ts[k].length ++ (ts[k] ++ rowB (ts.drop (k + 1))) := by rw [hd, rowB_cons, List.append_assoc]
    have h2 : (be 2 (ts[k].length : Int)).length = 2 := be_length _ _
    have e2 : (rowB (ts.drop k)).take 2 = be 2 ts[k].length := by rw [e1]; exact List.take_left' h2
    have e3 : (rowB (ts.drop k)).drop 2 = ts[k] ++ rowB (ts.drop (k + 1)) := by rw [e1]; exact List.drop_left' h2
    have e4 : (rowB (ts.drop k)).length = 2 + ts[k].length + (rowB (ts.drop (k + 1))).length := by rw [e1]; simp [h2]; omega
    rw [e2, numOf_be2 _ htk, e3, e4, if_neg (by omega), if_neg (by omega)]
    simp only [Int.toNat_natCast, List.take_left', List.drop_left']
    rw [List.take_succ_eq_append_getElem (by omega)]

theorem splitB_row (ts : List (List Int)) (hn : ts.length ≤ 65535) (hts : ∀ t ∈ ts, t.length ≤ 65535) : splitB (be 2 ts.length ++ rowB ts) = some ts := by
  have h2 : (be 2 (ts.length : Int)).length = 2 := be_length _ _
  unfold splitB
  rw [if_neg (by simp [h2]), List.take_left' h2, List.drop_left' h2, numOf_be2 _ hn, Int.toNat_natCast, splitK_row ts hts _ (Nat.le_refl _), splitEnd_some]
  simp [rowB]
theorem split_stB (g k r ik ii : Int) (m : List Int) (hm : m.length ≤ 200) : splitB (stB g k r ik ii m) = some [be 8 g, be 8 k, be 8 r, be 8 ik, be 8 ii, m] :=
  splitB_row [be 8 g, be 8 k, be 8 r, be 8 ik, be 8 ii, m] (by simp) (fun t ht => by
    simp only [List.mem_cons, List.not_mem_nil, or_false] at ht
    rcases ht with rfl | rfl | rfl | rfl | rfl | rfl
    all_goals first | omega | (rw [be_length]; decide))
theorem numOf_eight (n : Int) (h : 0 ≤ n ∧ n < 9223372036854775808) : numOf (be 8 n) = n := by
  rw [numOf_be]
  have : (256 : Int) ^ 8 = 18446744073709551616 := by decide
  rw [this]
  omega
end Go.Proofs.Ytmpgnpkodapidaa

namespace Go.Proofs.Ytmpgnpkodapidaa
open Go.ChangeShapes Go.WideShapes Go.ChangeAt Go.RowKit

theorem below_inS {W w w1 : World} {N : Nat} {S : List Nat} (h : Below N W w) (b : FlowB.ButIn S w w1) (hN : N ≤ W.heap.size) (hS : ∀ b ∈ S, N ≤ b) : Below N W w1 :=
  ⟨b.os.trans h.os, b.tape.trans h.tape, b.output.trans h.output, Nat.le_trans h.size b.size, fun k hk => (b.block k (by have := h.size; omega) (fun q => by have := hS k q; omega)).trans (h.block k hk)⟩
def rdC (g k r ik ii : Int) (j : Nat) : Array Value := stC (if 0 < j then g else 0) (if 1 < j then k else 0) (if 2 < j then r else 0) (if 3 < j then ik else 0) (if 4 < j then ii else 0) (.slice none 0 0)
def ptrC (S : Nat) : Array Value := #[.pointer (some ⟨S, 0, none⟩), .pointer (some ⟨S, 1, none⟩), .pointer (some ⟨S, 2, none⟩), .pointer (some ⟨S, 3, none⟩), .pointer (some ⟨S, 4, none⟩)]
theorem size_pint : (Try.prog.info? 118).map (·.size) = some 1 := by kernel_rfl
set_option maxHeartbeats 4000000 in
set_option maxRecDepth 100000 in
theorem read_five (w0 w : World) (S xa : Nat) (ta : Option Addr) (tc : Nat) (g k r ik ii : Int) (hb : Below w0.heap.size w0 w) (hT : TextsAt w0 ta 5 tc [be 8 g, be 8 k, be 8 r, be 8 ik, be 8 ii]) (hS : w0.heap.size ≤ S) (hk : Blk w S (rdC g k r ik ii 0) 100) (kx : Blk w xa (ptrC S) 118) (hx : xa ≠ S)
    (hg : 0 ≤ g ∧ g ≤ 4611686018427387904) (hkk : 0 ≤ k ∧ k ≤ 4611686018427387904) (hr : 0 ≤ r ∧ r ≤ 4611686018427387904) (hik : 0 ≤ ik ∧ ik ≤ 4611686018427387904) (hii : 0 ≤ ii ∧ ii ≤ 4611686018427387904) :
    Calls Try.prog 64 #[.slice ta 5 tc, .slice (some ⟨xa, 0, none⟩) 5 5] w fun e w' => e = .returned (.bool true) ∧ But S w w' ∧ Blk w' S (rdC g k r ik ii 5) 100 := by
  have HB := hid hb
  have HT := hid hT
  have HK := hid hk
  have KX := hid kx
  have Hb := hid (But.of (b := S) (Below.refl w.heap.size w))
  clear hb hT hk kx
  go_enter Try.func64, Try.ntmps64
  go_wp2_with fail
  go_loopw [11] (fun iv wr => ∃ j : Nat, j ≤ 5 ∧ iv = .int .i64 j ∧ But S w wr ∧ Blk wr S (rdC g k r ik ii j) 100) (fun iv _ => 5 - (intOf iv).toNat)
  case atStart => exact ⟨0, by omega, rfl, Hb.out, HK.out⟩
  case round =>
    clear HK Hb
    obtain ⟨j, hj, rfl, hbr, hkr⟩ := hrel
    have HBr := hid hbr
    have KR := hid hkr
    have KXr := hid (hbr.blk KX.out hx)
    have HBw := hid (show Below w0.heap.size w0 wr from below_inS HB.out (ButIn.of_but (S := [S]) hbr (by simp)) (Nat.le_refl _) (by simpa using hS))
    clear hbr hkr
    by_cases hlt : j < 5
    · have hj5 : j = 0 ∨ j = 1 ∨ j = 2 ∨ j = 3 ∨ j = 4 := by omega
      rcases hj5 with rfl | rfl | rfl | rfl | rfl
      · obtain ⟨x, o, a', l', c', hta, hxl, hc, ht⟩ := HT.out.at_ 0 (by omega)
        have ht : TextAt w0 a' l' c' (be 8 g) := ht
        have hl8 : l' = 8 := by have := ht.length; rw [be_length] at this; omega
        subst hl8 hta
        have HTx := hid (ht.below HBw.out)
        have hcr : wr.cell? ⟨x, o, none⟩ = some (.slice a' 8 c') := (HBw.out.cell (p := ⟨x, o + 0, none⟩) hxl).trans hc
        have hpx : wr.cell? ⟨xa, 0, none⟩ = some (.pointer (some ⟨S, 0, none⟩)) := by rw [KXr.out.cell]; rfl
        have h8 := numOf_eight g (by omega)
        clear ht hc
        go_wp2_with fail
        refine (of_text HTx.out (by omega)).mono ?_
        rintro e w5 ⟨rfl, rfl⟩
        rw [h8]
        have hbig : ¬ (4611686018427387904 : Int) < g := by omega
        have hwr : wrap64 g = g := by unfold wrap64; omega
        go_wp2_with (
          refine wpList_store_cell rfl 3 _ _ rfl S 0 (.int .i64 g) rfl rfl rfl rfl _ 100 KR.out (by simp [rdC, stC]) size_rint ?_
          intro w9 hb9 hk9
          have HB9 := hid (But.trans HBr.out hb9)
          have K9 := hid (show Blk w9 S (rdC g k r ik ii 1) 100 from by simpa [rdC, stC] using hk9)
          clear hb9 hk9)
        exact ⟨⟨1, by omega, by first | rfl | simp, HB9.out, K9.out⟩, by simp [intOf]⟩
      · obtain ⟨x, o, a', l', c', hta, hxl, hc, ht⟩ := HT.out.at_ 1 (by omega)
        have ht : TextAt w0 a' l' c' (be 8 k) := ht
        have hl8 : l' = 8 := by have := ht.length; rw [be_length] at this; omega
        subst hl8 hta
        have HTx := hid (ht.below HBw.out)
        have hcr : wr.cell? ⟨x, o + 1, none⟩ = some (.slice a' 8 c') := (HBw.out.cell (p := ⟨x, o + 1, none⟩) hxl).trans hc
        have hpx : wr.cell? ⟨xa, 1, none⟩ = some (.pointer (some ⟨S, 1, none⟩)) := by rw [KXr.out.cell]; rfl
        have h8 := numOf_eight k (by omega)
        clear ht hc
        go_wp2_with fail
        refine (of_text HTx.out (by omega)).mono ?_
        rintro e w5 ⟨rfl, rfl⟩
        rw [h8]
        have hbig : ¬ (4611686018427387904 : Int) < k := by omega
        have hwr : wrap64 k = k := by unfold wrap64; omega
        go_wp2_with (
          refine wpList_store_cell rfl 3 _ _ rfl S 1 (.int .i64 k) rfl rfl rfl rfl _ 100 KR.out (by simp [rdC, stC]) size_rint ?_
          intro w9 hb9 hk9
          have HB9 := hid (But.trans HBr.out hb9)
          have K9 := hid (show Blk w9 S (rdC g k r ik ii 2) 100 from by simpa [rdC, stC] using hk9)
          clear hb9 hk9)
        exact ⟨⟨2, by omega, by first | rfl | simp, HB9.out, K9.out⟩, by simp [intOf]⟩
      · obtain ⟨x, o, a', l', c', hta, hxl, hc, ht⟩ := HT.out.at_ 2 (by omega)
        have ht : TextAt w0 a' l' c' (be 8 r) := ht
        have hl8 : l' = 8 := by have := ht.length; rw [be_length] at this; omega
        subst hl8 hta
        have HTx := hid (ht.below HBw.out)
        have hcr : wr.cell? ⟨x, o + 2, none⟩ = some (.slice a' 8 c') := (HBw.out.cell (p := ⟨x, o + 2, none⟩) hxl).trans hc
        have hpx : wr.cell? ⟨xa, 2, none⟩ = some (.pointer (some ⟨S, 2, none⟩)) := by rw [KXr.out.cell]; rfl
        have h8 := numOf_eight r (by omega)
        clear ht hc
        go_wp2_with fail
        refine (of_text HTx.out (by omega)).mono ?_
        rintro e w5 ⟨rfl, rfl⟩
        rw [h8]
        have hbig : ¬ (4611686018427387904 : Int) < r := by omega
        have hwr : wrap64 r = r := by unfold wrap64; omega
        go_wp2_with (
          refine wpList_store_cell rfl 3 _ _ rfl S 2 (.int .i64 r) rfl rfl rfl rfl _ 100 KR.out (by simp [rdC, stC]) size_rint ?_
          intro w9 hb9 hk9
          have HB9 := hid (But.trans HBr.out hb9)
          have K9 := hid (show Blk w9 S (rdC g k r ik ii 3) 100 from by simpa [rdC, stC] using hk9)
          clear hb9 hk9)
        exact ⟨⟨3, by omega, by first | rfl | simp, HB9.out, K9.out⟩, by simp [intOf]⟩
      · obtain ⟨x, o, a', l', c', hta, hxl, hc, ht⟩ := HT.out.at_ 3 (by omega)
        have ht : TextAt w0 a' l' c' (be 8 ik) := ht
        have hl8 : l' = 8 := by have := ht.length; rw [be_length] at this; omega
        subst hl8 hta
        have HTx := hid (ht.below HBw.out)
        have hcr : wr.cell? ⟨x, o + 3, none⟩ = some (.slice a' 8 c') := (HBw.out.cell (p := ⟨x, o + 3, none⟩) hxl).trans hc
        have hpx : wr.cell? ⟨xa, 3, none⟩ = some (.pointer (some ⟨S, 3, none⟩)) := by rw [KXr.out.cell]; rfl
        have h8 := numOf_eight ik (by omega)
        clear ht hc
        go_wp2_with fail
        refine (of_text HTx.out (by omega)).mono ?_
        rintro e w5 ⟨rfl, rfl⟩
        rw [h8]
        have hbig : ¬ (4611686018427387904 : Int) < ik := by omega
        have hwr : wrap64 ik = ik := by unfold wrap64; omega
        go_wp2_with (
          refine wpList_store_cell rfl 3 _ _ rfl S 3 (.int .i64 ik) rfl rfl rfl rfl _ 100 KR.out (by simp [rdC, stC]) size_rint ?_
          intro w9 hb9 hk9
          have HB9 := hid (But.trans HBr.out hb9)
          have K9 := hid (show Blk w9 S (rdC g k r ik ii 4) 100 from by simpa [rdC, stC] using hk9)
          clear hb9 hk9)
        exact ⟨⟨4, by omega, by first | rfl | simp, HB9.out, K9.out⟩, by simp [intOf]⟩
      · obtain ⟨x, o, a', l', c', hta, hxl, hc, ht⟩ := HT.out.at_ 4 (by omega)
        have ht : TextAt w0 a' l' c' (be 8 ii) := ht
        have hl8 : l' = 8 := by have := ht.length; rw [be_length] at this; omega
        subst hl8 hta
        have HTx := hid (ht.below HBw.out)
        have hcr : wr.cell? ⟨x, o + 4, none⟩ = some (.slice a' 8 c') := (HBw.out.cell (p := ⟨x, o + 4, none⟩) hxl).trans hc
        have hpx : wr.cell? ⟨xa, 4, none⟩ = some (.pointer (some ⟨S, 4, none⟩)) := by rw [KXr.out.cell]; rfl
        have h8 := numOf_eight ii (by omega)
        clear ht hc
        go_wp2_with fail
        refine (of_text HTx.out (by omega)).mono ?_
        rintro e w5 ⟨rfl, rfl⟩
        rw [h8]
        have hbig : ¬ (4611686018427387904 : Int) < ii := by omega
        have hwr : wrap64 ii = ii := by unfold wrap64; omega
        go_wp2_with (
          refine wpList_store_cell rfl 3 _ _ rfl S 4 (.int .i64 ii) rfl rfl rfl rfl _ 100 KR.out (by simp [rdC, stC]) size_rint ?_
          intro w9 hb9 hk9
          have HB9 := hid (But.trans HBr.out hb9)
          have K9 := hid (show Blk w9 S (rdC g k r ik ii 5) 100 from by simpa [rdC, stC] using hk9)
          clear hb9 hk9)
        exact ⟨⟨5, by omega, by first | rfl | simp, HB9.out, K9.out⟩, by simp [intOf]⟩
    · have : j = 5 := by omega
      subst this
      go_wp2_with fail
      go_returns
      exact ⟨by first | rfl | simp, HBr.out, KR.out⟩
end Go.Proofs.Ytmpgnpkodapidaa

namespace Go.Proofs.Ytmpgnpkodapidaa
open Go.ChangeShapes Go.WideShapes Go.ChangeAt Go.RowKit

theorem OwnT.last {w : World} {base : Nat} {v : Value} {ts : List (List Int)} (h : OwnT w base 31 5 v ts) (j : Nat) (hj : j < ts.length) : ∃ (x o : Nat) (cap : Nat) (a : Option Addr) (l c : Nat), v = .slice (some ⟨x, o, none⟩) ts.length cap ∧ w.cell? ⟨x, o + j, none⟩ = some (.slice a l c) ∧ TextAt w a l c (ts.getD j []) ∧ ∀ p : Addr, a = some p → base ≤ p.block ∧ p.block < w.heap.size := by
  obtain ⟨xs, hown, hx⟩ := h.row
  obtain ⟨a, l, c, h1, h2, h3⟩ := hx j hj
  obtain ⟨g, cap, cur, rfl, hg, k0, hc1, hc2, hc3, hc4⟩ := owns_form hown (by omega)
  exact ⟨g, 0, cap, a, l, c, rfl, by have := row_cell k0 hc4 h1; rwa [Nat.mul_one] at this, h2, fun p hp => ⟨(h3 p hp).1, by
    obtain ⟨cs, hcs⟩ := (h3 p hp).2
    rcases Nat.lt_or_ge p.block w.heap.size with hh | hh
    · exact hh
    · rw [Array.getElem?_eq_none hh] at hcs; simp at hcs⟩⟩
set_option maxHeartbeats 4000000 in
set_option maxRecDepth 100000 in
theorem parse_stB (w : World) (a : Option Addr) (len cap : Nat) (g k r ik ii : Int) (m : List Int) (hT : TextAt w a len cap (stB g k r ik ii m)) (hm : m.length ≤ 200)
    (hg : 0 ≤ g ∧ g ≤ 4611686018427387904) (hkk : 0 ≤ k ∧ k ≤ 4611686018427387904) (hr : 0 ≤ r ∧ r ≤ 4611686018427387904) (hik : 0 ≤ ik ∧ ik ≤ 4611686018427387904) (hii : 0 ≤ ii ∧ ii ≤ 4611686018427387904) :
    Calls Try.prog 52 #[.slice a len cap] w fun e w' => ∃ ma mc, e = .returned (.tuple #[.agg (stC g k r ik ii (.slice ma m.length mc)), .bool true]) ∧ Below w.heap.size w w' ∧ TextAt w' ma m.length mc m ∧ ∀ q : Addr, ma = some q → w.heap.size ≤ q.block ∧ q.block < w'.heap.size := by
  have hsp := split_stB g k r ik ii m hm
  have hlen := hT.length
  rw [stB_length] at hlen
  have HT := hid hT
  clear hT
  go_enter Try.func52, Try.ntmps52
  go_wp2_with fail
  refine (split_any (HT.out.below ?hbw) (by omega)).mono ?_
  case hbw => exact (Below.refl w.heap.size w).alloc (Nat.le_refl _) _
  rintro e w1 ⟨b1, ⟨h1, -⟩ | ⟨l, v, h1, rfl, ho⟩⟩
  · rw [hsp] at h1; cases h1
  rw [hsp] at h1
  cases h1
  obtain ⟨x, o, cp, ma, ml, mc, rfl, hc5, ht5, hb5⟩ := ho.last 5 (by simp)
  have ht5 : TextAt w1 ma ml mc m := ht5
  obtain rfl := ht5.length
  have hmI : ¬ (200 : Int) < (m.length : Int) := by omega
  have HT5 := hid ht5
  have HO := hid ho
  have HB1 := hid b1
  have Hb5 := hid hb5
  obtain ⟨a', cap', hv, hTx⟩ := ho.texts
  have hv : Value.slice (some ⟨x, o, none⟩) 6 cp = .slice a' 6 cap' := hv
  cases hv
  have hcp : 6 ≤ cp := hTx.le
  have HX := hid (hTx.take 5 (by simp))
  have hct : ∀ W : World, (Instr.slice 114 (.slice (some ⟨x, o, none⟩) 6 cp) none (some (.int .i64 5)) none).run Try.prog W = .ok (.slice (some ⟨x, o, none⟩) 5 cp) W := fun W => by
    have := run_cut_h (P := Try.prog) Try.underlying114 size_dtext (some ⟨x, o, none⟩) 6 cp (5 : Int) W (by omega) (by omega)
    exact this
  clear ho b1 hb5 hTx
  have K2 := hid ((Blk.new (w := w) (n := w.heap.size) rfl (stC 0 0 0 0 0 (.slice none 0 0)) 100).below HB1.out)
  go_wp2_with fail
  have s1 := HB1.out.size
  have s2 : w.heap.size < w1.heap.size := K2.out.lt
  have ba := (Below.refl w1.heap.size w1).alloc (Nat.le_refl _) (.cells (stC 0 0 0 0 0 (.slice none 0 0)) 100 (0, 0))
  have bb := ba.alloc ba.size (.cells (ptrC w1.heap.size) 118 (0, 0))
  have HBB := hid bb
  have KS := hid ((Blk.new (w := w1) (n := w1.heap.size) rfl (stC 0 0 0 0 0 (.slice none 0 0)) 100).old (.cells (ptrC w1.heap.size) 118 (0, 0)))
  have KP := hid (Blk.new (w := w1.alloc (.cells (stC 0 0 0 0 0 (.slice none 0 0)) 100 (0, 0))) (n := w1.heap.size + 1) (by simp only [World.size_alloc]) (ptrC w1.heap.size) 118)
  have K2b := hid (K2.out.belowB s2 bb)
  clear ba bb
  refine (read_five w1 _ w1.heap.size (w1.heap.size + 1) _ cp g k r ik ii HBB.out HX.out (Nat.le_refl _) KS.out KP.out (by omega) hg hkk hr hik hii).mono ?_
  rintro e w2 ⟨rfl, b2, k2⟩
  have HB2 := hid (show Below w1.heap.size w1 w2 from below_inS HBB.out (ButIn.of_but (S := [w1.heap.size]) b2 (by simp)) (Nat.le_refl _) (by simp))
  have KS2 := hid k2
  have K22 := hid (b2.blk K2b.out (by omega))
  have hc52 : w2.cell? ⟨x, o + 5, none⟩ = some (.slice ma m.length mc) := by
    obtain ⟨x', o', a', l', c', hq, hxl, -⟩ := HX.out.at_ 0 (by omega)
    cases hq
    exact (HB2.out.cell (p := ⟨x, o + 5, none⟩) hxl).trans hc5
  have HT2 := hid (HT5.out.below HB2.out)
  clear b2 k2
  go_wp2_with (first
    | (refine wpList_load_blk rfl 100 _ rfl w1.heap.size rfl _ 100 K3.out _ Try.underlying100 rfl 6 size_state rfl ?_)
    | (refine wpList_store_cell rfl 31 _ _ rfl w1.heap.size 5 (.slice ma m.length mc) rfl rfl (by simp [Value.oneCell']) rfl _ 100 KS2.out (by simp [rdC, stC]) size_dtext ?_
       intro w3 hb3 hk3
       have HB3 := hid hb3
       have K3 := hid (show Blk w3 w1.heap.size (stC g k r ik ii (.slice ma m.length mc)) 100 from by simpa [rdC, stC] using hk3)
       have K23 := hid (hb3.blk K22.out (by omega))
       clear hb3 hk3)
    | (refine wpList_store_blk rfl 100 _ _ rfl w.heap.size (stC g k r ik ii (.slice ma m.length mc)) rfl rfl _ 100 K23.out 6 size_state rfl rfl (stC_ones _ _ _ _ _ _ _ _) ?_
       intro w4 hb4 hk4
       have HB4 := hid hb4
       have K4 := hid hk4
       clear hb4 hk4))
  have r0 : w4.cell? ⟨w.heap.size, 0, none⟩ = some (.int .i64 g) := by rw [K4.out.cell]; rfl
  have r1 : w4.cell? ⟨w.heap.size, 1, none⟩ = some (.int .i64 k) := by rw [K4.out.cell]; rfl
  have r2 : w4.cell? ⟨w.heap.size, 2, none⟩ = some (.int .i64 r) := by rw [K4.out.cell]; rfl
  have r3 : w4.cell? ⟨w.heap.size, 3, none⟩ = some (.int .i64 ik) := by rw [K4.out.cell]; rfl
  have r4 : w4.cell? ⟨w.heap.size, 4, none⟩ = some (.int .i64 ii) := by rw [K4.out.cell]; rfl
  have r5 : w4.cell? ⟨w.heap.size, 5, none⟩ = some (.slice ma m.length mc) := by rw [K4.out.cell]; rfl
  have HB34 := hid (show Below w1.heap.size w1 w3 from below_inS HB2.out (ButIn.of_but (S := [w1.heap.size]) HB3.out (by simp)) (Nat.le_refl _) (by simp))
  have hfirst := Below.on ((Below.refl w.heap.size w).alloc (Nat.le_refl _) (.cells (stC 0 0 0 0 0 (.slice none 0 0)) 100 (0, 0))) HB1.out
  have HF := hid (below_inS (Below.on hfirst HB34.out) (ButIn.of_but (S := [w.heap.size]) HB4.out (by simp)) (Nat.le_refl _) (by simp))
  have HM := hid (show ∀ q : Addr, ma = some q → w.heap.size < q.block from fun q hq => by
    have := (Hb5.out q hq).1
    rw [World.size_alloc] at this
    omega)
  have HTF := hid ((HT5.out.below HB34.out).butIn (S := [w.heap.size]) (fun q hq hm => by
    have := HM.out q hq
    simp only [List.mem_singleton] at hm
    omega) (ButIn.of_but (S := [w.heap.size]) HB4.out (by simp)))
  exact bodyPost_ret (v := .tuple #[.agg (stC g k r ik ii (.slice ma m.length mc)), .bool true]) (results_blk_tmp Try.results52 _ (w.heap.size) rfl _ rfl _ 100 K4.out _ Try.underlying100 rfl 6 size_state rfl) rfl ⟨ma, mc, rfl, HF.out, HTF.out, fun q hq => ⟨Nat.le_of_lt (HM.out q hq), by
    have h1 := (Hb5.out q hq).2
    have h2 := HB34.out.size
    have h3 := HB4.out.size
    omega⟩⟩
end Go.Proofs.Ytmpgnpkodapidaa

namespace Go.Proofs.Ytmpgnpkodapidaa
open Go.ChangeShapes Go.WideShapes Go.ChangeAt Go.RowKit

theorem size_boolS : (Try.prog.info? 4).map (·.size) = some 1 := by kernel_rfl
theorem replace_allS (w : World) (S : List Nat) (q p bb z n : Nat) (B : List Int) (set : Bool) (af : Int) (kv : Value) (a0 T : Nat) (tv : Value) (ba : Option Addr) (bn bc : Nat) (b : List Int) (hd : DkAt w p bb z n B (.slice none 0 0) true set af kv) (hF : FailAt w S set af kv) (hS : ∀ b ∈ [p, bb, q], b ∈ S) (hk : Blk w q (slC p a0 T tv false) 88) (hT : TextW w [p, bb, q] ba bn bc b) (hbn : bn + 18 ≤ z) (ha : a0 + 2 ≤ n) (hu : T < 9223372036854775806) (hqp : q ≠ p ∧ q ≠ bb) :
    Calls Try.prog 24 #[.pointer (some ⟨q, 0, none⟩), .slice ba bn bc] w fun e w' => FlowB.ButIn [p, bb, q] w w' ∧
      ((e = .returned (.int .i64 0) ∧ (∃ set' af' kv', DkAt w' p bb z n (putS z (a0 + (T + 1) % 2) (slotB z (T + 1) b) z B) (.slice none 0 0) true set' af' kv' ∧ FailAt w' S set' af' kv') ∧ ∃ a c, Blk w' q (slC p a0 ((T : Int) + 1) (.slice a bn c) false) 88 ∧ TextAt w' a bn c b ∧ ∀ x : Addr, a = some x → w.heap.size ≤ x.block) ∨
       (e = .returned (.int .i64 9) ∧ ∃ B' set' af' kv', (B' = B ∨ ∃ c, c ≤ z ∧ B' = putS z (a0 + (T + 1) % 2) (slotB z (T + 1) b) c B) ∧ DkAt w' p bb z n B' (.slice none 0 0) false set' af' kv' ∧ Blk w' q (slC p a0 T tv true) 88)) := by
  obtain rfl | ⟨rfl, h2, ka, kc, ks, rfl, h4, h5⟩ := hF
  · refine (replace_okW w q p bb z n B af kv a0 T tv ba bn bc b hd hk hT hbn ha hu hqp).mono ?_
    rintro e w' ⟨h1, h2, h3, h4⟩
    exact ⟨h2, .inl ⟨h1, ⟨_, _, _, h3, .inl rfl⟩, h4⟩⟩
  have hC : ∃ B', B' = crashN z ks [(a0 + (T + 1) % 2, slotB z (T + 1) b)] B 1 ∧ (B' = B ∨ ∃ c, c ≤ z ∧ B' = putS z (a0 + (T + 1) % 2) (slotB z (T + 1) b) c B) := by
    refine ⟨_, rfl, ?_⟩
    simp only [crashN]
    split
    · exact .inr ⟨_, clampZ_le z _, rfl⟩
    · exact .inl rfl
  obtain ⟨B', hB', hB2⟩ := hC
  have h6 := h4.sub (S' := [p, bb]) (fun b hb => hS b (by simp only [List.mem_cons, List.not_mem_nil, or_false] at hb ⊢; omega))
  by_cases h0 : af ≤ 0
  · refine (replace_hit0W w q p bb z n B af ka kc ks a0 T tv ba bn bc b hd hk hT hbn ha hu hqp h6 h5 h0).mono ?_
    rintro e w' ⟨h1, h2, h3, h4⟩
    rw [← hB'] at h3
    exact ⟨h2, .inr ⟨h1, B', _, _, _, hB2, h3, h4⟩⟩
  by_cases h1 : af = 1
  · refine (replace_hit1W w q p bb z n B af ka kc ks a0 T tv ba bn bc b hd hk hT hbn ha hu hqp h6 h5 h1).mono ?_
    rintro e w' ⟨h1, h2, h3, h4⟩
    rw [← hB'] at h3
    exact ⟨h2, .inr ⟨h1, B', _, _, _, hB2, h3, h4⟩⟩
  refine (replace_countW w q p bb z n B af ka kc ks a0 T tv ba bn bc b hd hk hT hbn ha hu hqp h6 (by omega) h2).mono ?_
  rintro e w' ⟨k1, k2, k3, k4⟩
  exact ⟨k2, .inl ⟨k1, ⟨_, _, _, k3, .inr ⟨rfl, by omega, ka, kc, ks, rfl, h4.butIn (ButIn.wide k2 hS), h5⟩⟩, k4⟩⟩
set_option maxHeartbeats 4000000 in
set_option maxRecDepth 100000 in
theorem sreplace_all (w : World) (S : List Nat) (s q f p bb z n : Nat) (B : List Int) (set : Bool) (af : Int) (kv tv mv0 : Value) (a0 T : Nat) (g k r ik ii g0 k0 r0 ik0 ii0 nx tt bt : Int) (ma : Option Addr) (mn mc : Nat) (m : List Int)
    (hk : Blk w s (sgC g0 k0 r0 ik0 ii0 mv0 nx tt bt q f false) 104) (kq : Blk w q (slC p a0 T tv false) 88) (hd : DkAt w p bb z n B (.slice none 0 0) true set af kv) (hF : FailAt w S set af kv) (hS : ∀ b ∈ [p, bb, q, s], b ∈ S) (hT : TextO w [p, bb, q] ma mn mc m) (hmn : mn ≤ 200) (hz : 272 ≤ z) (ha : a0 + 2 ≤ n) (hu : T < 9223372036854775806) (hqp : q ≠ p ∧ q ≠ bb) (hs : s ≠ p ∧ s ≠ bb ∧ s ≠ q)
    (hg : 0 ≤ g ∧ g < 9223372036854775808) (hkk : 0 ≤ k ∧ k < 9223372036854775808) (hr : 0 ≤ r ∧ r < 9223372036854775808) (hik : 0 ≤ ik ∧ ik < 9223372036854775808) (hii : 0 ≤ ii ∧ ii < 9223372036854775808) :
    Calls Try.prog 57 #[.pointer (some ⟨s, 0, none⟩), .agg (stC g k r ik ii (.slice ma mn mc))] w fun e w' => FlowB.ButIn [p, bb, q, s] w w' ∧
      ((e = .returned (.int .i64 0) ∧ Blk w' s (sgC g k r ik ii (.slice ma mn mc) nx tt bt q f false) 104 ∧ (∃ set' af' kv', DkAt w' p bb z n (putS z (a0 + (T + 1) % 2) (slotB z (T + 1) (stB g k r ik ii m)) z B) (.slice none 0 0) true set' af' kv' ∧ FailAt w' S set' af' kv') ∧ ∃ a c, Blk w' q (slC p a0 ((T : Int) + 1) (.slice a (54 + mn) c) false) 88 ∧ TextAt w' a (54 + mn) c (stB g k r ik ii m) ∧ ∀ x : Addr, a = some x → w.heap.size ≤ x.block) ∨
       (e = .returned (.int .i64 9) ∧ ∃ B' set' af' kv', (B' = B ∨ ∃ c, c ≤ z ∧ B' = putS z (a0 + (T + 1) % 2) (slotB z (T + 1) (stB g k r ik ii m)) c B) ∧ DkAt w' p bb z n B' (.slice none 0 0) false set' af' kv')) := by
  have b1 := (Below.refl w.heap.size w).alloc (Nat.le_refl _) (.cells (stC g k r ik ii (.slice ma mn mc)) 100 (0, 0))
  have Kt := hid (Blk.new (w := w) (n := w.heap.size) rfl (stC g k r ik ii (.slice ma mn mc)) 100)
  have Hb := hid b1
  have hbz := b1.size
  have Hbs := hid (show w.heap.size + 1 = (w.alloc (.cells (stC g k r ik ii (.slice ma mn mc)) 100 (0, 0))).heap.size by simp only [World.size_alloc])
  clear b1 
  have Kg := hid (hk.old (.cells (stC g k r ik ii (.slice ma mn mc)) 100 (0, 0)))
  have Kq := hid (kq.old (.cells (stC g k r ik ii (.slice ma mn mc)) 100 (0, 0)))
  have HD := hid (hd.below Hb.out)
  have HT := hid (hT.butIn (ButIn.of_below Hb.out))
  have HF := hid (hF.butIn (ButIn.of_below Hb.out))
  have hgl := hk.lt
  have hql := kq.lt
  have hpl := hd.kp.lt
  have hbl := hd.kb.lt
  have hz2 := hd.z2
  have hml := hT.text.length
  clear kq hk hd hT hF
  go_enter Try.func57, Try.ntmps57
  go_wp2_with fail
  refine FlowB.wp_region_butIn [p, bb, q] (fun wz => DkAt wz p bb z n B (.slice none 0 0) true set af kv ∧ Blk wz q (slC p a0 T tv false) 88 ∧ FailAt wz S set af kv) 7 [0, 1, 2, 3, 4] [] [(.c 5, [], []), (.c 6, [], [])] (by kernel_rfl) (by kernel_rfl) ⟨HD.out, Kq.out, HF.out⟩ (fun _ _ h hb => ⟨h.1.below hb, h.2.1.below hb, h.2.2.butIn (ButIn.of_below hb)⟩) ?_
  apply Exists.intro
  refine ⟨fun w0 hb0 hF0 => ?_, ?_⟩
  · skip
    have y0 : ∀ w', (∃ x : Ext w0, w' = x.at_) → w'.cell? ⟨s, 9, none⟩ = some (.pointer (some ⟨q, 0, none⟩)) := fun w' ⟨x, hx⟩ => by rw [hx, ((hb0.blk Kg.out (by simp only [List.mem_cons, List.not_mem_nil, or_false]; omega)).below x.same).cell]; rfl
    have x0 : ∀ w', (∃ x : Ext w0, w' = x.at_) → ∃ T, Blk w' (w.heap.size) (stC g k r ik ii (.slice ma mn mc)) T := fun w' ⟨x, hx⟩ => ⟨_, hx ▸ (hb0.blk Kt.out (by simp only [List.mem_cons, List.not_mem_nil, or_false]; omega)).below x.same⟩
    simp only [pick, List.getElem?_toArray, List.getElem?_cons_succ, List.getElem?_cons_zero, Option.toList_some, List.cons_append, List.nil_append]
    repeat (first | (go_big_quiet_want; refine quiet_load_one 47 _ rfl ⟨s, 9, none⟩ rfl _ y0 _ Try.underlying47 rfl ?_; go_big_quiet_on; simp only [Act.put, List.setIfInBounds_toArray, List.set_cons_zero, List.set_cons_succ]) | (go_big_quiet_want; refine quiet_load_blk 100 _ rfl (w.heap.size) rfl _ x0 _ Try.underlying100 rfl 6 size_state rfl ?_; go_big_quiet_on; simp only [Act.put, List.setIfInBounds_toArray, List.set_cons_zero, List.set_cons_succ]) | go_big_quiet_step (fail))
    exact wpQuiet_nil rfl
  refine FlowB.AlChk.nil ?_
  refine FlowB.Walk.call rfl 69 #[.agg (stC g k r ik ii (.slice ma mn mc))] (fun v w' => ∃ a c, v = .slice a (54 + mn) c ∧ TextO w' [p, bb, q] a (54 + mn) c (stB g k r ik ii m)) (fun _ wz => DkAt wz p bb z n B (.slice none 0 0) true set af kv ∧ Blk wz q (slC p a0 T tv false) 88 ∧ FailAt wz S set af kv) (fun v w' w'' hb h k => by obtain ⟨a, c, h1, h2⟩ := h; exact ⟨a, c, h1, h2.butIn k⟩) (fun _ _ _ h k => ⟨h.1.below k, h.2.1.below k, h.2.2.butIn (ButIn.of_below k)⟩) rfl (fun w1 hb1 hF1 hG1 => ⟨by go_simp, ?_⟩) ?_
  · refine (sbytes_any g k r ik ii ma mn mc m w1 (HT.out.butIn hb1).text (by omega) hg hkk hr hik hii).mono ?_
    rintro e w2 ⟨a, c, rfl, b2, t2, o2⟩
    have hs1 := hb1.size
    have hs0 := Hb.out.size
    exact ⟨_, rfl, ButIn.of_below b2, ⟨a, c, rfl, t2, fun x hx => by have := o2 x hx; simp only [List.mem_cons, List.not_mem_nil, or_false]; omega⟩, hG1.1.below b2, hG1.2.1.below b2, hG1.2.2.butIn (ButIn.of_below b2)⟩
  rintro v1 w1 hb1 hF1 ⟨a5, c5, rfl, -⟩
  apply Exists.intro
  refine ⟨fun w4 hb4 hF4 => wpQuiet_nil rfl, ?_⟩
  refine FlowB.AlChk.nil ?_
  refine FlowB.Walk.call rfl 24 #[.pointer (some ⟨q, 0, none⟩), .slice a5 (54 + mn) c5] (fun _ _ => True) (fun v w' => (v = .int .i64 0 ∧ (∃ set' af' kv', DkAt w' p bb z n (putS z (a0 + (T + 1) % 2) (slotB z (T + 1) (stB g k r ik ii m)) z B) (.slice none 0 0) true set' af' kv' ∧ FailAt w' S set' af' kv') ∧ ∃ a c, Blk w' q (slC p a0 ((T : Int) + 1) (.slice a (54 + mn) c) false) 88 ∧ TextAt w' a (54 + mn) c (stB g k r ik ii m) ∧ ∀ x : Addr, a = some x → w.heap.size ≤ x.block) ∨ (v = .int .i64 9 ∧ ∃ B' set' af' kv', (B' = B ∨ ∃ c, c ≤ z ∧ B' = putS z (a0 + (T + 1) % 2) (slotB z (T + 1) (stB g k r ik ii m)) c B) ∧ DkAt w' p bb z n B' (.slice none 0 0) false set' af' kv')) (fun _ _ _ _ h _ => h) (fun _ _ _ h k => by
    obtain ⟨hv, ⟨s', f', k', h1, h2⟩, a, c, h3, h4, h5⟩ | ⟨hv, B', s', f', k', h1, h2⟩ := h
    · exact .inl ⟨hv, ⟨s', f', k', h1.below k, h2.butIn (ButIn.of_below k)⟩, a, c, h3.below k, h4.below k, h5⟩
    · exact .inr ⟨hv, B', s', f', k', h1, h2.below k⟩) rfl (fun w1 hb1 hF1 hG1 => ⟨by go_simp, ?_⟩) ?_
  · obtain ⟨a6, c6, hq6, ht6⟩ := hF1.2
    cases hq6
    have hs1 := hb1.size
    have hs0 := Hb.out.size
    refine (replace_allS w1 S q p bb z n B set af kv a0 T tv a5 (54 + mn) c5 (stB g k r ik ii m) hG1.1 hG1.2.2 (fun b hb => hS b (by simp only [List.mem_cons, List.not_mem_nil, or_false] at hb ⊢; omega)) hG1.2.1 ht6.weak (by omega) ha hu hqp).mono ?_
    rintro e w2 ⟨b2, ⟨rfl, d2, a, c, k2, t2, o2⟩ | ⟨rfl, B', s', f', k', h1, h2⟩⟩
    · exact ⟨_, rfl, b2, trivial, .inl ⟨rfl, d2, a, c, k2, t2, fun x hx => by have := o2 x hx; omega⟩⟩
    · exact ⟨_, rfl, b2, trivial, .inr ⟨rfl, B', s', f', k', h1, h2.1⟩⟩
  rintro v2 w2 hb2 hF2 -
  apply Exists.intro
  refine ⟨fun w4 hb4 hF4 => wpQuiet_nil rfl, ?_⟩
  refine FlowB.AlChk.nil ?_
  refine FlowB.Walk.fin fun w9 h9 hF9 hG9 => ?_
  simp only [List.drop_succ_cons, List.drop_zero]
  have HX9 := hid (ButIn.on (ButIn.of_below Hb.out) h9)
  have Kg9 := hid (h9.blk Kg.out (by simp only [List.mem_cons, List.not_mem_nil, or_false]; omega))
  have Kt9 := hid (h9.blk Kt.out (by simp only [List.mem_cons, List.not_mem_nil, or_false]; omega))
  clear h9 hF9
  obtain ⟨rfl, hg⟩ | ⟨rfl, hg⟩ := hG9
  · have HG9 := hid hg
    clear hg
    go_wp2_with (first
      | (refine wpList_load_blk rfl 100 _ rfl (w.heap.size) rfl _ 100 Kt9.out _ Try.underlying100 rfl 6 size_state rfl ?_)
      | (
        refine wpList_store_mid rfl 100 _ _ rfl s 0 (stC g k r ik ii (.slice ma mn mc)) rfl rfl _ 104 Kg9.out (by simp [stC, sgC]) (size_state' _ _ _ _ _ _ _ _) (stC_ones _ _ _ _ _ _ _ _) ?_
        intro w10 hb10 hk10
        have Kg10 := hid (show Blk w10 s (sgC g k r ik ii (.slice ma mn mc) nx tt bt q f false) 104 from hk10)
        have HB10 := hid hb10
        clear hb10 hk10))
    obtain ⟨⟨s9, f9, k9', d9, fa9⟩, a9, c9, k9, t9, o9⟩ := HG9.out
    have hs9 := Hb.out.size
    go_returns
    refine ⟨ButIn.on (ButIn.wide HX9.out (by simp)) (ButIn.of_but HB10.out (by simp)), .inl ⟨rfl, Kg10.out, ⟨s9, f9, k9', d9.but HB10.out (by omega) (by omega), fa9.butIn (ButIn.of_but HB10.out (hS s (by simp)))⟩, a9, c9, HB10.out.blk k9 (by omega), t9.butIn (S := [s]) (fun x hx => by have := o9 x hx; simp; omega) (ButIn.of_but HB10.out (by simp)), o9⟩⟩
  · have HG9 := hid hg
    clear hg
    go_wp2_with (first
      | (refine wpList_load_blk rfl 100 _ rfl (w.heap.size) rfl _ 100 Kt9.out _ Try.underlying100 rfl 6 size_state rfl ?_)
      | (
        refine wpList_store_cell rfl 4 _ _ rfl s 11 (.bool true) rfl rfl rfl rfl _ 104 Kg9.out (by simp [sgC]) size_boolS ?_
        intro w10 hb10 hk10
        have HB10 := hid hb10
        clear hb10 hk10))
    obtain ⟨B9, s9, f9, k9', h9, d9⟩ := HG9.out
    go_returns
    exact ⟨ButIn.on (ButIn.wide HX9.out (by simp)) (ButIn.of_but HB10.out (by simp)), .inr ⟨rfl, B9, s9, f9, k9', h9, d9.but HB10.out (by omega) (by omega)⟩⟩
end Go.Proofs.Ytmpgnpkodapidaa

namespace Go.Proofs.Ytmpgnpkodapidaa
open Go.ChangeShapes Go.WideShapes Go.ChangeAt Go.RowKit

/-- A signer that goes on: its cells, its slots, its fence, its disk, whatever failure is set. -/
structure SoAt (w : World) (s q f p bb T : Nat) (g k r ik ii : Int) (m : List Int) (nx tt bt : Int) (B : List Int) (X : List Nat) : Prop where
  sg : ∃ ma mc, Blk w s (sgC g k r ik ii (.slice ma m.length mc) nx tt bt q f false) 104 ∧ TextO w [p, bb, q, f, s] ma m.length mc m ∧ ∀ x : Addr, ma = some x → x.block < w.heap.size ∧ x.block ∉ X
  sl : ∃ tv, Blk w q (slC p 0 T tv false) 88
  fe : Blk w f #[.int .i64 g, .int .i64 k, .int .i64 r] 96
  dk : ∃ set af kv, DkAt w p bb 400 2 B (.slice none 0 0) true set af kv ∧ FailAt w (X ++ [p, bb, q, f, s]) set af kv
  xb : ∀ b ∈ X, b < w.heap.size
  nsp : s ≠ p
  nsb : s ≠ bb
  nsq : s ≠ q
  nsf : s ≠ f
  nfp : f ≠ p
  nfb : f ≠ bb
  nfq : f ≠ q
  nqp : q ≠ p
  nqb : q ≠ bb
  ml : m.length ≤ 200
  tb : T < 1000000
  bg : 0 ≤ g ∧ g < 1000000
  bk : 0 ≤ k ∧ k < 1000000
  br : 0 ≤ r ∧ r < 1000000
  bik : 0 ≤ ik ∧ ik < 1000000
  bii : 0 ≤ ii ∧ ii < 1000000
  bn : 0 ≤ nx ∧ nx < 1000000
  btt : 2 ≤ tt ∧ tt ≤ 65536
  bbt : 1 ≤ bt ∧ bt ≤ 16
/-- What a write that fails leaves. -/
def Torn (T : Nat) (n B B' : List Int) : Prop := B' = B ∨ ∃ c, c ≤ 400 ∧ B' = putS 400 ((T + 1) % 2) (slotB 400 (T + 1) n) c B
/-- A disk that is off, and the fence. -/
structure OffAt (w : World) (f p bb : Nat) (G K R : Int) (B : List Int) : Prop where
  fe : Blk w f #[.int .i64 G, .int .i64 K, .int .i64 R] 96
  dk : ∃ set af kv, DkAt w p bb 400 2 B (.slice none 0 0) false set af kv
theorem lk_up (k r R : Int) (h : r ≤ R) : lk k r k R = (k, R) := by
  unfold lk
  rw [if_neg (Int.lt_irrefl k), if_neg (Int.lt_irrefl k), Int.max_eq_right h]
theorem lk_key (k r : Int) : lk k r (k + 1) 0 = (k + 1, 0) := by
  unfold lk
  rw [if_neg (by omega), if_pos (by omega)]
theorem SoAt.below {w w' : World} {s q f p bb T : Nat} {g k r ik ii : Int} {m : List Int} {nx tt bt : Int} {B : List Int} {X : List Nat} (h : SoAt w s q f p bb T g k r ik ii m nx tt bt B X) (hb : Below w.heap.size w w') : SoAt w' s q f p bb T g k r ik ii m nx tt bt B X := by
  obtain ⟨ma, mc, h1, h2, h7⟩ := h.sg
  have hz := hb.size
  obtain ⟨tv, h3⟩ := h.sl
  obtain ⟨set, af, kv, h5, h6⟩ := h.dk
  exact { h with sg := ⟨ma, mc, h1.below hb, h2.butIn (ButIn.of_below hb), fun x hx => ⟨by have := (h7 x hx).1; omega, (h7 x hx).2⟩⟩, xb := fun b hb => by have := h.xb b hb; omega, sl := ⟨tv, h3.below hb⟩, fe := h.fe.below hb, dk := ⟨set, af, kv, h5.below hb, h6.butIn (ButIn.of_below hb)⟩ }
theorem SoAt.lts {w : World} {s q f p bb T : Nat} {g k r ik ii : Int} {m : List Int} {nx tt bt : Int} {B : List Int} {X : List Nat} (h : SoAt w s q f p bb T g k r ik ii m nx tt bt B X) : s < w.heap.size ∧ q < w.heap.size ∧ f < w.heap.size ∧ p < w.heap.size ∧ bb < w.heap.size := by
  obtain ⟨ma, mc, h1, h2⟩ := h.sg
  obtain ⟨tv, h3⟩ := h.sl
  obtain ⟨set, af, kv, h5, h6⟩ := h.dk
  exact ⟨h1.lt, h3.lt, h.fe.lt, h5.kp.lt, h5.kb.lt⟩
set_option maxHeartbeats 4000000 in
set_option maxRecDepth 100000 in
theorem refuse_zero (w : World) (sv : Value) (ma : Option Addr) (mc : Nat) :
    Calls Try.prog 54 #[sv, .slice ma 0 mc] w fun e w' => e = .returned (.int .i64 1) ∧ Below w.heap.size w w' := by
  have Hb := hid (Below.refl w.heap.size w)
  go_enter Try.func54, Try.ntmps54
  go_wp2_with fail
  go_returns
  exact ⟨rfl, Hb.out⟩
set_option maxHeartbeats 4000000 in
set_option maxRecDepth 100000 in
theorem refuse_long (w : World) (sv : Value) (ma : Option Addr) (mn mc : Nat) (h : 200 < mn) (hm : mn ≤ 9223372036854775807) :
    Calls Try.prog 54 #[sv, .slice ma mn mc] w fun e w' => e = .returned (.int .i64 1) ∧ Below w.heap.size w w' := by
  have Hb := hid (Below.refl w.heap.size w)
  have h0 : ¬ (mn : Int) = 0 := by omega
  have h1 : (200 : Int) < (mn : Int) := by omega
  go_enter Try.func54, Try.ntmps54
  go_wp2_with fail
  go_returns
  exact ⟨rfl, Hb.out⟩
set_option maxHeartbeats 4000000 in
set_option maxRecDepth 100000 in
theorem deal_arg (w : World) (sv : Value) (ma : Option Addr) (mn mc : Nat) (h : mn = 0 ∨ 200 < mn) (hm : mn ≤ 9223372036854775807) :
    Calls Try.prog 30 #[sv, .slice ma mn mc] w fun e w' => e = .returned (.tuple #[.int .i64 0, .int .i64 0, .int .i64 1]) ∧ Below w.heap.size w w' := by
  have Hb := hid (Below.refl w.heap.size w)
  go_enter Try.func30, Try.ntmps30
  go_wp2_with fail
  have hr : Calls Try.prog 54 #[sv, .slice ma mn mc] w fun e w' => e = .returned (.int .i64 1) ∧ Below w.heap.size w w' := by
    obtain rfl | h := h
    · exact refuse_zero w sv ma mc
    · exact refuse_long w sv ma mn mc h hm
  refine hr.mono ?_
  rintro e w1 ⟨rfl, b1⟩
  have HB1 := hid b1
  clear b1
  go_wp2_with fail
  go_returns
  exact ⟨rfl, HB1.out⟩
set_option maxHeartbeats 4000000 in
set_option maxRecDepth 100000 in
theorem roll_arg (w : World) (sv : Value) (ma : Option Addr) (mn mc : Nat) (h : mn = 0 ∨ 200 < mn) (hm : mn ≤ 9223372036854775807) :
    Calls Try.prog 31 #[sv, .slice ma mn mc] w fun e w' => e = .returned (.tuple #[.int .i64 0, .int .i64 0, .int .i64 1]) ∧ Below w.heap.size w w' := by
  have Hb := hid (Below.refl w.heap.size w)
  go_enter Try.func31, Try.ntmps31
  go_wp2_with fail
  have hr : Calls Try.prog 54 #[sv, .slice ma mn mc] w fun e w' => e = .returned (.int .i64 1) ∧ Below w.heap.size w w' := by
    obtain rfl | h := h
    · exact refuse_zero w sv ma mc
    · exact refuse_long w sv ma mn mc h hm
  refine hr.mono ?_
  rintro e w1 ⟨rfl, b1⟩
  have HB1 := hid b1
  clear b1
  go_wp2_with fail
  go_returns
  exact ⟨rfl, HB1.out⟩
set_option maxHeartbeats 4000000 in
set_option maxRecDepth 100000 in
theorem deals_again (w : World) (s q f p bb T : Nat) (g k r ik ii : Int) (m : List Int) (nx tt bt : Int) (B : List Int) (X : List Nat) (ma : Option Addr) (mn mc : Nat) (mm : List Int) (h : SoAt w s q f p bb T g k r ik ii m nx tt bt B X) (hT : TextO w [p, bb, q, f, s] ma mn mc mm) (h1 : 1 ≤ mn) (h2 : mn ≤ 200) (hq : m = mm) :
    Calls Try.prog 30 #[.pointer (some ⟨s, 0, none⟩), .slice ma mn mc] w fun e w' => e = .returned (.tuple #[.int .i64 ik, .int .i64 ii, .int .i64 0]) ∧ Below w.heap.size w w' := by
  have H := hid h
  have HT := hid hT
  obtain ⟨oa, oc, hsg, ho, -⟩ := h.sg
  have Ks := hid hsg
  have HO := hid ho
  have hbt := h.btt
  have hbb := h.bbt
  have hbn := h.bn
  have hbr := h.br
  have hbk := h.bk
  have hbg := h.bg
  have hml := hT.text.length
  have hsl := hsg.lt
  have hrk := h.bik
  have hri := h.bii
  obtain ⟨tv, kq⟩ := h.sl
  have kf := h.fe
  obtain ⟨set, af, kv, hd, hfa⟩ := h.dk
  have HFa := hid hfa
  have Kq := hid kq
  have Kf := hid kf
  have HD := hid hd
  have hql := kq.lt
  have hfl := kf.lt
  have hpl := hd.kp.lt
  have hbl := hd.kb.lt
  have nsp := h.nsp
  have nsb := h.nsb
  have nsq := h.nsq
  have nsf := h.nsf
  have nfp := h.nfp
  have nfb := h.nfb
  have nfq := h.nfq
  have nqp := h.nqp
  have nqb := h.nqb
  have htb := h.tb
  clear kq kf hd hfa
  have Hb := hid (Below.refl w.heap.size w)
  clear h hT hsg ho
  go_enter Try.func30, Try.ntmps30
  go_wp2_with fail
  refine (refuse_ok w s g k r ik ii (.slice oa m.length oc) nx tt bt q f ma mn mc Ks.out h1 h2).mono ?_
  rintro e w1 ⟨rfl, b1⟩
  have Ks1 := hid (Ks.out.below b1)
  have HB1 := hid b1
  have HO1 := hid (HO.out.butIn (ButIn.of_below b1))
  have HT1 := hid (HT.out.butIn (ButIn.of_below b1))
  have hs1 := b1.size
  clear b1
  go_wp2_with fail
  refine (again_any w1 s g k r ik ii nx tt bt q f false oa ma m.length oc mn mc m mm Ks1.out HO1.out.text HT1.out.text).mono ?_
  rintro e w2 ⟨rfl, b2⟩
  rw [decide_eq_true hq]
  have Ks2 := hid (Ks1.out.below b2)
  have HB2 := hid (Below.on HB1.out b2)
  have HT2 := hid (HT1.out.butIn (ButIn.of_below b2))
  have hs2 := HB2.out.size
  clear b2
  go_wp2_with fail
  refine wp_region_flow 13 (List.range 13) [] [] (by kernel_rfl) (by kernel_rfl) ?_
  apply Exists.intro
  refine ⟨fun w0 hb0 hF0 => ?_, ?_⟩
  · skip
    have y3 : ∀ w', (∃ x : Ext w0, w' = x.at_) → w'.cell? ⟨s, 3, none⟩ = some (.int .i64 ik) := fun w' ⟨x, hx⟩ => by rw [hx, ((Ks2.out.below hb0).below x.same).cell]; rfl
    have y4 : ∀ w', (∃ x : Ext w0, w' = x.at_) → w'.cell? ⟨s, 4, none⟩ = some (.int .i64 ii) := fun w' ⟨x, hx⟩ => by rw [hx, ((Ks2.out.below hb0).below x.same).cell]; rfl
    simp only [pick, List.range, List.range.loop, List.getElem?_toArray, List.getElem?_cons_succ, List.getElem?_cons_zero, Option.toList_some, List.cons_append, List.nil_append]
    repeat (first | (go_big_quiet_want; refine quiet_load_one 3 _ rfl ⟨s, 3, none⟩ rfl _ y3 _ Try.underlying3 rfl ?_; go_big_quiet_on; simp only [Act.put, List.setIfInBounds_toArray, List.set_cons_zero, List.set_cons_succ]) | (go_big_quiet_want; refine quiet_load_one 3 _ rfl ⟨s, 4, none⟩ rfl _ y4 _ Try.underlying3 rfl ?_; go_big_quiet_on; simp only [Act.put, List.setIfInBounds_toArray, List.set_cons_zero, List.set_cons_succ]) | go_big_quiet_step (fail))
    exact wpQuiet_nil rfl
  refine AlChk.nil ?_
  refine Walk.fin fun wz hz _ _ => ?_
  simp only [List.drop_succ_cons, List.drop_zero]
  have HZ := hid hz
  clear hz
  go_wp2_with fail
  go_returns
  exact ⟨rfl, Below.on HB2.out HZ.out⟩
set_option maxHeartbeats 4000000 in
set_option maxRecDepth 100000 in
theorem deals_spent (w : World) (s q f p bb T : Nat) (g k r ik ii : Int) (m : List Int) (nx tt bt : Int) (B : List Int) (X : List Nat) (ma : Option Addr) (mn mc : Nat) (mm : List Int) (h : SoAt w s q f p bb T g k r ik ii m nx tt bt B X) (hT : TextO w [p, bb, q, f, s] ma mn mc mm) (h1 : 1 ≤ mn) (h2 : mn ≤ 200) (hq : ¬ m = mm) (hsp : tt - 1 ≤ nx) :
    Calls Try.prog 30 #[.pointer (some ⟨s, 0, none⟩), .slice ma mn mc] w fun e w' => e = .returned (.tuple #[.int .i64 0, .int .i64 0, .int .i64 6]) ∧ Below w.heap.size w w' := by
  have H := hid h
  have HT := hid hT
  obtain ⟨oa, oc, hsg, ho, -⟩ := h.sg
  have Ks := hid hsg
  have HO := hid ho
  have hbt := h.btt
  have hbb := h.bbt
  have hbn := h.bn
  have hbr := h.br
  have hbk := h.bk
  have hbg := h.bg
  have hml := hT.text.length
  have hsl := hsg.lt
  have hrk := h.bik
  have hri := h.bii
  obtain ⟨tv, kq⟩ := h.sl
  have kf := h.fe
  obtain ⟨set, af, kv, hd, hfa⟩ := h.dk
  have HFa := hid hfa
  have Kq := hid kq
  have Kf := hid kf
  have HD := hid hd
  have hql := kq.lt
  have hfl := kf.lt
  have hpl := hd.kp.lt
  have hbl := hd.kb.lt
  have nsp := h.nsp
  have nsb := h.nsb
  have nsq := h.nsq
  have nsf := h.nsf
  have nfp := h.nfp
  have nfb := h.nfb
  have nfq := h.nfq
  have nqp := h.nqp
  have nqb := h.nqb
  have htb := h.tb
  clear kq kf hd hfa
  have Hb := hid (Below.refl w.heap.size w)
  clear h hT hsg ho
  go_enter Try.func30, Try.ntmps30
  go_wp2_with fail
  refine (refuse_ok w s g k r ik ii (.slice oa m.length oc) nx tt bt q f ma mn mc Ks.out h1 h2).mono ?_
  rintro e w1 ⟨rfl, b1⟩
  have Ks1 := hid (Ks.out.below b1)
  have HB1 := hid b1
  have HO1 := hid (HO.out.butIn (ButIn.of_below b1))
  have HT1 := hid (HT.out.butIn (ButIn.of_below b1))
  have hs1 := b1.size
  clear b1
  go_wp2_with fail
  refine (again_any w1 s g k r ik ii nx tt bt q f false oa ma m.length oc mn mc m mm Ks1.out HO1.out.text HT1.out.text).mono ?_
  rintro e w2 ⟨rfl, b2⟩
  rw [decide_eq_false hq]
  have Ks2 := hid (Ks1.out.below b2)
  have HB2 := hid (Below.on HB1.out b2)
  have HT2 := hid (HT1.out.butIn (ButIn.of_below b2))
  have hs2 := HB2.out.size
  clear b2
  have c7 : w2.cell? ⟨s, 7, none⟩ = some (.int .i64 tt) := by rw [Ks2.out.cell]; rfl
  have c6 : w2.cell? ⟨s, 6, none⟩ = some (.int .i64 nx) := by rw [Ks2.out.cell]; rfl
  have qs : tt - 1 ≤ nx := hsp
  go_wp2_with fail
  go_returns
  exact ⟨rfl, HB2.out⟩
set_option maxHeartbeats 4000000 in
set_option maxRecDepth 100000 in
theorem deals_lo (w : World) (s q f p bb T : Nat) (g k r ik ii : Int) (m : List Int) (nx tt bt : Int) (B : List Int) (X : List Nat) (ma : Option Addr) (mn mc : Nat) (mm : List Int) (h : SoAt w s q f p bb T g k r ik ii m nx tt bt B X) (hT : TextO w [p, bb, q, f, s] ma mn mc mm) (h1 : 1 ≤ mn) (h2 : mn ≤ 200) (hq : ¬ m = mm) (hsp : nx < tt - 1) (hT1 : T + 1 < 1000000) (hrn : r ≤ nx) (hm : r + bt ≤ tt - 1) :
    Calls Try.prog 30 #[.pointer (some ⟨s, 0, none⟩), .slice ma mn mc] w fun e w' => FlowB.ButIn [p, bb, q, f, s] w w' ∧ ((e = .returned (.tuple #[.int .i64 k, .int .i64 nx, .int .i64 0]) ∧ SoAt w' s q f p bb (T + 1) g k (r + bt) k nx mm (nx + 1) tt bt (putS 400 ((T + 1) % 2) (slotB 400 (T + 1) (stB g k (r + bt) k nx mm)) 400 B) X) ∨ (e = .returned (.tuple #[.int .i64 0, .int .i64 0, .int .i64 9]) ∧ ∃ B', Torn T (stB g k (r + bt) k nx mm) B B' ∧ OffAt w' f p bb g k (r + bt) B')) := by
  have H := hid h
  have HT := hid hT
  obtain ⟨oa, oc, hsg, ho, -⟩ := h.sg
  have Ks := hid hsg
  have HO := hid ho
  have hbt := h.btt
  have hbb := h.bbt
  have hbn := h.bn
  have hbr := h.br
  have hbk := h.bk
  have hbg := h.bg
  have hml := hT.text.length
  have hsl := hsg.lt
  have hrk := h.bik
  have hri := h.bii
  obtain ⟨tv, kq⟩ := h.sl
  have kf := h.fe
  obtain ⟨set, af, kv, hd, hfa⟩ := h.dk
  have HFa := hid hfa
  have Kq := hid kq
  have Kf := hid kf
  have HD := hid hd
  have hql := kq.lt
  have hfl := kf.lt
  have hpl := hd.kp.lt
  have hbl := hd.kb.lt
  have nsp := h.nsp
  have nsb := h.nsb
  have nsq := h.nsq
  have nsf := h.nsf
  have nfp := h.nfp
  have nfb := h.nfb
  have nfq := h.nfq
  have nqp := h.nqp
  have nqb := h.nqb
  have htb := h.tb
  clear kq kf hd hfa
  have Hb := hid (Below.refl w.heap.size w)
  clear h hT hsg ho
  go_enter Try.func30, Try.ntmps30
  go_wp2_with fail
  refine (refuse_ok w s g k r ik ii (.slice oa m.length oc) nx tt bt q f ma mn mc Ks.out h1 h2).mono ?_
  rintro e w1 ⟨rfl, b1⟩
  have Ks1 := hid (Ks.out.below b1)
  have HB1 := hid b1
  have HO1 := hid (HO.out.butIn (ButIn.of_below b1))
  have HT1 := hid (HT.out.butIn (ButIn.of_below b1))
  have hs1 := b1.size
  clear b1
  go_wp2_with fail
  refine (again_any w1 s g k r ik ii nx tt bt q f false oa ma m.length oc mn mc m mm Ks1.out HO1.out.text HT1.out.text).mono ?_
  rintro e w2 ⟨rfl, b2⟩
  rw [decide_eq_false hq]
  have Ks2 := hid (Ks1.out.below b2)
  have HB2 := hid (Below.on HB1.out b2)
  have HT2 := hid (HT1.out.butIn (ButIn.of_below b2))
  have hs2 := HB2.out.size
  clear b2
  have c7 : w2.cell? ⟨s, 7, none⟩ = some (.int .i64 tt) := by rw [Ks2.out.cell]; rfl
  have c6 : w2.cell? ⟨s, 6, none⟩ = some (.int .i64 nx) := by rw [Ks2.out.cell]; rfl
  have qs : ¬ tt - 1 ≤ nx := by omega
  go_wp2_with (first
     | (refine wpList_load_mid rfl 100 _ rfl s 0 rfl _ _ (show w2.rangeAt s 0 (stC g k r ik ii (.slice oa m.length oc)).toList from fun j u hu => by
        rw [Nat.zero_add, Ks2.out.cell]
        match j, hu with
        | 0, hu => exact hu
        | 1, hu => exact hu
        | 2, hu => exact hu
        | 3, hu => exact hu
        | 4, hu => exact hu
        | 5, hu => exact hu
        | n + 6, hu => simp [stC] at hu) Try.underlying100 rfl size_state ?_)
     | (
        refine wpList_store_blk rfl 100 _ _ rfl (w2.heap.size) (stC g k r ik ii (.slice oa m.length oc)) rfl rfl _ 100 (Blk.new rfl (stC 0 0 0 0 0 (.slice none 0 0)) _) 6 size_state rfl rfl (stC_ones _ _ _ _ _ _ _ _) ?_
        intro w3 hb3 hk3
        have h3 := hb3.below ((Below.refl w2.heap.size w2).alloc (Nat.le_refl _) _) (by simp only [World.size_alloc]; omega) (Nat.le_refl _)
        have HB3 := hid (Below.on HB2.out h3)
        have Ks3 := hid (Ks2.out.below h3)
        have HT3 := hid (HT2.out.butIn (ButIn.of_below h3))
        have Kt3 := hid hk3
        have hs3 := h3.size
        have ht3 := hk3.lt
        clear hb3 hk3 h3))
  simp only [Act.put]
  clear c7 c6
  refine wp_region_flow 10 (List.range 10) [] [] (by kernel_rfl) (by kernel_rfl) ?_
  apply Exists.intro
  refine ⟨fun w0 hb0 hF0 => ?_, ?_⟩
  · skip
    have y6 : ∀ w', (∃ x : Ext w0, w' = x.at_) → w'.cell? ⟨s, 6, none⟩ = some (.int .i64 nx) := fun w' ⟨x, hx⟩ => by rw [hx, ((Ks3.out.below hb0).below x.same).cell]; rfl
    have y2 : ∀ w', (∃ x : Ext w0, w' = x.at_) → w'.cell? ⟨s, 2, none⟩ = some (.int .i64 r) := fun w' ⟨x, hx⟩ => by rw [hx, ((Ks3.out.below hb0).below x.same).cell]; rfl
    simp only [pick, List.range, List.range.loop, List.getElem?_toArray, List.getElem?_cons_succ, List.getElem?_cons_zero, Option.toList_some, List.cons_append, List.nil_append]
    repeat (first | (go_big_quiet_want; refine quiet_load_one 3 _ rfl ⟨s, 6, none⟩ rfl _ y6 _ Try.underlying3 rfl ?_; go_big_quiet_on; simp only [Act.put, List.setIfInBounds_toArray, List.set_cons_zero, List.set_cons_succ]) | (go_big_quiet_want; refine quiet_load_one 3 _ rfl ⟨s, 2, none⟩ rfl _ y2 _ Try.underlying3 rfl ?_; go_big_quiet_on; simp only [Act.put, List.setIfInBounds_toArray, List.set_cons_zero, List.set_cons_succ]) | go_big_quiet_step (fail))
    exact wpQuiet_nil rfl
  refine AlChk.nil ?_
  refine Walk.fin fun wa hwa _ _ => ?_
  simp only [List.drop_succ_cons, List.drop_zero]
  have Kswa := hid (Ks3.out.below hwa)
  have Ktwa := hid (Kt3.out.below hwa)
  have HBwa := hid (Below.on HB3.out hwa)
  have HTwa := hid (HT3.out.butIn (ButIn.of_below hwa))
  have hswa := hwa.size
  clear hwa
  have qr : r ≤ nx := by omega
  go_wp2_with fail
  have qm : ¬ tt - 1 < r + bt := by omega
  refine wp_region_flow 12 (List.range 12) [] [] (by kernel_rfl) (by kernel_rfl) ?_
  apply Exists.intro
  refine ⟨fun w0 hb0 hF0 => ?_, ?_⟩
  · skip
    have y2 : ∀ w', (∃ x : Ext w0, w' = x.at_) → w'.cell? ⟨s, 2, none⟩ = some (.int .i64 r) := fun w' ⟨x, hx⟩ => by rw [hx, ((Kswa.out.below hb0).below x.same).cell]; rfl
    have y8 : ∀ w', (∃ x : Ext w0, w' = x.at_) → w'.cell? ⟨s, 8, none⟩ = some (.int .i64 bt) := fun w' ⟨x, hx⟩ => by rw [hx, ((Kswa.out.below hb0).below x.same).cell]; rfl
    simp only [pick, List.range, List.range.loop, List.getElem?_toArray, List.getElem?_cons_succ, List.getElem?_cons_zero, Option.toList_some, List.cons_append, List.nil_append]
    repeat (first | (go_big_quiet_want; refine quiet_load_one 3 _ rfl ⟨s, 2, none⟩ rfl _ y2 _ Try.underlying3 rfl ?_; go_big_quiet_on; simp only [Act.put, List.setIfInBounds_toArray, List.set_cons_zero, List.set_cons_succ]) | (go_big_quiet_want; refine quiet_load_one 3 _ rfl ⟨s, 8, none⟩ rfl _ y8 _ Try.underlying3 rfl ?_; go_big_quiet_on; simp only [Act.put, List.setIfInBounds_toArray, List.set_cons_zero, List.set_cons_succ]) | go_big_quiet_step (fail))
    exact wpQuiet_nil rfl
  refine AlChk.nil ?_
  refine Walk.fin fun wb hwb _ _ => ?_
  simp only [List.drop_succ_cons, List.drop_zero]
  have Kswb := hid (Kswa.out.below hwb)
  have Ktwb := hid (Ktwa.out.below hwb)
  have HBwb := hid (Below.on HBwa.out hwb)
  have HTwb := hid (HTwa.out.butIn (ButIn.of_below hwb))
  have hswb := hwb.size
  clear hwb
  go_wp2_with (first
     | (
        refine wpList_store_cell rfl 3 _ _ rfl (w2.heap.size) 2 (.int .i64 (r + bt)) rfl rfl rfl rfl _ 100 Ktwb.out (by simp [stC]) size_dint ?_
        intro wc hbc hkc
        have Ktc := hid (show Blk wc (w2.heap.size) (stC g k (r + bt) ik ii (.slice oa m.length oc)) 100 from hkc)
        have HBc := hid (hbc.below HBwb.out (by have := HBwb.out.size; omega) (by omega))
        have Ksc := hid (hbc.blk Kswb.out (by omega))
        have HTc := hid (show TextO wc [p, bb, q, f, s] ma mn mc mm from ⟨HT.out.text.below HBc.out, HT.out.out⟩)
        have hsc := hbc.size
        clear hbc hkc)
     | (refine wpList_load_blk rfl 100 _ rfl (w2.heap.size) rfl _ 100 Ktc.out _ Try.underlying100 rfl 6 size_state rfl ?_))
  refine (sraise_any wc s f (sgC g k r ik ii (.slice oa m.length oc) nx tt bt q f false) (.slice oa m.length oc) g k (r + bt) ik ii g k r Ksc.out rfl (Kf.out.below HBc.out) nsf).mono ?_
  rintro e wd ⟨rfl, bd, kd⟩
  rw [lk_up k r (r + bt) (by omega), Int.max_self] at kd
  have Ksd := hid (bd.blk Ksc.out nsf)
  have Ktd := hid (bd.blk Ktc.out (by omega))
  have Kfd := hid kd
  have HXd := hid (But.trans (But.of HBc.out) bd)
  have HTd := hid (HTc.out.butIn (ButIn.of_but bd (by simp)))
  have hsd := bd.size
  clear bd kd Ksc Ktc HTc
  go_wp2_with fail
  refine wp_region_flow 12 [0, 1, 2, 3, 4, 5, 6, 7, 8, 9] [] [(.c 10, [11], [])] (by kernel_rfl) (by kernel_rfl) ?_
  apply Exists.intro
  refine ⟨fun w0 hb0 hF0 => ?_, ?_⟩
  · skip
    have y1 : ∀ w', (∃ x : Ext w0, w' = x.at_) → w'.cell? ⟨s, 1, none⟩ = some (.int .i64 k) := fun w' ⟨x, hx⟩ => by rw [hx, ((Ksd.out.below hb0).below x.same).cell]; rfl
    have y6 : ∀ w', (∃ x : Ext w0, w' = x.at_) → w'.cell? ⟨s, 6, none⟩ = some (.int .i64 nx) := fun w' ⟨x, hx⟩ => by rw [hx, ((Ksd.out.below hb0).below x.same).cell]; rfl
    simp only [pick, List.getElem?_toArray, List.getElem?_cons_succ, List.getElem?_cons_zero, Option.toList_some, List.cons_append, List.nil_append]
    repeat (first | (go_big_quiet_want; refine quiet_load_one 3 _ rfl ⟨s, 1, none⟩ rfl _ y1 _ Try.underlying3 rfl ?_; go_big_quiet_on; simp only [Act.put, List.setIfInBounds_toArray, List.set_cons_zero, List.set_cons_succ]) | (go_big_quiet_want; refine quiet_load_one 3 _ rfl ⟨s, 6, none⟩ rfl _ y6 _ Try.underlying3 rfl ?_; go_big_quiet_on; simp only [Act.put, List.setIfInBounds_toArray, List.set_cons_zero, List.set_cons_succ]) | go_big_quiet_step (fail))
    exact wpQuiet_nil rfl
  refine AlChk.nil ?_
  refine Walk.call rfl 42 #[.slice ma mn mc] (fun v w' => ∃ a c, v = .slice a mn c ∧ TextAt w' a mn c mm ∧ ∀ p : Addr, a = some p → wd.heap.size ≤ p.block) (fun v w' w'' h k => by obtain ⟨a, c, h1, h2, h3⟩ := h; exact ⟨a, c, h1, h2.below k, h3⟩) rfl (fun w1' hb1 hF1 => ⟨by go_simp, ?_⟩) ?_
  · refine (clone_any (HTd.out.text.below hb1) (by omega)).mono ?_
    rintro e w3' ⟨a', c', rfl, hb3, ht3, ho3⟩
    exact ⟨_, rfl, hb3, a', c', rfl, ht3, fun p hp => Nat.le_trans hb1.size (ho3 p hp).1⟩
  rintro v1 w1' hb1 hF1 ⟨a3, c3, rfl, -⟩
  apply Exists.intro
  refine ⟨fun w4 hb4 hF4 => ?_, ?_⟩
  · skip
    simp only [pick, List.getElem?_toArray, List.getElem?_cons_succ, List.getElem?_cons_zero, Option.toList_some, List.cons_append, List.nil_append, Act.put, List.setIfInBounds_toArray, List.set_cons_zero, List.set_cons_succ]
    repeat (first | go_big_quiet_step (fail))
    exact wpQuiet_nil rfl
  refine AlChk.nil ?_
  refine Walk.fin fun w5 h5 hF5 _ => ?_
  simp only [List.drop_succ_cons, List.drop_zero]
  have HX5 := hid (But.trans HXd.out (But.of h5))
  have Ks5 := hid (Ksd.out.below h5)
  have Kt5 := hid (Ktd.out.below h5)
  have Kf5 := hid (Kfd.out.below h5)
  have hs5 := h5.size
  obtain ⟨a4, c4, hq4, ht4, ho4⟩ := hF5.2
  cases hq4
  have HT5 := hid ht4
  have HO5 := hid ho4
  clear h5 hF5 ht4 ho4
  go_wp2_with (first
     | (
        refine wpList_store_mid rfl 98 _ _ rfl (w2.heap.size) 3 #[.int .i64 k, .int .i64 nx, .slice a3 mn c3] rfl rfl _ 100 Kt5.out (by simp [stC]) size_intent (by simp [Value.oneCell']) ?_
        intro w6 hb6 hk6
        have Kt6 := hid (show Blk w6 (w2.heap.size) (stC g k (r + bt) k nx (.slice a3 mn c3)) 100 from hk6)
        have Ks6 := hid (hb6.blk Ks5.out (by omega))
        have Kf6 := hid (hb6.blk Kf5.out (by omega))
        have HX6 := hid (show FlowB.ButIn [f] w w6 from ButIn.fresh (ButIn.of_but HX5.out (by simp)) hb6 (by omega))
        have HT6 := hid (show TextO w6 [p, bb, q, f, s] a3 mn c3 mm from ⟨HT5.out.butIn (S := [w2.heap.size]) (fun x hx => by have := HO5.out x hx; simp; omega) (ButIn.of_but hb6 (by simp)), fun x hx => by have := HO5.out x hx; simp only [List.mem_cons, List.not_mem_nil, or_false]; omega⟩)
        have hs6 := hb6.size
        clear hb6 hk6)
     | (refine wpList_load_blk rfl 100 _ rfl (w2.heap.size) rfl _ 100 Kt6.out _ Try.underlying100 rfl 6 size_state rfl ?_))
  refine (sreplace_all w6 (X ++ [p, bb, q, f, s]) s q f p bb 400 2 B set af kv tv (.slice oa m.length oc) 0 T g k (r + bt) k nx g k r ik ii nx tt bt a3 mn c3 mm Ks6.out (HX6.out.blk Kq.out (by simp; omega)) (HD.out.butQ HX6.out (by omega) (by omega)) (HFa.out.butIn (ButIn.wide HX6.out (by simp))) (by simp) ⟨HT6.out.text, fun x hx => by have := HT6.out.out x hx; simp only [List.mem_cons, List.not_mem_nil, or_false] at this ⊢; omega⟩ h2 (by omega) (by omega) (by omega) ⟨by omega, by omega⟩ ⟨by omega, by omega, by omega⟩ ⟨by omega, by omega⟩ ⟨by omega, by omega⟩ ⟨by omega, by omega⟩ ⟨by omega, by omega⟩ ⟨by omega, by omega⟩).mono ?_
  rintro e w7 ⟨b7, hok | hbad⟩
  rotate_left
  · obtain ⟨rfl, B7, s7, f7, k7', h7, d7⟩ := hbad
    rw [Nat.zero_add] at h7
    have Kf7 := hid (b7.blk Kf6.out (by simp; omega))
    have HX7 := hid (ButIn.on (S := [p, bb, q, f, s]) (ButIn.wide HX6.out (by simp)) (ButIn.wide b7 (by simp)))
    have HD7 := hid d7
    have H7 := hid h7
    clear b7 d7 h7
    go_wp2_with fail
    go_returns
    exact ⟨HX7.out, .inr ⟨rfl, B7, H7.out, ⟨Kf7.out, _, _, _, HD7.out⟩⟩⟩
  obtain ⟨rfl, k7, ⟨s7, f7, k7', d7, fa7⟩, a7, c7', q7, t7, o7⟩ := hok
  rw [Nat.zero_add] at d7
  have Ks7 := hid k7
  have Kq7 := hid q7
  have HD7 := hid d7
  have HFa7 := hid fa7
  have Kf7 := hid (b7.blk Kf6.out (by simp; omega))
  have HX7 := hid (ButIn.on (S := [p, bb, q, f, s]) (ButIn.wide HX6.out (by simp)) (ButIn.wide b7 (by simp)))
  have HT7 := hid (show TextO w7 [p, bb, q, f, s] a3 mn c3 mm from ⟨HT6.out.text.butIn (fun x hx => by have := HT6.out.out x hx; simp only [List.mem_cons, List.not_mem_nil, or_false] at this ⊢; omega) b7, HT6.out.out⟩)
  have c6 : w7.cell? ⟨s, 6, none⟩ = some (.int .i64 nx) := by rw [Ks7.out.cell]; rfl
  clear b7 k7 d7 fa7 q7 t7 o7
  go_wp2_with (
        refine wpList_store_cell rfl 3 _ _ rfl s 6 (.int .i64 (nx + 1)) rfl rfl rfl rfl _ 104 Ks7.out (by simp [sgC]) size_dint ?_
        intro w8 hb8 hk8
        have Ks8 := hid (show Blk w8 s (sgC g k (r + bt) k nx (.slice a3 mn c3) (nx + 1) tt bt q f false) 104 from hk8)
        have HB8 := hid hb8
        clear hb8 hk8 c6)
  try simp only [Act.put]
  refine wp_region_flow 13 (List.range 13) [] [] (by kernel_rfl) (by kernel_rfl) ?_
  apply Exists.intro
  refine ⟨fun w0 hb0 hF0 => ?_, ?_⟩
  · skip
    have y3 : ∀ w', (∃ x : Ext w0, w' = x.at_) → w'.cell? ⟨s, 3, none⟩ = some (.int .i64 k) := fun w' ⟨x, hx⟩ => by rw [hx, ((Ks8.out.below hb0).below x.same).cell]; rfl
    have y4 : ∀ w', (∃ x : Ext w0, w' = x.at_) → w'.cell? ⟨s, 4, none⟩ = some (.int .i64 nx) := fun w' ⟨x, hx⟩ => by rw [hx, ((Ks8.out.below hb0).below x.same).cell]; rfl
    simp only [pick, List.range, List.range.loop, List.getElem?_toArray, List.getElem?_cons_succ, List.getElem?_cons_zero, Option.toList_some, List.cons_append, List.nil_append]
    repeat (first | (go_big_quiet_want; refine quiet_load_one 3 _ rfl ⟨s, 3, none⟩ rfl _ y3 _ Try.underlying3 rfl ?_; go_big_quiet_on; simp only [Act.put, List.setIfInBounds_toArray, List.set_cons_zero, List.set_cons_succ]) | (go_big_quiet_want; refine quiet_load_one 3 _ rfl ⟨s, 4, none⟩ rfl _ y4 _ Try.underlying3 rfl ?_; go_big_quiet_on; simp only [Act.put, List.setIfInBounds_toArray, List.set_cons_zero, List.set_cons_succ]) | go_big_quiet_step (fail))
    exact wpQuiet_nil rfl
  refine AlChk.nil ?_
  refine Walk.fin fun wz hz _ _ => ?_
  simp only [List.drop_succ_cons, List.drop_zero]
  have HZ := hid hz
  clear hz
  go_wp2_with fail
  go_returns
  have hlen : mm.length = mn := hml
  have hsz := H.out
  subst hlen
  refine ⟨ButIn.on HX7.out (ButIn.on (ButIn.of_but HB8.out (by simp)) (ButIn.of_below HZ.out)), .inl ⟨rfl, ?_⟩⟩
  have hXb := hsz.xb
  have hs78 := HB8.out.size
  have hs89 := HZ.out.size
  have hs67 := HX7.out.size
  exact ⟨⟨a3, c3, Ks8.out.below HZ.out, (HT7.out.butIn (ButIn.of_but HB8.out (by simp))).butIn (ButIn.of_below HZ.out), fun x hx => ⟨by
    obtain ⟨x', o', hq', hl', -⟩ := HT7.out.text.at_ (by omega)
    rw [hq'] at hx
    cases hx
    show x' < _
    omega, fun hm => by have h1 := hXb _ hm; have h2 := HO5.out x hx; omega⟩⟩, ⟨_, (HB8.out.blk Kq7.out (by omega)).below HZ.out⟩, (HB8.out.blk Kf7.out (by omega)).below HZ.out, ⟨_, _, _, (HD7.out.but HB8.out (by omega) (by omega)).below HZ.out, (HFa7.out.butIn (ButIn.of_but HB8.out (by simp))).butIn (ButIn.of_below HZ.out)⟩, fun b hb => by have := hXb b hb; omega, hsz.nsp, hsz.nsb, hsz.nsq, hsz.nsf, hsz.nfp, hsz.nfb, hsz.nfq, hsz.nqp, hsz.nqb, h2, by omega, hsz.bg, hsz.bk, ⟨by omega, by omega⟩, hsz.bk, ⟨by omega, by omega⟩, ⟨by omega, by omega⟩, hsz.btt, hsz.bbt⟩
set_option maxHeartbeats 4000000 in
set_option maxRecDepth 100000 in
theorem deals_hi (w : World) (s q f p bb T : Nat) (g k r ik ii : Int) (m : List Int) (nx tt bt : Int) (B : List Int) (X : List Nat) (ma : Option Addr) (mn mc : Nat) (mm : List Int) (h : SoAt w s q f p bb T g k r ik ii m nx tt bt B X) (hT : TextO w [p, bb, q, f, s] ma mn mc mm) (h1 : 1 ≤ mn) (h2 : mn ≤ 200) (hq : ¬ m = mm) (hsp : nx < tt - 1) (hT1 : T + 1 < 1000000) (hrn : r ≤ nx) (hr1 : r ≤ tt - 1) (hm : tt - 1 < r + bt) :
    Calls Try.prog 30 #[.pointer (some ⟨s, 0, none⟩), .slice ma mn mc] w fun e w' => FlowB.ButIn [p, bb, q, f, s] w w' ∧ ((e = .returned (.tuple #[.int .i64 k, .int .i64 nx, .int .i64 0]) ∧ SoAt w' s q f p bb (T + 1) g k (tt - 1) k nx mm (nx + 1) tt bt (putS 400 ((T + 1) % 2) (slotB 400 (T + 1) (stB g k (tt - 1) k nx mm)) 400 B) X) ∨ (e = .returned (.tuple #[.int .i64 0, .int .i64 0, .int .i64 9]) ∧ ∃ B', Torn T (stB g k (tt - 1) k nx mm) B B' ∧ OffAt w' f p bb g k (tt - 1) B')) := by
  have H := hid h
  have HT := hid hT
  obtain ⟨oa, oc, hsg, ho, -⟩ := h.sg
  have Ks := hid hsg
  have HO := hid ho
  have hbt := h.btt
  have hbb := h.bbt
  have hbn := h.bn
  have hbr := h.br
  have hbk := h.bk
  have hbg := h.bg
  have hml := hT.text.length
  have hsl := hsg.lt
  have hrk := h.bik
  have hri := h.bii
  obtain ⟨tv, kq⟩ := h.sl
  have kf := h.fe
  obtain ⟨set, af, kv, hd, hfa⟩ := h.dk
  have HFa := hid hfa
  have Kq := hid kq
  have Kf := hid kf
  have HD := hid hd
  have hql := kq.lt
  have hfl := kf.lt
  have hpl := hd.kp.lt
  have hbl := hd.kb.lt
  have nsp := h.nsp
  have nsb := h.nsb
  have nsq := h.nsq
  have nsf := h.nsf
  have nfp := h.nfp
  have nfb := h.nfb
  have nfq := h.nfq
  have nqp := h.nqp
  have nqb := h.nqb
  have htb := h.tb
  clear kq kf hd hfa
  have Hb := hid (Below.refl w.heap.size w)
  clear h hT hsg ho
  go_enter Try.func30, Try.ntmps30
  go_wp2_with fail
  refine (refuse_ok w s g k r ik ii (.slice oa m.length oc) nx tt bt q f ma mn mc Ks.out h1 h2).mono ?_
  rintro e w1 ⟨rfl, b1⟩
  have Ks1 := hid (Ks.out.below b1)
  have HB1 := hid b1
  have HO1 := hid (HO.out.butIn (ButIn.of_below b1))
  have HT1 := hid (HT.out.butIn (ButIn.of_below b1))
  have hs1 := b1.size
  clear b1
  go_wp2_with fail
  refine (again_any w1 s g k r ik ii nx tt bt q f false oa ma m.length oc mn mc m mm Ks1.out HO1.out.text HT1.out.text).mono ?_
  rintro e w2 ⟨rfl, b2⟩
  rw [decide_eq_false hq]
  have Ks2 := hid (Ks1.out.below b2)
  have HB2 := hid (Below.on HB1.out b2)
  have HT2 := hid (HT1.out.butIn (ButIn.of_below b2))
  have hs2 := HB2.out.size
  clear b2
  have c7 : w2.cell? ⟨s, 7, none⟩ = some (.int .i64 tt) := by rw [Ks2.out.cell]; rfl
  have c6 : w2.cell? ⟨s, 6, none⟩ = some (.int .i64 nx) := by rw [Ks2.out.cell]; rfl
  have qs : ¬ tt - 1 ≤ nx := by omega
  go_wp2_with (first
     | (refine wpList_load_mid rfl 100 _ rfl s 0 rfl _ _ (show w2.rangeAt s 0 (stC g k r ik ii (.slice oa m.length oc)).toList from fun j u hu => by
        rw [Nat.zero_add, Ks2.out.cell]
        match j, hu with
        | 0, hu => exact hu
        | 1, hu => exact hu
        | 2, hu => exact hu
        | 3, hu => exact hu
        | 4, hu => exact hu
        | 5, hu => exact hu
        | n + 6, hu => simp [stC] at hu) Try.underlying100 rfl size_state ?_)
     | (
        refine wpList_store_blk rfl 100 _ _ rfl (w2.heap.size) (stC g k r ik ii (.slice oa m.length oc)) rfl rfl _ 100 (Blk.new rfl (stC 0 0 0 0 0 (.slice none 0 0)) _) 6 size_state rfl rfl (stC_ones _ _ _ _ _ _ _ _) ?_
        intro w3 hb3 hk3
        have h3 := hb3.below ((Below.refl w2.heap.size w2).alloc (Nat.le_refl _) _) (by simp only [World.size_alloc]; omega) (Nat.le_refl _)
        have HB3 := hid (Below.on HB2.out h3)
        have Ks3 := hid (Ks2.out.below h3)
        have HT3 := hid (HT2.out.butIn (ButIn.of_below h3))
        have Kt3 := hid hk3
        have hs3 := h3.size
        have ht3 := hk3.lt
        clear hb3 hk3 h3))
  simp only [Act.put]
  clear c7 c6
  refine wp_region_flow 10 (List.range 10) [] [] (by kernel_rfl) (by kernel_rfl) ?_
  apply Exists.intro
  refine ⟨fun w0 hb0 hF0 => ?_, ?_⟩
  · skip
    have y6 : ∀ w', (∃ x : Ext w0, w' = x.at_) → w'.cell? ⟨s, 6, none⟩ = some (.int .i64 nx) := fun w' ⟨x, hx⟩ => by rw [hx, ((Ks3.out.below hb0).below x.same).cell]; rfl
    have y2 : ∀ w', (∃ x : Ext w0, w' = x.at_) → w'.cell? ⟨s, 2, none⟩ = some (.int .i64 r) := fun w' ⟨x, hx⟩ => by rw [hx, ((Ks3.out.below hb0).below x.same).cell]; rfl
    simp only [pick, List.range, List.range.loop, List.getElem?_toArray, List.getElem?_cons_succ, List.getElem?_cons_zero, Option.toList_some, List.cons_append, List.nil_append]
    repeat (first | (go_big_quiet_want; refine quiet_load_one 3 _ rfl ⟨s, 6, none⟩ rfl _ y6 _ Try.underlying3 rfl ?_; go_big_quiet_on; simp only [Act.put, List.setIfInBounds_toArray, List.set_cons_zero, List.set_cons_succ]) | (go_big_quiet_want; refine quiet_load_one 3 _ rfl ⟨s, 2, none⟩ rfl _ y2 _ Try.underlying3 rfl ?_; go_big_quiet_on; simp only [Act.put, List.setIfInBounds_toArray, List.set_cons_zero, List.set_cons_succ]) | go_big_quiet_step (fail))
    exact wpQuiet_nil rfl
  refine AlChk.nil ?_
  refine Walk.fin fun wa hwa _ _ => ?_
  simp only [List.drop_succ_cons, List.drop_zero]
  have Kswa := hid (Ks3.out.below hwa)
  have Ktwa := hid (Kt3.out.below hwa)
  have HBwa := hid (Below.on HB3.out hwa)
  have HTwa := hid (HT3.out.butIn (ButIn.of_below hwa))
  have hswa := hwa.size
  clear hwa
  have qr : r ≤ nx := by omega
  go_wp2_with fail
  have qm : tt - 1 < r + bt := hm
  refine wp_region_flow 12 (List.range 12) [] [] (by kernel_rfl) (by kernel_rfl) ?_
  apply Exists.intro
  refine ⟨fun w0 hb0 hF0 => ?_, ?_⟩
  · skip
    have y2 : ∀ w', (∃ x : Ext w0, w' = x.at_) → w'.cell? ⟨s, 2, none⟩ = some (.int .i64 r) := fun w' ⟨x, hx⟩ => by rw [hx, ((Kswa.out.below hb0).below x.same).cell]; rfl
    have y8 : ∀ w', (∃ x : Ext w0, w' = x.at_) → w'.cell? ⟨s, 8, none⟩ = some (.int .i64 bt) := fun w' ⟨x, hx⟩ => by rw [hx, ((Kswa.out.below hb0).below x.same).cell]; rfl
    simp only [pick, List.range, List.range.loop, List.getElem?_toArray, List.getElem?_cons_succ, List.getElem?_cons_zero, Option.toList_some, List.cons_append, List.nil_append]
    repeat (first | (go_big_quiet_want; refine quiet_load_one 3 _ rfl ⟨s, 2, none⟩ rfl _ y2 _ Try.underlying3 rfl ?_; go_big_quiet_on; simp only [Act.put, List.setIfInBounds_toArray, List.set_cons_zero, List.set_cons_succ]) | (go_big_quiet_want; refine quiet_load_one 3 _ rfl ⟨s, 8, none⟩ rfl _ y8 _ Try.underlying3 rfl ?_; go_big_quiet_on; simp only [Act.put, List.setIfInBounds_toArray, List.set_cons_zero, List.set_cons_succ]) | go_big_quiet_step (fail))
    exact wpQuiet_nil rfl
  refine AlChk.nil ?_
  refine Walk.fin fun wb hwb _ _ => ?_
  simp only [List.drop_succ_cons, List.drop_zero]
  have Kswb := hid (Kswa.out.below hwb)
  have Ktwb := hid (Ktwa.out.below hwb)
  have HBwb := hid (Below.on HBwa.out hwb)
  have HTwb := hid (HTwa.out.butIn (ButIn.of_below hwb))
  have hswb := hwb.size
  clear hwb
  go_wp2_with (first
     | (
        refine wpList_store_cell rfl 3 _ _ rfl (w2.heap.size) 2 (.int .i64 (tt - 1)) rfl rfl rfl rfl _ 100 Ktwb.out (by simp [stC]) size_dint ?_
        intro wc hbc hkc
        have Ktc := hid (show Blk wc (w2.heap.size) (stC g k (tt - 1) ik ii (.slice oa m.length oc)) 100 from hkc)
        have HBc := hid (hbc.below HBwb.out (by have := HBwb.out.size; omega) (by omega))
        have Ksc := hid (hbc.blk Kswb.out (by omega))
        have HTc := hid (show TextO wc [p, bb, q, f, s] ma mn mc mm from ⟨HT.out.text.below HBc.out, HT.out.out⟩)
        have hsc := hbc.size
        clear hbc hkc)
     | (refine wpList_load_blk rfl 100 _ rfl (w2.heap.size) rfl _ 100 Ktc.out _ Try.underlying100 rfl 6 size_state rfl ?_))
  refine (sraise_any wc s f (sgC g k r ik ii (.slice oa m.length oc) nx tt bt q f false) (.slice oa m.length oc) g k (tt - 1) ik ii g k r Ksc.out rfl (Kf.out.below HBc.out) nsf).mono ?_
  rintro e wd ⟨rfl, bd, kd⟩
  rw [lk_up k r (tt - 1) (by omega), Int.max_self] at kd
  have Ksd := hid (bd.blk Ksc.out nsf)
  have Ktd := hid (bd.blk Ktc.out (by omega))
  have Kfd := hid kd
  have HXd := hid (But.trans (But.of HBc.out) bd)
  have HTd := hid (HTc.out.butIn (ButIn.of_but bd (by simp)))
  have hsd := bd.size
  clear bd kd Ksc Ktc HTc
  go_wp2_with fail
  refine wp_region_flow 12 [0, 1, 2, 3, 4, 5, 6, 7, 8, 9] [] [(.c 10, [11], [])] (by kernel_rfl) (by kernel_rfl) ?_
  apply Exists.intro
  refine ⟨fun w0 hb0 hF0 => ?_, ?_⟩
  · skip
    have y1 : ∀ w', (∃ x : Ext w0, w' = x.at_) → w'.cell? ⟨s, 1, none⟩ = some (.int .i64 k) := fun w' ⟨x, hx⟩ => by rw [hx, ((Ksd.out.below hb0).below x.same).cell]; rfl
    have y6 : ∀ w', (∃ x : Ext w0, w' = x.at_) → w'.cell? ⟨s, 6, none⟩ = some (.int .i64 nx) := fun w' ⟨x, hx⟩ => by rw [hx, ((Ksd.out.below hb0).below x.same).cell]; rfl
    simp only [pick, List.getElem?_toArray, List.getElem?_cons_succ, List.getElem?_cons_zero, Option.toList_some, List.cons_append, List.nil_append]
    repeat (first | (go_big_quiet_want; refine quiet_load_one 3 _ rfl ⟨s, 1, none⟩ rfl _ y1 _ Try.underlying3 rfl ?_; go_big_quiet_on; simp only [Act.put, List.setIfInBounds_toArray, List.set_cons_zero, List.set_cons_succ]) | (go_big_quiet_want; refine quiet_load_one 3 _ rfl ⟨s, 6, none⟩ rfl _ y6 _ Try.underlying3 rfl ?_; go_big_quiet_on; simp only [Act.put, List.setIfInBounds_toArray, List.set_cons_zero, List.set_cons_succ]) | go_big_quiet_step (fail))
    exact wpQuiet_nil rfl
  refine AlChk.nil ?_
  refine Walk.call rfl 42 #[.slice ma mn mc] (fun v w' => ∃ a c, v = .slice a mn c ∧ TextAt w' a mn c mm ∧ ∀ p : Addr, a = some p → wd.heap.size ≤ p.block) (fun v w' w'' h k => by obtain ⟨a, c, h1, h2, h3⟩ := h; exact ⟨a, c, h1, h2.below k, h3⟩) rfl (fun w1' hb1 hF1 => ⟨by go_simp, ?_⟩) ?_
  · refine (clone_any (HTd.out.text.below hb1) (by omega)).mono ?_
    rintro e w3' ⟨a', c', rfl, hb3, ht3, ho3⟩
    exact ⟨_, rfl, hb3, a', c', rfl, ht3, fun p hp => Nat.le_trans hb1.size (ho3 p hp).1⟩
  rintro v1 w1' hb1 hF1 ⟨a3, c3, rfl, -⟩
  apply Exists.intro
  refine ⟨fun w4 hb4 hF4 => ?_, ?_⟩
  · skip
    simp only [pick, List.getElem?_toArray, List.getElem?_cons_succ, List.getElem?_cons_zero, Option.toList_some, List.cons_append, List.nil_append, Act.put, List.setIfInBounds_toArray, List.set_cons_zero, List.set_cons_succ]
    repeat (first | go_big_quiet_step (fail))
    exact wpQuiet_nil rfl
  refine AlChk.nil ?_
  refine Walk.fin fun w5 h5 hF5 _ => ?_
  simp only [List.drop_succ_cons, List.drop_zero]
  have HX5 := hid (But.trans HXd.out (But.of h5))
  have Ks5 := hid (Ksd.out.below h5)
  have Kt5 := hid (Ktd.out.below h5)
  have Kf5 := hid (Kfd.out.below h5)
  have hs5 := h5.size
  obtain ⟨a4, c4, hq4, ht4, ho4⟩ := hF5.2
  cases hq4
  have HT5 := hid ht4
  have HO5 := hid ho4
  clear h5 hF5 ht4 ho4
  go_wp2_with (first
     | (
        refine wpList_store_mid rfl 98 _ _ rfl (w2.heap.size) 3 #[.int .i64 k, .int .i64 nx, .slice a3 mn c3] rfl rfl _ 100 Kt5.out (by simp [stC]) size_intent (by simp [Value.oneCell']) ?_
        intro w6 hb6 hk6
        have Kt6 := hid (show Blk w6 (w2.heap.size) (stC g k (tt - 1) k nx (.slice a3 mn c3)) 100 from hk6)
        have Ks6 := hid (hb6.blk Ks5.out (by omega))
        have Kf6 := hid (hb6.blk Kf5.out (by omega))
        have HX6 := hid (show FlowB.ButIn [f] w w6 from ButIn.fresh (ButIn.of_but HX5.out (by simp)) hb6 (by omega))
        have HT6 := hid (show TextO w6 [p, bb, q, f, s] a3 mn c3 mm from ⟨HT5.out.butIn (S := [w2.heap.size]) (fun x hx => by have := HO5.out x hx; simp; omega) (ButIn.of_but hb6 (by simp)), fun x hx => by have := HO5.out x hx; simp only [List.mem_cons, List.not_mem_nil, or_false]; omega⟩)
        have hs6 := hb6.size
        clear hb6 hk6)
     | (refine wpList_load_blk rfl 100 _ rfl (w2.heap.size) rfl _ 100 Kt6.out _ Try.underlying100 rfl 6 size_state rfl ?_))
  refine (sreplace_all w6 (X ++ [p, bb, q, f, s]) s q f p bb 400 2 B set af kv tv (.slice oa m.length oc) 0 T g k (tt - 1) k nx g k r ik ii nx tt bt a3 mn c3 mm Ks6.out (HX6.out.blk Kq.out (by simp; omega)) (HD.out.butQ HX6.out (by omega) (by omega)) (HFa.out.butIn (ButIn.wide HX6.out (by simp))) (by simp) ⟨HT6.out.text, fun x hx => by have := HT6.out.out x hx; simp only [List.mem_cons, List.not_mem_nil, or_false] at this ⊢; omega⟩ h2 (by omega) (by omega) (by omega) ⟨by omega, by omega⟩ ⟨by omega, by omega, by omega⟩ ⟨by omega, by omega⟩ ⟨by omega, by omega⟩ ⟨by omega, by omega⟩ ⟨by omega, by omega⟩ ⟨by omega, by omega⟩).mono ?_
  rintro e w7 ⟨b7, hok | hbad⟩
  rotate_left
  · obtain ⟨rfl, B7, s7, f7, k7', h7, d7⟩ := hbad
    rw [Nat.zero_add] at h7
    have Kf7 := hid (b7.blk Kf6.out (by simp; omega))
    have HX7 := hid (ButIn.on (S := [p, bb, q, f, s]) (ButIn.wide HX6.out (by simp)) (ButIn.wide b7 (by simp)))
    have HD7 := hid d7
    have H7 := hid h7
    clear b7 d7 h7
    go_wp2_with fail
    go_returns
    exact ⟨HX7.out, .inr ⟨rfl, B7, H7.out, ⟨Kf7.out, _, _, _, HD7.out⟩⟩⟩
  obtain ⟨rfl, k7, ⟨s7, f7, k7', d7, fa7⟩, a7, c7', q7, t7, o7⟩ := hok
  rw [Nat.zero_add] at d7
  have Ks7 := hid k7
  have Kq7 := hid q7
  have HD7 := hid d7
  have HFa7 := hid fa7
  have Kf7 := hid (b7.blk Kf6.out (by simp; omega))
  have HX7 := hid (ButIn.on (S := [p, bb, q, f, s]) (ButIn.wide HX6.out (by simp)) (ButIn.wide b7 (by simp)))
  have HT7 := hid (show TextO w7 [p, bb, q, f, s] a3 mn c3 mm from ⟨HT6.out.text.butIn (fun x hx => by have := HT6.out.out x hx; simp only [List.mem_cons, List.not_mem_nil, or_false] at this ⊢; omega) b7, HT6.out.out⟩)
  have c6 : w7.cell? ⟨s, 6, none⟩ = some (.int .i64 nx) := by rw [Ks7.out.cell]; rfl
  clear b7 k7 d7 fa7 q7 t7 o7
  go_wp2_with (
        refine wpList_store_cell rfl 3 _ _ rfl s 6 (.int .i64 (nx + 1)) rfl rfl rfl rfl _ 104 Ks7.out (by simp [sgC]) size_dint ?_
        intro w8 hb8 hk8
        have Ks8 := hid (show Blk w8 s (sgC g k (tt - 1) k nx (.slice a3 mn c3) (nx + 1) tt bt q f false) 104 from hk8)
        have HB8 := hid hb8
        clear hb8 hk8 c6)
  try simp only [Act.put]
  refine wp_region_flow 13 (List.range 13) [] [] (by kernel_rfl) (by kernel_rfl) ?_
  apply Exists.intro
  refine ⟨fun w0 hb0 hF0 => ?_, ?_⟩
  · skip
    have y3 : ∀ w', (∃ x : Ext w0, w' = x.at_) → w'.cell? ⟨s, 3, none⟩ = some (.int .i64 k) := fun w' ⟨x, hx⟩ => by rw [hx, ((Ks8.out.below hb0).below x.same).cell]; rfl
    have y4 : ∀ w', (∃ x : Ext w0, w' = x.at_) → w'.cell? ⟨s, 4, none⟩ = some (.int .i64 nx) := fun w' ⟨x, hx⟩ => by rw [hx, ((Ks8.out.below hb0).below x.same).cell]; rfl
    simp only [pick, List.range, List.range.loop, List.getElem?_toArray, List.getElem?_cons_succ, List.getElem?_cons_zero, Option.toList_some, List.cons_append, List.nil_append]
    repeat (first | (go_big_quiet_want; refine quiet_load_one 3 _ rfl ⟨s, 3, none⟩ rfl _ y3 _ Try.underlying3 rfl ?_; go_big_quiet_on; simp only [Act.put, List.setIfInBounds_toArray, List.set_cons_zero, List.set_cons_succ]) | (go_big_quiet_want; refine quiet_load_one 3 _ rfl ⟨s, 4, none⟩ rfl _ y4 _ Try.underlying3 rfl ?_; go_big_quiet_on; simp only [Act.put, List.setIfInBounds_toArray, List.set_cons_zero, List.set_cons_succ]) | go_big_quiet_step (fail))
    exact wpQuiet_nil rfl
  refine AlChk.nil ?_
  refine Walk.fin fun wz hz _ _ => ?_
  simp only [List.drop_succ_cons, List.drop_zero]
  have HZ := hid hz
  clear hz
  go_wp2_with fail
  go_returns
  have hlen : mm.length = mn := hml
  have hsz := H.out
  subst hlen
  refine ⟨ButIn.on HX7.out (ButIn.on (ButIn.of_but HB8.out (by simp)) (ButIn.of_below HZ.out)), .inl ⟨rfl, ?_⟩⟩
  have hXb := hsz.xb
  have hs78 := HB8.out.size
  have hs89 := HZ.out.size
  have hs67 := HX7.out.size
  exact ⟨⟨a3, c3, Ks8.out.below HZ.out, (HT7.out.butIn (ButIn.of_but HB8.out (by simp))).butIn (ButIn.of_below HZ.out), fun x hx => ⟨by
    obtain ⟨x', o', hq', hl', -⟩ := HT7.out.text.at_ (by omega)
    rw [hq'] at hx
    cases hx
    show x' < _
    omega, fun hm => by have h1 := hXb _ hm; have h2 := HO5.out x hx; omega⟩⟩, ⟨_, (HB8.out.blk Kq7.out (by omega)).below HZ.out⟩, (HB8.out.blk Kf7.out (by omega)).below HZ.out, ⟨_, _, _, (HD7.out.but HB8.out (by omega) (by omega)).below HZ.out, (HFa7.out.butIn (ButIn.of_but HB8.out (by simp))).butIn (ButIn.of_below HZ.out)⟩, fun b hb => by have := hXb b hb; omega, hsz.nsp, hsz.nsb, hsz.nsq, hsz.nsf, hsz.nfp, hsz.nfb, hsz.nfq, hsz.nqp, hsz.nqb, h2, by omega, hsz.bg, hsz.bk, ⟨by omega, by omega⟩, hsz.bk, ⟨by omega, by omega⟩, ⟨by omega, by omega⟩, hsz.btt, hsz.bbt⟩
set_option maxHeartbeats 4000000 in
set_option maxRecDepth 100000 in
theorem deals_plain (w : World) (s q f p bb T : Nat) (g k r ik ii : Int) (m : List Int) (nx tt bt : Int) (B : List Int) (X : List Nat) (ma : Option Addr) (mn mc : Nat) (mm : List Int) (h : SoAt w s q f p bb T g k r ik ii m nx tt bt B X) (hT : TextO w [p, bb, q, f, s] ma mn mc mm) (h1 : 1 ≤ mn) (h2 : mn ≤ 200) (hq : ¬ m = mm) (hsp : nx < tt - 1) (hT1 : T + 1 < 1000000) (hrn : ¬ r ≤ nx) :
    Calls Try.prog 30 #[.pointer (some ⟨s, 0, none⟩), .slice ma mn mc] w fun e w' => FlowB.ButIn [p, bb, q, f, s] w w' ∧ ((e = .returned (.tuple #[.int .i64 k, .int .i64 nx, .int .i64 0]) ∧ SoAt w' s q f p bb (T + 1) g k r k nx mm (nx + 1) tt bt (putS 400 ((T + 1) % 2) (slotB 400 (T + 1) (stB g k r k nx mm)) 400 B) X) ∨ (e = .returned (.tuple #[.int .i64 0, .int .i64 0, .int .i64 9]) ∧ ∃ B', Torn T (stB g k r k nx mm) B B' ∧ OffAt w' f p bb g k r B')) := by
  have H := hid h
  have HT := hid hT
  obtain ⟨oa, oc, hsg, ho, -⟩ := h.sg
  have Ks := hid hsg
  have HO := hid ho
  have hbt := h.btt
  have hbb := h.bbt
  have hbn := h.bn
  have hbr := h.br
  have hbk := h.bk
  have hbg := h.bg
  have hml := hT.text.length
  have hsl := hsg.lt
  have hrk := h.bik
  have hri := h.bii
  obtain ⟨tv, kq⟩ := h.sl
  have kf := h.fe
  obtain ⟨set, af, kv, hd, hfa⟩ := h.dk
  have HFa := hid hfa
  have Kq := hid kq
  have Kf := hid kf
  have HD := hid hd
  have hql := kq.lt
  have hfl := kf.lt
  have hpl := hd.kp.lt
  have hbl := hd.kb.lt
  have nsp := h.nsp
  have nsb := h.nsb
  have nsq := h.nsq
  have nsf := h.nsf
  have nfp := h.nfp
  have nfb := h.nfb
  have nfq := h.nfq
  have nqp := h.nqp
  have nqb := h.nqb
  have htb := h.tb
  clear kq kf hd hfa
  have Hb := hid (Below.refl w.heap.size w)
  clear h hT hsg ho
  go_enter Try.func30, Try.ntmps30
  go_wp2_with fail
  refine (refuse_ok w s g k r ik ii (.slice oa m.length oc) nx tt bt q f ma mn mc Ks.out h1 h2).mono ?_
  rintro e w1 ⟨rfl, b1⟩
  have Ks1 := hid (Ks.out.below b1)
  have HB1 := hid b1
  have HO1 := hid (HO.out.butIn (ButIn.of_below b1))
  have HT1 := hid (HT.out.butIn (ButIn.of_below b1))
  have hs1 := b1.size
  clear b1
  go_wp2_with fail
  refine (again_any w1 s g k r ik ii nx tt bt q f false oa ma m.length oc mn mc m mm Ks1.out HO1.out.text HT1.out.text).mono ?_
  rintro e w2 ⟨rfl, b2⟩
  rw [decide_eq_false hq]
  have Ks2 := hid (Ks1.out.below b2)
  have HB2 := hid (Below.on HB1.out b2)
  have HT2 := hid (HT1.out.butIn (ButIn.of_below b2))
  have hs2 := HB2.out.size
  clear b2
  have c7 : w2.cell? ⟨s, 7, none⟩ = some (.int .i64 tt) := by rw [Ks2.out.cell]; rfl
  have c6 : w2.cell? ⟨s, 6, none⟩ = some (.int .i64 nx) := by rw [Ks2.out.cell]; rfl
  have qs : ¬ tt - 1 ≤ nx := by omega
  go_wp2_with (first
     | (refine wpList_load_mid rfl 100 _ rfl s 0 rfl _ _ (show w2.rangeAt s 0 (stC g k r ik ii (.slice oa m.length oc)).toList from fun j u hu => by
        rw [Nat.zero_add, Ks2.out.cell]
        match j, hu with
        | 0, hu => exact hu
        | 1, hu => exact hu
        | 2, hu => exact hu
        | 3, hu => exact hu
        | 4, hu => exact hu
        | 5, hu => exact hu
        | n + 6, hu => simp [stC] at hu) Try.underlying100 rfl size_state ?_)
     | (
        refine wpList_store_blk rfl 100 _ _ rfl (w2.heap.size) (stC g k r ik ii (.slice oa m.length oc)) rfl rfl _ 100 (Blk.new rfl (stC 0 0 0 0 0 (.slice none 0 0)) _) 6 size_state rfl rfl (stC_ones _ _ _ _ _ _ _ _) ?_
        intro w3 hb3 hk3
        have h3 := hb3.below ((Below.refl w2.heap.size w2).alloc (Nat.le_refl _) _) (by simp only [World.size_alloc]; omega) (Nat.le_refl _)
        have HB3 := hid (Below.on HB2.out h3)
        have Ks3 := hid (Ks2.out.below h3)
        have HT3 := hid (HT2.out.butIn (ButIn.of_below h3))
        have Kt3 := hid hk3
        have hs3 := h3.size
        have ht3 := hk3.lt
        clear hb3 hk3 h3))
  simp only [Act.put]
  clear c7 c6
  refine wp_region_flow 10 (List.range 10) [] [] (by kernel_rfl) (by kernel_rfl) ?_
  apply Exists.intro
  refine ⟨fun w0 hb0 hF0 => ?_, ?_⟩
  · skip
    have y6 : ∀ w', (∃ x : Ext w0, w' = x.at_) → w'.cell? ⟨s, 6, none⟩ = some (.int .i64 nx) := fun w' ⟨x, hx⟩ => by rw [hx, ((Ks3.out.below hb0).below x.same).cell]; rfl
    have y2 : ∀ w', (∃ x : Ext w0, w' = x.at_) → w'.cell? ⟨s, 2, none⟩ = some (.int .i64 r) := fun w' ⟨x, hx⟩ => by rw [hx, ((Ks3.out.below hb0).below x.same).cell]; rfl
    simp only [pick, List.range, List.range.loop, List.getElem?_toArray, List.getElem?_cons_succ, List.getElem?_cons_zero, Option.toList_some, List.cons_append, List.nil_append]
    repeat (first | (go_big_quiet_want; refine quiet_load_one 3 _ rfl ⟨s, 6, none⟩ rfl _ y6 _ Try.underlying3 rfl ?_; go_big_quiet_on; simp only [Act.put, List.setIfInBounds_toArray, List.set_cons_zero, List.set_cons_succ]) | (go_big_quiet_want; refine quiet_load_one 3 _ rfl ⟨s, 2, none⟩ rfl _ y2 _ Try.underlying3 rfl ?_; go_big_quiet_on; simp only [Act.put, List.setIfInBounds_toArray, List.set_cons_zero, List.set_cons_succ]) | go_big_quiet_step (fail))
    exact wpQuiet_nil rfl
  refine AlChk.nil ?_
  refine Walk.fin fun wa hwa _ _ => ?_
  simp only [List.drop_succ_cons, List.drop_zero]
  have Kswa := hid (Ks3.out.below hwa)
  have Ktwa := hid (Kt3.out.below hwa)
  have HBwa := hid (Below.on HB3.out hwa)
  have HTwa := hid (HT3.out.butIn (ButIn.of_below hwa))
  have hswa := hwa.size
  clear hwa
  have qr : ¬ r ≤ nx := by omega
  go_wp2_with fail
  have Ksd := Kswa
  have Ktd := Ktwa
  have Kfd := hid (Kf.out.below HBwa.out)
  have HXd := hid (But.of (b := f) HBwa.out)
  have HTd := HTwa
  refine wp_region_flow 12 [0, 1, 2, 3, 4, 5, 6, 7, 8, 9] [] [(.c 10, [11], [])] (by kernel_rfl) (by kernel_rfl) ?_
  apply Exists.intro
  refine ⟨fun w0 hb0 hF0 => ?_, ?_⟩
  · skip
    have y1 : ∀ w', (∃ x : Ext w0, w' = x.at_) → w'.cell? ⟨s, 1, none⟩ = some (.int .i64 k) := fun w' ⟨x, hx⟩ => by rw [hx, ((Ksd.out.below hb0).below x.same).cell]; rfl
    have y6 : ∀ w', (∃ x : Ext w0, w' = x.at_) → w'.cell? ⟨s, 6, none⟩ = some (.int .i64 nx) := fun w' ⟨x, hx⟩ => by rw [hx, ((Ksd.out.below hb0).below x.same).cell]; rfl
    simp only [pick, List.getElem?_toArray, List.getElem?_cons_succ, List.getElem?_cons_zero, Option.toList_some, List.cons_append, List.nil_append]
    repeat (first | (go_big_quiet_want; refine quiet_load_one 3 _ rfl ⟨s, 1, none⟩ rfl _ y1 _ Try.underlying3 rfl ?_; go_big_quiet_on; simp only [Act.put, List.setIfInBounds_toArray, List.set_cons_zero, List.set_cons_succ]) | (go_big_quiet_want; refine quiet_load_one 3 _ rfl ⟨s, 6, none⟩ rfl _ y6 _ Try.underlying3 rfl ?_; go_big_quiet_on; simp only [Act.put, List.setIfInBounds_toArray, List.set_cons_zero, List.set_cons_succ]) | go_big_quiet_step (fail))
    exact wpQuiet_nil rfl
  refine AlChk.nil ?_
  refine Walk.call rfl 42 #[.slice ma mn mc] (fun v w' => ∃ a c, v = .slice a mn c ∧ TextAt w' a mn c mm ∧ ∀ p : Addr, a = some p → wa.heap.size ≤ p.block) (fun v w' w'' h k => by obtain ⟨a, c, h1, h2, h3⟩ := h; exact ⟨a, c, h1, h2.below k, h3⟩) rfl (fun w1' hb1 hF1 => ⟨by go_simp, ?_⟩) ?_
  · refine (clone_any (HTd.out.text.below hb1) (by omega)).mono ?_
    rintro e w3' ⟨a', c', rfl, hb3, ht3, ho3⟩
    exact ⟨_, rfl, hb3, a', c', rfl, ht3, fun p hp => Nat.le_trans hb1.size (ho3 p hp).1⟩
  rintro v1 w1' hb1 hF1 ⟨a3, c3, rfl, -⟩
  apply Exists.intro
  refine ⟨fun w4 hb4 hF4 => ?_, ?_⟩
  · skip
    simp only [pick, List.getElem?_toArray, List.getElem?_cons_succ, List.getElem?_cons_zero, Option.toList_some, List.cons_append, List.nil_append, Act.put, List.setIfInBounds_toArray, List.set_cons_zero, List.set_cons_succ]
    repeat (first | go_big_quiet_step (fail))
    exact wpQuiet_nil rfl
  refine AlChk.nil ?_
  refine Walk.fin fun w5 h5 hF5 _ => ?_
  simp only [List.drop_succ_cons, List.drop_zero]
  have HX5 := hid (But.trans HXd.out (But.of h5))
  have Ks5 := hid (Ksd.out.below h5)
  have Kt5 := hid (Ktd.out.below h5)
  have Kf5 := hid (Kfd.out.below h5)
  have hs5 := h5.size
  obtain ⟨a4, c4, hq4, ht4, ho4⟩ := hF5.2
  cases hq4
  have HT5 := hid ht4
  have HO5 := hid ho4
  clear h5 hF5 ht4 ho4
  go_wp2_with (first
     | (
        refine wpList_store_mid rfl 98 _ _ rfl (w2.heap.size) 3 #[.int .i64 k, .int .i64 nx, .slice a3 mn c3] rfl rfl _ 100 Kt5.out (by simp [stC]) size_intent (by simp [Value.oneCell']) ?_
        intro w6 hb6 hk6
        have Kt6 := hid (show Blk w6 (w2.heap.size) (stC g k r k nx (.slice a3 mn c3)) 100 from hk6)
        have Ks6 := hid (hb6.blk Ks5.out (by omega))
        have Kf6 := hid (hb6.blk Kf5.out (by omega))
        have HX6 := hid (show FlowB.ButIn [f] w w6 from ButIn.fresh (ButIn.of_but HX5.out (by simp)) hb6 (by omega))
        have HT6 := hid (show TextO w6 [p, bb, q, f, s] a3 mn c3 mm from ⟨HT5.out.butIn (S := [w2.heap.size]) (fun x hx => by have := HO5.out x hx; simp; omega) (ButIn.of_but hb6 (by simp)), fun x hx => by have := HO5.out x hx; simp only [List.mem_cons, List.not_mem_nil, or_false]; omega⟩)
        have hs6 := hb6.size
        clear hb6 hk6)
     | (refine wpList_load_blk rfl 100 _ rfl (w2.heap.size) rfl _ 100 Kt6.out _ Try.underlying100 rfl 6 size_state rfl ?_))
  refine (sreplace_all w6 (X ++ [p, bb, q, f, s]) s q f p bb 400 2 B set af kv tv (.slice oa m.length oc) 0 T g k r k nx g k r ik ii nx tt bt a3 mn c3 mm Ks6.out (HX6.out.blk Kq.out (by simp; omega)) (HD.out.butQ HX6.out (by omega) (by omega)) (HFa.out.butIn (ButIn.wide HX6.out (by simp))) (by simp) ⟨HT6.out.text, fun x hx => by have := HT6.out.out x hx; simp only [List.mem_cons, List.not_mem_nil, or_false] at this ⊢; omega⟩ h2 (by omega) (by omega) (by omega) ⟨by omega, by omega⟩ ⟨by omega, by omega, by omega⟩ ⟨by omega, by omega⟩ ⟨by omega, by omega⟩ ⟨by omega, by omega⟩ ⟨by omega, by omega⟩ ⟨by omega, by omega⟩).mono ?_
  rintro e w7 ⟨b7, hok | hbad⟩
  rotate_left
  · obtain ⟨rfl, B7, s7, f7, k7', h7, d7⟩ := hbad
    rw [Nat.zero_add] at h7
    have Kf7 := hid (b7.blk Kf6.out (by simp; omega))
    have HX7 := hid (ButIn.on (S := [p, bb, q, f, s]) (ButIn.wide HX6.out (by simp)) (ButIn.wide b7 (by simp)))
    have HD7 := hid d7
    have H7 := hid h7
    clear b7 d7 h7
    go_wp2_with fail
    go_returns
    exact ⟨HX7.out, .inr ⟨rfl, B7, H7.out, ⟨Kf7.out, _, _, _, HD7.out⟩⟩⟩
  obtain ⟨rfl, k7, ⟨s7, f7, k7', d7, fa7⟩, a7, c7', q7, t7, o7⟩ := hok
  rw [Nat.zero_add] at d7
  have Ks7 := hid k7
  have Kq7 := hid q7
  have HD7 := hid d7
  have HFa7 := hid fa7
  have Kf7 := hid (b7.blk Kf6.out (by simp; omega))
  have HX7 := hid (ButIn.on (S := [p, bb, q, f, s]) (ButIn.wide HX6.out (by simp)) (ButIn.wide b7 (by simp)))
  have HT7 := hid (show TextO w7 [p, bb, q, f, s] a3 mn c3 mm from ⟨HT6.out.text.butIn (fun x hx => by have := HT6.out.out x hx; simp only [List.mem_cons, List.not_mem_nil, or_false] at this ⊢; omega) b7, HT6.out.out⟩)
  have c6 : w7.cell? ⟨s, 6, none⟩ = some (.int .i64 nx) := by rw [Ks7.out.cell]; rfl
  clear b7 k7 d7 fa7 q7 t7 o7
  go_wp2_with (
        refine wpList_store_cell rfl 3 _ _ rfl s 6 (.int .i64 (nx + 1)) rfl rfl rfl rfl _ 104 Ks7.out (by simp [sgC]) size_dint ?_
        intro w8 hb8 hk8
        have Ks8 := hid (show Blk w8 s (sgC g k r k nx (.slice a3 mn c3) (nx + 1) tt bt q f false) 104 from hk8)
        have HB8 := hid hb8
        clear hb8 hk8 c6)
  try simp only [Act.put]
  refine wp_region_flow 13 (List.range 13) [] [] (by kernel_rfl) (by kernel_rfl) ?_
  apply Exists.intro
  refine ⟨fun w0 hb0 hF0 => ?_, ?_⟩
  · skip
    have y3 : ∀ w', (∃ x : Ext w0, w' = x.at_) → w'.cell? ⟨s, 3, none⟩ = some (.int .i64 k) := fun w' ⟨x, hx⟩ => by rw [hx, ((Ks8.out.below hb0).below x.same).cell]; rfl
    have y4 : ∀ w', (∃ x : Ext w0, w' = x.at_) → w'.cell? ⟨s, 4, none⟩ = some (.int .i64 nx) := fun w' ⟨x, hx⟩ => by rw [hx, ((Ks8.out.below hb0).below x.same).cell]; rfl
    simp only [pick, List.range, List.range.loop, List.getElem?_toArray, List.getElem?_cons_succ, List.getElem?_cons_zero, Option.toList_some, List.cons_append, List.nil_append]
    repeat (first | (go_big_quiet_want; refine quiet_load_one 3 _ rfl ⟨s, 3, none⟩ rfl _ y3 _ Try.underlying3 rfl ?_; go_big_quiet_on; simp only [Act.put, List.setIfInBounds_toArray, List.set_cons_zero, List.set_cons_succ]) | (go_big_quiet_want; refine quiet_load_one 3 _ rfl ⟨s, 4, none⟩ rfl _ y4 _ Try.underlying3 rfl ?_; go_big_quiet_on; simp only [Act.put, List.setIfInBounds_toArray, List.set_cons_zero, List.set_cons_succ]) | go_big_quiet_step (fail))
    exact wpQuiet_nil rfl
  refine AlChk.nil ?_
  refine Walk.fin fun wz hz _ _ => ?_
  simp only [List.drop_succ_cons, List.drop_zero]
  have HZ := hid hz
  clear hz
  go_wp2_with fail
  go_returns
  have hlen : mm.length = mn := hml
  have hsz := H.out
  subst hlen
  refine ⟨ButIn.on HX7.out (ButIn.on (ButIn.of_but HB8.out (by simp)) (ButIn.of_below HZ.out)), .inl ⟨rfl, ?_⟩⟩
  have hXb := hsz.xb
  have hs78 := HB8.out.size
  have hs89 := HZ.out.size
  have hs67 := HX7.out.size
  exact ⟨⟨a3, c3, Ks8.out.below HZ.out, (HT7.out.butIn (ButIn.of_but HB8.out (by simp))).butIn (ButIn.of_below HZ.out), fun x hx => ⟨by
    obtain ⟨x', o', hq', hl', -⟩ := HT7.out.text.at_ (by omega)
    rw [hq'] at hx
    cases hx
    show x' < _
    omega, fun hm => by have h1 := hXb _ hm; have h2 := HO5.out x hx; omega⟩⟩, ⟨_, (HB8.out.blk Kq7.out (by omega)).below HZ.out⟩, (HB8.out.blk Kf7.out (by omega)).below HZ.out, ⟨_, _, _, (HD7.out.but HB8.out (by omega) (by omega)).below HZ.out, (HFa7.out.butIn (ButIn.of_but HB8.out (by simp))).butIn (ButIn.of_below HZ.out)⟩, fun b hb => by have := hXb b hb; omega, hsz.nsp, hsz.nsb, hsz.nsq, hsz.nsf, hsz.nfp, hsz.nfb, hsz.nfq, hsz.nqp, hsz.nqb, h2, by omega, hsz.bg, hsz.bk, ⟨by omega, by omega⟩, hsz.bk, ⟨by omega, by omega⟩, ⟨by omega, by omega⟩, hsz.btt, hsz.bbt⟩
end Go.Proofs.Ytmpgnpkodapidaa

namespace Go.Proofs.Ytmpgnpkodapidaa
open Go.ChangeShapes Go.WideShapes Go.ChangeAt Go.RowKit

set_option maxHeartbeats 4000000 in
set_option maxRecDepth 100000 in
theorem rolls_again (w : World) (s q f p bb T : Nat) (g k r ik ii : Int) (m : List Int) (nx tt bt : Int) (B : List Int) (X : List Nat) (ma : Option Addr) (mn mc : Nat) (mm : List Int) (h : SoAt w s q f p bb T g k r ik ii m nx tt bt B X) (hT : TextO w [p, bb, q, f, s] ma mn mc mm) (h1 : 1 ≤ mn) (h2 : mn ≤ 200) (hq : m = mm) :
    Calls Try.prog 31 #[.pointer (some ⟨s, 0, none⟩), .slice ma mn mc] w fun e w' => e = .returned (.tuple #[.int .i64 ik, .int .i64 ii, .int .i64 0]) ∧ Below w.heap.size w w' := by
  have H := hid h
  have HT := hid hT
  obtain ⟨oa, oc, hsg, ho, -⟩ := h.sg
  have Ks := hid hsg
  have HO := hid ho
  have hbt := h.btt
  have hbb := h.bbt
  have hbn := h.bn
  have hbr := h.br
  have hbk := h.bk
  have hbg := h.bg
  have hml := hT.text.length
  have hsl := hsg.lt
  have hrk := h.bik
  have hri := h.bii
  obtain ⟨tv, kq⟩ := h.sl
  have kf := h.fe
  obtain ⟨set, af, kv, hd, hfa⟩ := h.dk
  have HFa := hid hfa
  have Kq := hid kq
  have Kf := hid kf
  have HD := hid hd
  have hql := kq.lt
  have hfl := kf.lt
  have hpl := hd.kp.lt
  have hbl := hd.kb.lt
  have nsp := h.nsp
  have nsb := h.nsb
  have nsq := h.nsq
  have nsf := h.nsf
  have nfp := h.nfp
  have nfb := h.nfb
  have nfq := h.nfq
  have nqp := h.nqp
  have nqb := h.nqb
  have htb := h.tb
  clear kq kf hd hfa
  have Hb := hid (Below.refl w.heap.size w)
  clear h hT hsg ho
  go_enter Try.func31, Try.ntmps31
  go_wp2_with fail
  refine (refuse_ok w s g k r ik ii (.slice oa m.length oc) nx tt bt q f ma mn mc Ks.out h1 h2).mono ?_
  rintro e w1 ⟨rfl, b1⟩
  have Ks1 := hid (Ks.out.below b1)
  have HB1 := hid b1
  have HO1 := hid (HO.out.butIn (ButIn.of_below b1))
  have HT1 := hid (HT.out.butIn (ButIn.of_below b1))
  have hs1 := b1.size
  clear b1
  go_wp2_with fail
  refine (again_any w1 s g k r ik ii nx tt bt q f false oa ma m.length oc mn mc m mm Ks1.out HO1.out.text HT1.out.text).mono ?_
  rintro e w2 ⟨rfl, b2⟩
  rw [decide_eq_true hq]
  have Ks2 := hid (Ks1.out.below b2)
  have HB2 := hid (Below.on HB1.out b2)
  have HT2 := hid (HT1.out.butIn (ButIn.of_below b2))
  have hs2 := HB2.out.size
  clear b2
  go_wp2_with fail
  refine wp_region_flow 13 (List.range 13) [] [] (by kernel_rfl) (by kernel_rfl) ?_
  apply Exists.intro
  refine ⟨fun w0 hb0 hF0 => ?_, ?_⟩
  · skip
    have y3 : ∀ w', (∃ x : Ext w0, w' = x.at_) → w'.cell? ⟨s, 3, none⟩ = some (.int .i64 ik) := fun w' ⟨x, hx⟩ => by rw [hx, ((Ks2.out.below hb0).below x.same).cell]; rfl
    have y4 : ∀ w', (∃ x : Ext w0, w' = x.at_) → w'.cell? ⟨s, 4, none⟩ = some (.int .i64 ii) := fun w' ⟨x, hx⟩ => by rw [hx, ((Ks2.out.below hb0).below x.same).cell]; rfl
    simp only [pick, List.range, List.range.loop, List.getElem?_toArray, List.getElem?_cons_succ, List.getElem?_cons_zero, Option.toList_some, List.cons_append, List.nil_append]
    repeat (first | (go_big_quiet_want; refine quiet_load_one 3 _ rfl ⟨s, 3, none⟩ rfl _ y3 _ Try.underlying3 rfl ?_; go_big_quiet_on; simp only [Act.put, List.setIfInBounds_toArray, List.set_cons_zero, List.set_cons_succ]) | (go_big_quiet_want; refine quiet_load_one 3 _ rfl ⟨s, 4, none⟩ rfl _ y4 _ Try.underlying3 rfl ?_; go_big_quiet_on; simp only [Act.put, List.setIfInBounds_toArray, List.set_cons_zero, List.set_cons_succ]) | go_big_quiet_step (fail))
    exact wpQuiet_nil rfl
  refine AlChk.nil ?_
  refine Walk.fin fun wz hz _ _ => ?_
  simp only [List.drop_succ_cons, List.drop_zero]
  have HZ := hid hz
  clear hz
  go_wp2_with fail
  go_returns
  exact ⟨rfl, Below.on HB2.out HZ.out⟩
set_option maxHeartbeats 4000000 in
set_option maxRecDepth 100000 in
theorem rolls_new (w : World) (s q f p bb T : Nat) (g k r ik ii : Int) (m : List Int) (nx tt bt : Int) (B : List Int) (X : List Nat) (ma : Option Addr) (mn mc : Nat) (mm : List Int) (h : SoAt w s q f p bb T g k r ik ii m nx tt bt B X) (hT : TextO w [p, bb, q, f, s] ma mn mc mm) (h1 : 1 ≤ mn) (h2 : mn ≤ 200) (hq : ¬ m = mm) (hsp : nx ≤ tt - 1) (hT1 : T + 1 < 1000000) (hk1 : k + 1 < 1000000) :
    Calls Try.prog 31 #[.pointer (some ⟨s, 0, none⟩), .slice ma mn mc] w fun e w' => FlowB.ButIn [p, bb, q, f, s] w w' ∧ ((e = .returned (.tuple #[.int .i64 k, .int .i64 nx, .int .i64 0]) ∧ SoAt w' s q f p bb (T + 1) g (k + 1) 0 k nx mm 0 tt bt (putS 400 ((T + 1) % 2) (slotB 400 (T + 1) (stB g (k + 1) 0 k nx mm)) 400 B) X) ∨ (e = .returned (.tuple #[.int .i64 0, .int .i64 0, .int .i64 9]) ∧ ∃ B', Torn T (stB g (k + 1) 0 k nx mm) B B' ∧ OffAt w' f p bb g (k + 1) 0 B')) := by
  have H := hid h
  have HT := hid hT
  obtain ⟨oa, oc, hsg, ho, -⟩ := h.sg
  have Ks := hid hsg
  have HO := hid ho
  have hbt := h.btt
  have hbb := h.bbt
  have hbn := h.bn
  have hbr := h.br
  have hbk := h.bk
  have hbg := h.bg
  have hml := hT.text.length
  have hsl := hsg.lt
  have hrk := h.bik
  have hri := h.bii
  obtain ⟨tv, kq⟩ := h.sl
  have kf := h.fe
  obtain ⟨set, af, kv, hd, hfa⟩ := h.dk
  have HFa := hid hfa
  have Kq := hid kq
  have Kf := hid kf
  have HD := hid hd
  have hql := kq.lt
  have hfl := kf.lt
  have hpl := hd.kp.lt
  have hbl := hd.kb.lt
  have nsp := h.nsp
  have nsb := h.nsb
  have nsq := h.nsq
  have nsf := h.nsf
  have nfp := h.nfp
  have nfb := h.nfb
  have nfq := h.nfq
  have nqp := h.nqp
  have nqb := h.nqb
  have htb := h.tb
  clear kq kf hd hfa
  have Hb := hid (Below.refl w.heap.size w)
  clear h hT hsg ho
  go_enter Try.func31, Try.ntmps31
  go_wp2_with fail
  refine (refuse_ok w s g k r ik ii (.slice oa m.length oc) nx tt bt q f ma mn mc Ks.out h1 h2).mono ?_
  rintro e w1 ⟨rfl, b1⟩
  have Ks1 := hid (Ks.out.below b1)
  have HB1 := hid b1
  have HO1 := hid (HO.out.butIn (ButIn.of_below b1))
  have HT1 := hid (HT.out.butIn (ButIn.of_below b1))
  have hs1 := b1.size
  clear b1
  go_wp2_with fail
  refine (again_any w1 s g k r ik ii nx tt bt q f false oa ma m.length oc mn mc m mm Ks1.out HO1.out.text HT1.out.text).mono ?_
  rintro e w2 ⟨rfl, b2⟩
  rw [decide_eq_false hq]
  have Ks2 := hid (Ks1.out.below b2)
  have HB2 := hid (Below.on HB1.out b2)
  have HT2 := hid (HT1.out.butIn (ButIn.of_below b2))
  have hs2 := HB2.out.size
  clear b2
  go_wp2_with fail
  refine wp_region_flow 10 (List.range 10) [] [] (by kernel_rfl) (by kernel_rfl) ?_
  apply Exists.intro
  refine ⟨fun w0 hb0 hF0 => ?_, ?_⟩
  · skip
    have y6 : ∀ w', (∃ x : Ext w0, w' = x.at_) → w'.cell? ⟨s, 6, none⟩ = some (.int .i64 nx) := fun w' ⟨x, hx⟩ => by rw [hx, ((Ks2.out.below hb0).below x.same).cell]; rfl
    have y7 : ∀ w', (∃ x : Ext w0, w' = x.at_) → w'.cell? ⟨s, 7, none⟩ = some (.int .i64 tt) := fun w' ⟨x, hx⟩ => by rw [hx, ((Ks2.out.below hb0).below x.same).cell]; rfl
    simp only [pick, List.range, List.range.loop, List.getElem?_toArray, List.getElem?_cons_succ, List.getElem?_cons_zero, Option.toList_some, List.cons_append, List.nil_append]
    repeat (first | (go_big_quiet_want; refine quiet_load_one 3 _ rfl ⟨s, 6, none⟩ rfl _ y6 _ Try.underlying3 rfl ?_; go_big_quiet_on; simp only [Act.put, List.setIfInBounds_toArray, List.set_cons_zero, List.set_cons_succ]) | (go_big_quiet_want; refine quiet_load_one 3 _ rfl ⟨s, 7, none⟩ rfl _ y7 _ Try.underlying3 rfl ?_; go_big_quiet_on; simp only [Act.put, List.setIfInBounds_toArray, List.set_cons_zero, List.set_cons_succ]) | go_big_quiet_step (fail))
    exact wpQuiet_nil rfl
  refine AlChk.nil ?_
  refine Walk.fin fun wa hwa _ _ => ?_
  simp only [List.drop_succ_cons, List.drop_zero]
  have Ks2a := hid (Ks2.out.below hwa)
  have HB2a := hid (Below.on HB2.out hwa)
  have HT2a := hid (HT2.out.butIn (ButIn.of_below hwa))
  have hs2a := hwa.size
  clear hwa
  have qs : ¬ tt - 1 < nx := by omega
  go_wp2_with fail
  refine wp_region_flow 25 [0, 1, 2, 3, 4, 5, 6, 7, 8, 9, 10, 11, 12, 13, 14, 15, 16, 17, 18, 19, 20] [24] [(.c 21, [22, 23], []), (.b 24, [], [])] (by kernel_rfl) (by kernel_rfl) ?_
  apply Exists.intro
  refine ⟨fun w0 hb0 hF0 => ?_, ?_⟩
  · skip
    have y0 : ∀ w', (∃ x : Ext w0, w' = x.at_) → w'.cell? ⟨s, 0, none⟩ = some (.int .i64 g) := fun w' ⟨x, hx⟩ => by rw [hx, ((Ks2a.out.below hb0).below x.same).cell]; rfl
    have y1 : ∀ w', (∃ x : Ext w0, w' = x.at_) → w'.cell? ⟨s, 1, none⟩ = some (.int .i64 k) := fun w' ⟨x, hx⟩ => by rw [hx, ((Ks2a.out.below hb0).below x.same).cell]; rfl
    have y6 : ∀ w', (∃ x : Ext w0, w' = x.at_) → w'.cell? ⟨s, 6, none⟩ = some (.int .i64 nx) := fun w' ⟨x, hx⟩ => by rw [hx, ((Ks2a.out.below hb0).below x.same).cell]; rfl
    simp only [pick, List.getElem?_toArray, List.getElem?_cons_succ, List.getElem?_cons_zero, Option.toList_some, List.cons_append, List.nil_append]
    repeat (first | (go_big_quiet_want; refine quiet_load_one 3 _ rfl ⟨s, 0, none⟩ rfl _ y0 _ Try.underlying3 rfl ?_; go_big_quiet_on; simp only [Act.put, List.setIfInBounds_toArray, List.set_cons_zero, List.set_cons_succ]) | (go_big_quiet_want; refine quiet_load_one 3 _ rfl ⟨s, 1, none⟩ rfl _ y1 _ Try.underlying3 rfl ?_; go_big_quiet_on; simp only [Act.put, List.setIfInBounds_toArray, List.set_cons_zero, List.set_cons_succ]) | (go_big_quiet_want; refine quiet_load_one 3 _ rfl ⟨s, 6, none⟩ rfl _ y6 _ Try.underlying3 rfl ?_; go_big_quiet_on; simp only [Act.put, List.setIfInBounds_toArray, List.set_cons_zero, List.set_cons_succ]) | go_big_quiet_step (fail))
    exact wpQuiet_nil rfl
  refine AlChk.one rfl (fun b => .pointer (some ⟨b, 0, none⟩)) (.cells (stC 0 0 0 0 0 (.slice none 0 0)) 100 (0, 0)) rfl (fun w3 hb3 hF3 => by go_simp; rfl) ?_
  refine AlChk.nil ?_
  refine Walk.call rfl 42 #[.slice ma mn mc] (fun v w' => ∃ a c, v = .slice a mn c ∧ TextAt w' a mn c mm ∧ ∀ p : Addr, a = some p → wa.heap.size ≤ p.block ∧ ∃ cs, w'.heap[p.block]? = some (.cells cs 5 (0, 0))) (fun v w' w'' h k => by obtain ⟨a, c, h1, h2, h3⟩ := h; exact ⟨a, c, h1, h2.below k, fun p hp => ⟨(h3 p hp).1, by obtain ⟨cs, hc⟩ := (h3 p hp).2; exact ⟨cs, by rw [k.block _ (by rcases Nat.lt_or_ge p.block w'.heap.size with hh | hh; exact hh; rw [Array.getElem?_eq_none hh] at hc; simp at hc)]; exact hc⟩⟩⟩) rfl (fun w1' hb1 hF1 => ⟨by go_simp, ?_⟩) ?_
  · refine (clone_any (HT2a.out.text.below hb1) (by omega)).mono ?_
    rintro e w3' ⟨a', c', rfl, hb3, ht3, ho3⟩
    exact ⟨_, rfl, hb3, a', c', rfl, ht3, fun p hp => ⟨Nat.le_trans hb1.size (ho3 p hp).1, (ho3 p hp).2⟩⟩
  rintro v1 w1' hb1 hF1 ⟨a3, c3, rfl, -⟩
  apply Exists.intro
  refine ⟨fun w4 hb4 hF4 => ?_, ?_⟩
  · skip
    simp only [pick, List.getElem?_toArray, List.getElem?_cons_succ, List.getElem?_cons_zero, Option.toList_some, List.cons_append, List.nil_append, Act.put, List.setIfInBounds_toArray, List.set_cons_zero, List.set_cons_succ]
    repeat (first | go_big_quiet_step (fail))
    exact wpQuiet_nil rfl
  refine AlChk.nil ?_
  refine Walk.blk rfl (fun b => .pointer (some ⟨b, 0, none⟩)) (.cells (stC 0 0 0 0 0 (.slice none 0 0)) 100 (0, 0)) (by simp) ?_
  intro tb wz hbz_ hFz hge _
  apply Exists.intro
  refine ⟨fun w4 hb4 hF4 => wpQuiet_nil rfl, ?_⟩
  refine AlChk.nil ?_
  refine Walk.fin fun w5 h5 hF5 _ => ?_
  simp only [List.drop_succ_cons, List.drop_zero]
  have kb5 : Blk w5 tb (stC 0 0 0 0 0 (.slice none 0 0)) 100 := hF5.2
  have Kt5 := hid kb5
  have htb5 := kb5.lt
  have HB5 := hid (Below.on HB2a.out h5)
  have Ks5 := hid (Ks2a.out.below h5)
  have hs5 := h5.size
  obtain ⟨a4, c4, hq4, ht4, ho4⟩ := hF5.1.2
  cases hq4
  have hne : ∀ x : Addr, a3 = some x → x.block ≠ tb := fun x hx e => by
    obtain ⟨-, cs, hc⟩ := ho4 x hx
    rw [e, hF5.2] at hc
    simp only [Option.some.injEq, Obj.cells.injEq] at hc
    exact absurd hc.2.1 (by decide)
  have HT5 := hid ht4
  have HO5 := hid (fun (x : Addr) (hx : a3 = some x) => (ho4 x hx).1)
  have HN5 := hid hne
  clear h5 hF5 ht4 ho4 kb5 hne hbz_ hFz
  go_wp2_with (first
     | (
        refine wpList_store_blk rfl 100 _ _ rfl tb (stC g (k + 1) 0 k nx (.slice a3 mn c3)) rfl rfl _ 100 Kt5.out 6 size_state rfl rfl (stC_ones _ _ _ _ _ _ _ _) ?_
        intro w6 hb6 hk6
        have Kt6 := hid hk6
        have HB6 := hid (hb6.below HB5.out (by have := HB5.out.size; omega) (by omega))
        have Ks6 := hid (hb6.blk Ks5.out (by omega))
        have HT6 := hid (show TextO w6 [p, bb, q, f, s] a3 mn c3 mm from ⟨HT5.out.butIn (S := [tb]) (fun x hx => by have := HN5.out x hx; simpa using this) (ButIn.of_but hb6 (by simp)), fun x hx => by have := HO5.out x hx; simp only [List.mem_cons, List.not_mem_nil, or_false]; omega⟩)
        have hs6 := hb6.size
        clear hb6 hk6)
     | (refine wpList_load_blk rfl 100 _ rfl tb rfl _ 100 Kt6.out _ Try.underlying100 rfl 6 size_state rfl ?_))
  refine (sraise_any w6 s f (sgC g k r ik ii (.slice oa m.length oc) nx tt bt q f false) (.slice a3 mn c3) g (k + 1) 0 k nx g k r Ks6.out rfl (Kf.out.below HB6.out) nsf).mono ?_
  rintro e wd ⟨rfl, bd, kd⟩
  rw [lk_key k r, Int.max_self] at kd
  have Ksd := hid (bd.blk Ks6.out nsf)
  have Ktd := hid (bd.blk Kt6.out (by omega))
  have Kfd := hid kd
  have HXd := hid (show FlowB.ButIn [f] w wd from ButIn.on (ButIn.of_below HB6.out) (ButIn.of_but bd (by simp)))
  have HTd := hid (HT6.out.butIn (ButIn.of_but bd (by simp)))
  have hsd := bd.size
  clear bd kd Ks6 Kt6 HT6
  go_wp2_with (refine wpList_load_blk rfl 100 _ rfl tb rfl _ 100 Ktd.out _ Try.underlying100 rfl 6 size_state rfl ?_)
  refine (sreplace_all wd (X ++ [p, bb, q, f, s]) s q f p bb 400 2 B set af kv tv (.slice oa m.length oc) 0 T g (k + 1) 0 k nx g k r ik ii nx tt bt a3 mn c3 mm Ksd.out (HXd.out.blk Kq.out (by simp; omega)) (HD.out.butQ HXd.out (by omega) (by omega)) (HFa.out.butIn (ButIn.wide HXd.out (by simp))) (by simp) ⟨HTd.out.text, fun x hx => by have := HTd.out.out x hx; simp only [List.mem_cons, List.not_mem_nil, or_false] at this ⊢; omega⟩ h2 (by omega) (by omega) (by omega) ⟨by omega, by omega⟩ ⟨by omega, by omega, by omega⟩ ⟨by omega, by omega⟩ ⟨by omega, by omega⟩ ⟨by omega, by omega⟩ ⟨by omega, by omega⟩ ⟨by omega, by omega⟩).mono ?_
  rintro e w7 ⟨b7, hok | hbad⟩
  rotate_left
  · obtain ⟨rfl, B7, s7, f7, k7', h7, d7⟩ := hbad
    rw [Nat.zero_add] at h7
    have Kf7 := hid (b7.blk Kfd.out (by simp; omega))
    have HX7 := hid (ButIn.on (S := [p, bb, q, f, s]) (ButIn.wide HXd.out (by simp)) (ButIn.wide b7 (by simp)))
    have HD7 := hid d7
    have H7 := hid h7
    clear b7 d7 h7
    go_wp2_with fail
    go_returns
    exact ⟨HX7.out, .inr ⟨rfl, B7, H7.out, ⟨Kf7.out, _, _, _, HD7.out⟩⟩⟩
  obtain ⟨rfl, k7, ⟨s7, f7, k7', d7, fa7⟩, a7, c7', q7, t7, o7⟩ := hok
  rw [Nat.zero_add] at d7
  have Ks7 := hid k7
  have Kq7 := hid q7
  have HD7 := hid d7
  have HFa7 := hid fa7
  have Kf7 := hid (b7.blk Kfd.out (by simp; omega))
  have HX7 := hid (ButIn.on (S := [p, bb, q, f, s]) (ButIn.wide HXd.out (by simp)) (ButIn.wide b7 (by simp)))
  have HT7 := hid (show TextO w7 [p, bb, q, f, s] a3 mn c3 mm from ⟨HTd.out.text.butIn (fun x hx => by have := HTd.out.out x hx; simp only [List.mem_cons, List.not_mem_nil, or_false] at this ⊢; omega) b7, HTd.out.out⟩)
  clear b7 k7 d7 fa7 q7 t7 o7
  go_wp2_with (
        refine wpList_store_cell rfl 3 _ _ rfl s 6 (.int .i64 0) rfl rfl rfl rfl _ 104 Ks7.out (by simp [sgC]) size_dint ?_
        intro w8 hb8 hk8
        have Ks8 := hid (show Blk w8 s (sgC g (k + 1) 0 k nx (.slice a3 mn c3) 0 tt bt q f false) 104 from hk8)
        have HB8 := hid hb8
        clear hb8 hk8)
  try simp only [Act.put]
  refine wp_region_flow 13 (List.range 13) [] [] (by kernel_rfl) (by kernel_rfl) ?_
  apply Exists.intro
  refine ⟨fun w0 hb0 hF0 => ?_, ?_⟩
  · skip
    have y3 : ∀ w', (∃ x : Ext w0, w' = x.at_) → w'.cell? ⟨s, 3, none⟩ = some (.int .i64 k) := fun w' ⟨x, hx⟩ => by rw [hx, ((Ks8.out.below hb0).below x.same).cell]; rfl
    have y4 : ∀ w', (∃ x : Ext w0, w' = x.at_) → w'.cell? ⟨s, 4, none⟩ = some (.int .i64 nx) := fun w' ⟨x, hx⟩ => by rw [hx, ((Ks8.out.below hb0).below x.same).cell]; rfl
    simp only [pick, List.range, List.range.loop, List.getElem?_toArray, List.getElem?_cons_succ, List.getElem?_cons_zero, Option.toList_some, List.cons_append, List.nil_append]
    repeat (first | (go_big_quiet_want; refine quiet_load_one 3 _ rfl ⟨s, 3, none⟩ rfl _ y3 _ Try.underlying3 rfl ?_; go_big_quiet_on; simp only [Act.put, List.setIfInBounds_toArray, List.set_cons_zero, List.set_cons_succ]) | (go_big_quiet_want; refine quiet_load_one 3 _ rfl ⟨s, 4, none⟩ rfl _ y4 _ Try.underlying3 rfl ?_; go_big_quiet_on; simp only [Act.put, List.setIfInBounds_toArray, List.set_cons_zero, List.set_cons_succ]) | go_big_quiet_step (fail))
    exact wpQuiet_nil rfl
  refine AlChk.nil ?_
  refine Walk.fin fun wz hz _ _ => ?_
  simp only [List.drop_succ_cons, List.drop_zero]
  have HZ := hid hz
  clear hz
  go_wp2_with fail
  go_returns
  have hlen : mm.length = mn := hml
  have hsz := H.out
  subst hlen
  refine ⟨ButIn.on HX7.out (ButIn.on (ButIn.of_but HB8.out (by simp)) (ButIn.of_below HZ.out)), .inl ⟨rfl, ?_⟩⟩
  have hXb := hsz.xb
  have hs78 := HB8.out.size
  have hs89 := HZ.out.size
  have hs67 := HX7.out.size
  exact ⟨⟨a3, c3, Ks8.out.below HZ.out, (HT7.out.butIn (ButIn.of_but HB8.out (by simp))).butIn (ButIn.of_below HZ.out), fun x hx => ⟨by
    obtain ⟨x', o', hq', hl', -⟩ := HT7.out.text.at_ (by omega)
    rw [hq'] at hx
    cases hx
    show x' < _
    omega, fun hm => by have h1 := hXb _ hm; have h2 := HO5.out x hx; omega⟩⟩, ⟨_, (HB8.out.blk Kq7.out (by omega)).below HZ.out⟩, (HB8.out.blk Kf7.out (by omega)).below HZ.out, ⟨_, _, _, (HD7.out.but HB8.out (by omega) (by omega)).below HZ.out, (HFa7.out.butIn (ButIn.of_but HB8.out (by simp))).butIn (ButIn.of_below HZ.out)⟩, fun b hb => by have := hXb b hb; omega, hsz.nsp, hsz.nsb, hsz.nsq, hsz.nsf, hsz.nfp, hsz.nfb, hsz.nfq, hsz.nqp, hsz.nqb, h2, by omega, hsz.bg, ⟨by omega, by omega⟩, ⟨by omega, by omega⟩, hsz.bk, ⟨by omega, by omega⟩, ⟨by omega, by omega⟩, hsz.btt, hsz.bbt⟩
end Go.Proofs.Ytmpgnpkodapidaa

namespace Go.Proofs.Ytmpgnpkodapidaa
open Go.ChangeShapes Go.WideShapes Go.ChangeAt Go.RowKit

set_option maxHeartbeats 4000000 in
set_option maxRecDepth 100000 in
theorem begins_any (w : World) (s q f p bb z n : Nat) (B : List Int) (af : Int) (kv tv mvs : Value) (a0 T : Nat) (g0 k0 r0 ik ii gs ks rs iks iis fg fk fh G K R nx tt bt : Int) (ma : Option Addr) (mn mc : Nat) (m : List Int)
    (hk : Blk w s (sgC gs ks rs iks iis mvs nx tt bt q f false) 104) (kq : Blk w q (slC p a0 T tv false) 88) (kf : Blk w f #[.int .i64 fg, .int .i64 fk, .int .i64 fh] 96) (hd : DkAt w p bb z n B (.slice none 0 0) true false af kv) (hT : TextO w [p, bb, q, f, s] ma mn mc m) (hmn : mn ≤ 200) (hz : 272 ≤ z) (ha : a0 + 2 ≤ n) (hu : T < 1000000) (nqp : q ≠ p) (nqb : q ≠ bb) (nsp : s ≠ p) (nsb : s ≠ bb) (nsq : s ≠ q) (nsf : s ≠ f) (nfp : f ≠ p) (nfb : f ≠ bb) (nfq : f ≠ q)
    (hG : max g0 fg = G) (hL : lk k0 r0 fk fh = (K, R)) (bG : 0 ≤ G ∧ G < 1000000) (bK : 0 ≤ K ∧ K < 1000000) (bR : 0 ≤ R ∧ R < 1000000) (bi : 0 ≤ ik ∧ ik < 1000000) (bj : 0 ≤ ii ∧ ii < 1000000) :
    Calls Try.prog 53 #[.pointer (some ⟨s, 0, none⟩), .agg (stC g0 k0 r0 ik ii (.slice ma mn mc))] w fun e w' => e = .returned (.int .i64 0) ∧ FlowB.ButIn [p, bb, q, f, s] w w' ∧ Blk w' s (sgC (G + 1) K R ik ii (.slice ma mn mc) R tt bt q f false) 104 ∧ (∃ tv', Blk w' q (slC p a0 ((T : Int) + 1) tv' false) 88) ∧ Blk w' f #[.int .i64 (max fg (G + 1)), .int .i64 (lk fk fh K R).1, .int .i64 (lk fk fh K R).2] 96 ∧ DkAt w' p bb z n (putS z (a0 + (T + 1) % 2) (slotB z (T + 1) (stB (G + 1) K R ik ii m)) z B) (.slice none 0 0) true false af kv := by
  have kf0 := hid kf
  have kq0 := hid kq
  have hd0 := hid hd
  have hT0 := hid hT
  have b1 := (Below.refl w.heap.size w).alloc (Nat.le_refl _) (.cells (stC g0 k0 r0 ik ii (.slice ma mn mc)) 100 (0, 0))
  have Kt := hid (Blk.new (w := w) (n := w.heap.size) rfl (stC g0 k0 r0 ik ii (.slice ma mn mc)) 100)
  have Hb := hid b1
  have hbz := b1.size
  have Hbs := hid (show w.heap.size + 1 = (w.alloc (.cells (stC g0 k0 r0 ik ii (.slice ma mn mc)) 100 (0, 0))).heap.size by simp only [World.size_alloc])
  clear b1 
  have Kg := hid (hk.old (.cells (stC g0 k0 r0 ik ii (.slice ma mn mc)) 100 (0, 0)))
  have Kq := hid (kq.old (.cells (stC g0 k0 r0 ik ii (.slice ma mn mc)) 100 (0, 0)))
  have Kf := hid (kf.old (.cells (stC g0 k0 r0 ik ii (.slice ma mn mc)) 100 (0, 0)))
  have HD := hid (hd.below Hb.out)
  have HT := hid (hT.butIn (ButIn.of_below Hb.out))
  have hgl := hk.lt
  have hql := kq.lt
  have hfl := kf.lt
  have hpl := hd.kp.lt
  have hbl := hd.kb.lt
  have hz2 := hd.z2
  have hml := hT.text.length
  have HG := hid hG
  have HL := hid hL
  clear kq hk kf hd hT hG hL
  have c10 : (w.alloc (.cells (stC g0 k0 r0 ik ii (.slice ma mn mc)) 100 (0, 0))).cell? ⟨s, 10, none⟩ = some (.pointer (some ⟨f, 0, none⟩)) := by rw [Kg.out.cell]; rfl
  go_enter Try.func53, Try.ntmps53
  go_wp2_with fail
  clear c10
  refine (marks_any f fg fk fh 96 _ Kf.out).mono ?_
  rintro e w1 ⟨rfl, b1⟩
  have HB1 := hid (Below.on Hb.out b1)
  have Kg1 := hid (Kg.out.below b1)
  have Kt1 := hid (Kt.out.below b1)
  have hs1 := HB1.out.size
  clear b1
  go_wp2_with (first
     | (
        refine wpList_store_blk rfl 94 _ _ rfl (w1.heap.size) #[.int .i64 fg, .int .i64 fk, .int .i64 fh] rfl rfl _ 94 (Blk.new rfl #[.int .i64 0, .int .i64 0, .int .i64 0] _) 3 size_pfence rfl rfl (by simp [Value.oneCell']) ?_
        intro w2 hb2 hk2
        have h2 := hb2.below ((Below.refl w1.heap.size w1).alloc (Nat.le_refl _) _) (by simp only [World.size_alloc]; omega) (Nat.le_refl _)
        have HB2 := hid (Below.on HB1.out h2)
        have hs2 := h2.size
        have ht2 := hk2.lt
        have Kn2 := hid hk2
        have Kg2 := hid (Kg1.out.below h2)
        have Kt2 := hid (Kt1.out.below h2)
        have d0 : w2.cell? ⟨w.heap.size, 0, none⟩ = some (.int .i64 g0) := by rw [Kt2.out.cell]; rfl
        have d1 : w2.cell? ⟨w.heap.size, 1, none⟩ = some (.int .i64 k0) := by rw [Kt2.out.cell]; rfl
        have d2 : w2.cell? ⟨w.heap.size, 2, none⟩ = some (.int .i64 r0) := by rw [Kt2.out.cell]; rfl
        
        clear hb2 hk2 h2)
     | (refine wpList_load_blk rfl 94 _ rfl (w1.heap.size) rfl _ 94 Kn2.out _ Try.underlying94 rfl 3 size_pfence rfl ?_))
  clear d0 d1 d2
  refine (least_any g0 k0 r0 fg fk fh w2).mono ?_
  rintro e w3 ⟨rfl, b3⟩
  rw [HG.out, HL.out]
  have HB3 := hid (Below.on HB2.out b3)
  have Kg3 := hid (Kg2.out.below b3)
  have Kt3 := hid (Kt2.out.below b3)
  have hs3 := b3.size
  clear b3
  go_wp2_with (first
     | (
        refine wpList_store_blk rfl 94 _ _ rfl (w3.heap.size) #[.int .i64 G, .int .i64 K, .int .i64 R] rfl rfl _ 94 (Blk.new rfl #[.int .i64 0, .int .i64 0, .int .i64 0] _) 3 size_pfence rfl rfl (by simp [Value.oneCell']) ?_
        intro w4 hb4 hk4
        have h4 := hb4.below ((Below.refl w3.heap.size w3).alloc (Nat.le_refl _) _) (by simp only [World.size_alloc]; omega) (Nat.le_refl _)
        have HB4 := hid (Below.on HB3.out h4)
        have hs4 := h4.size
        have ht4 := hk4.lt
        have Kn4 := hid hk4
        have Kg4 := hid (Kg3.out.below h4)
        have Kt4 := hid (Kt3.out.below h4)
        have d0 : w4.cell? ⟨w3.heap.size, 0, none⟩ = some (.int .i64 G) := by rw [Kn4.out.cell]; rfl
        have d1 : w4.cell? ⟨w3.heap.size, 1, none⟩ = some (.int .i64 K) := by rw [Kn4.out.cell]; rfl
        have d2 : w4.cell? ⟨w3.heap.size, 2, none⟩ = some (.int .i64 R) := by rw [Kn4.out.cell]; rfl
        
        clear hb4 hk4 h4)
     | (refine wpList_load_mid rfl 98 _ rfl (w.heap.size) 3 rfl _ _ (show w4.rangeAt (w.heap.size) 3 [.int .i64 ik, .int .i64 ii, .slice ma mn mc] from fun j u hu => by
        rw [Kt4.out.cell]
        match j, hu with
        | 0, hu => exact hu
        | 1, hu => exact hu
        | 2, hu => exact hu
        | n + 3, hu => simp at hu) Try.underlying98 rfl size_intent ?_)
     | (
        refine wpList_store_blk rfl 100 _ _ rfl (w4.heap.size) (stC (G + 1) K R ik ii (.slice ma mn mc)) rfl rfl _ 100 (Blk.new rfl (stC 0 0 0 0 0 (.slice none 0 0)) _) 6 size_state rfl rfl (stC_ones _ _ _ _ _ _ _ _) ?_
        intro w5 hb5 hk5
        have h5 := hb5.below ((Below.refl w4.heap.size w4).alloc (Nat.le_refl _) _) (by simp only [World.size_alloc]; omega) (Nat.le_refl _)
        have HB5 := hid (Below.on HB4.out h5)
        have hs5 := h5.size
        have ht5 := hk5.lt
        have Kn5 := hid hk5
        have Kg5 := hid (Kg4.out.below h5)
        have Kt5 := hid (Kt4.out.below h5)
        
        clear hb5 hk5 h5)
     | (refine wpList_load_blk rfl 100 _ rfl (w4.heap.size) rfl _ 100 Kn5.out _ Try.underlying100 rfl 6 size_state rfl ?_))
  clear d0 d1 d2
  refine (sraise_any w5 s f (sgC gs ks rs iks iis mvs nx tt bt q f false) (.slice ma mn mc) (G + 1) K R ik ii fg fk fh Kg5.out rfl ((show Blk w f #[.int .i64 fg, .int .i64 fk, .int .i64 fh] 96 from kf0.out).below HB5.out) nsf).mono ?_
  rintro e w6 ⟨rfl, b6, k6⟩
  have Kg6 := hid (b6.blk Kg5.out nsf)
  have Kn6 := hid (b6.blk Kn5.out (by omega))
  have Kf6 := hid k6
  have HX6 := hid (show FlowB.ButIn [f] w w6 from ButIn.on (ButIn.of_below HB5.out) (ButIn.of_but b6 (by simp)))
  have hs6 := b6.size
  clear b6 k6
  go_wp2_with (refine wpList_load_blk rfl 100 _ rfl (w4.heap.size) rfl _ 100 Kn6.out _ Try.underlying100 rfl 6 size_state rfl ?_)
  refine (sreplace_ok w6 s q f p bb z n B af kv tv mvs a0 T (G + 1) K R ik ii gs ks rs iks iis nx tt bt ma mn mc m Kg6.out (HX6.out.blk kq0.out (by simp; omega)) (hd0.out.butQ HX6.out (by omega) (by omega)) ⟨hT0.out.text.butIn (fun x hx => by have := hT0.out.out x hx; simp only [List.mem_cons, List.not_mem_nil, or_false] at this ⊢; omega) HX6.out, fun x hx => by have := hT0.out.out x hx; simp only [List.mem_cons, List.not_mem_nil, or_false] at this ⊢; omega⟩ hmn hz ha (by omega) ⟨by omega, by omega⟩ ⟨by omega, by omega, by omega⟩ ⟨by omega, by omega⟩ ⟨by omega, by omega⟩ ⟨by omega, by omega⟩ ⟨by omega, by omega⟩ ⟨by omega, by omega⟩).mono ?_
  rintro e w7 ⟨rfl, b7, k7, d7, a7, c7', q7, t7, o7⟩
  have Ks7 := hid k7
  have Kq7 := hid q7
  have HD7 := hid d7
  have Kf7 := hid (b7.blk Kf6.out (by simp; omega))
  have Kn7 := hid (b7.blk Kn6.out (by simp; omega))
  have HX7 := hid (ButIn.on (S := [p, bb, q, f, s]) (ButIn.wide HX6.out (by simp)) (ButIn.wide b7 (by simp)))
  have d2 : w7.cell? ⟨w4.heap.size, 2, none⟩ = some (.int .i64 R) := by rw [Kn7.out.cell]; rfl
  have HT7 := hid t7
  have HO7 := hid o7
  clear b7 k7 d7 q7 t7 o7
  go_wp2_with (
        refine wpList_store_cell rfl 3 _ _ rfl s 6 (.int .i64 R) rfl rfl rfl rfl _ 104 Ks7.out (by simp [sgC]) size_dint ?_
        intro w8 hb8 hk8
        have Ks8 := hid (show Blk w8 s (sgC (G + 1) K R ik ii (.slice ma mn mc) R tt bt q f false) 104 from hk8)
        have HB8 := hid hb8
        clear hb8 hk8)
  go_returns
  refine ⟨rfl, ButIn.on HX7.out (ButIn.of_but HB8.out (by simp)), Ks8.out, ⟨_, HB8.out.blk Kq7.out (by omega)⟩, HB8.out.blk Kf7.out (by omega), HD7.out.but HB8.out (by omega) (by omega)⟩
end Go.Proofs.Ytmpgnpkodapidaa

namespace Go.Proofs.Ytmpgnpkodapidaa
open Go.ChangeShapes Go.WideShapes Go.ChangeAt Go.RowKit

theorem lk_old (k0 r0 fk fh : Int) (h : k0 < fk ∨ k0 = fk ∧ r0 ≤ fh) : lk k0 r0 fk fh = (fk, fh) := by
  unfold lk
  obtain h | ⟨rfl, h⟩ := h
  · rw [if_neg (by omega), if_pos h]
  · rw [if_neg (Int.lt_irrefl _), if_neg (Int.lt_irrefl _), Int.max_eq_right h]
theorem lk_self (k r : Int) : lk k r k r = (k, r) := lk_up k r r (Int.le_refl r)
set_option maxHeartbeats 4000000 in
set_option maxRecDepth 100000 in
theorem sopens_fresh (w : World) (f p bb : Nat) (kv : Value) (tt bt : Int) (hd : DkAt w p bb 400 2 zerosD (.slice none 0 0) true false 0 kv) (kf : Blk w f #[.int .i64 0, .int .i64 0, .int .i64 0] 96) (hfp : f ≠ p) (hfb : f ≠ bb) (ht : 2 ≤ tt ∧ tt ≤ 65536) (hb : 1 ≤ bt ∧ bt ≤ 16) (X : List Nat) (hX : ∀ b ∈ X, b < w.heap.size) :
    Calls Try.prog 29 #[.pointer (some ⟨p, 0, none⟩), .int .i64 0, .pointer (some ⟨f, 0, none⟩), .int .i64 tt, .int .i64 bt] w fun e w' => ∃ s q, e = .returned (.tuple #[.pointer (some ⟨s, 0, none⟩), .int .i64 0]) ∧ w.heap.size ≤ s ∧ w.heap.size ≤ q ∧ w.heap.size ≤ w'.heap.size ∧ FlowB.ButIn [p, bb, f] w w' ∧ SoAt w' s q f p bb 1 1 0 0 0 0 [] 0 tt bt (putS 400 ((0 + 1) % 2) (slotB 400 (0 + 1) (stB (0 + 1) 0 0 0 0 [])) 400 zerosD) X := by
  have HD := hid hd
  have Kf := hid kf
  have hfl := kf.lt
  have hpl := hd.kp.lt
  have hbl := hd.kb.lt
  have g0' : ¬ tt < 2 := by omega
  have g1' : ¬ 65536 < tt := by omega
  have g2' : ¬ bt < 1 := by omega
  have g3' : ¬ 16 < bt := by omega
  have Hb := hid (Below.refl w.heap.size w)

  clear hd kf
  go_enter Try.func29, Try.ntmps29
  go_wp2_with fail
  refine (open_good w p bb 400 2 zerosD false 0 kv 0 HD.out (by omega) (by omega)).mono ?_
  rintro e w1 ⟨q, ta, tn, tc, rfl, hq, b1, k1, t1⟩
  rw [openS_zero] at k1 t1
  have HB1 := hid b1
  have Kq1 := hid k1
  have HT1 := hid t1
  have HD1 := hid (HD.out.below b1)
  have hs1 := b1.size
  have hql := k1.lt
  clear b1 k1 t1
  go_wp2_with fail
  refine (room_any w1 q p _ _ _ _ bb 400 2 zerosD _ _ _ _ _ HD1.out Kq1.out (by omega)).mono ?_
  rintro e w2 ⟨rfl, b2⟩
  have HB2 := hid (Below.on HB1.out b2)
  have Kq2 := hid (Kq1.out.below b2)
  have HD2 := hid (HD1.out.below b2)
  have HT2 := hid (HT1.out.text.below b2)
  have hs2 := b2.size
  clear b2
  rw [show (((400 : Nat) : Int) - 18) = 382 from rfl]
  go_wp2_with fail
  have c0 := (Below.refl w2.heap.size w2).alloc (Nat.le_refl _) (.cells (stC 0 0 0 0 0 (.slice none 0 0)) 100 (0, 0))
  refine (turn_any (w2.alloc (.cells (stC 0 0 0 0 0 (.slice none 0 0)) 100 (0, 0))) q p _ _ _ _ (Kq2.out.below c0)).mono ?_
  rintro e w3 ⟨rfl, b3⟩
  have K0 := hid ((Blk.new (w := w2) (n := w2.heap.size) rfl (stC 0 0 0 0 0 (.slice none 0 0)) 100).below b3)
  have b3' := Below.on c0 b3
  have HB3 := hid (Below.on HB2.out b3')
  have Kq3 := hid (Kq2.out.below b3')
  have HD3 := hid (HD2.out.below b3')
  have HT3 := hid (HT2.out.below b3')
  have hs3 := b3'.size
  have h03 := K0.out.lt
  clear b3 b3' c0
  have HBS := hid (fun W : World => build_signer tt bt q f W)
  go_wp2_with (first
     | (refine wpList_buildv rfl 104 _ rfl [(2, .int .i64 tt), (3, .int .i64 bt), (4, .pointer (some ⟨q, 0, none⟩)), (5, .pointer (some ⟨f, 0, none⟩))] rfl _ HBS.out ?_)
     | (refine wpList_load_blk rfl 100 _ rfl (w2.heap.size) rfl _ 100 (K0.out.old (.cells (sgC 0 0 0 0 0 (.slice none 0 0) 0 tt bt q f false) 104 (0, 0))) _ Try.underlying100 rfl 6 size_state rfl ?_))
  have c3 := (Below.refl w3.heap.size w3).alloc (Nat.le_refl _) (.cells (sgC 0 0 0 0 0 (.slice none 0 0) 0 tt bt q f false) 104 (0, 0))
  have hc3 : (w3.alloc (.cells (sgC 0 0 0 0 0 (.slice none 0 0) 0 tt bt q f false) 104 (0, 0))).heap.size = w3.heap.size + 1 := by simp only [World.size_alloc]
  refine (begins_any (w3.alloc (.cells (sgC 0 0 0 0 0 (.slice none 0 0) 0 tt bt q f false) 104 (0, 0))) w3.heap.size q f p bb 400 2 zerosD 0 kv _ (.slice none 0 0) 0 0 0 0 0 0 0 0 0 0 0 0 0 0 0 0 0 0 0 tt bt none 0 0 [] (Blk.new rfl (sgC 0 0 0 0 0 (.slice none 0 0) 0 tt bt q f false) 104) (Kq3.out.below c3) ((Kf.out.below HB3.out).below c3) (HD3.out.below c3) ⟨TextAt.nil, fun x hx => by cases hx⟩ (by omega) (by omega) (by omega) (by omega) (by omega) (by omega) (by omega) (by omega) (by omega) (by omega) hfp hfb (by omega) rfl rfl ⟨by omega, by omega⟩ ⟨by omega, by omega⟩ ⟨by omega, by omega⟩ ⟨by omega, by omega⟩ ⟨by omega, by omega⟩).mono ?_
  rintro e w4 ⟨rfl, b4, k4, ⟨tv4, q4⟩, f4, d4⟩
  rw [lk_self] at f4
  rw [Nat.zero_add] at d4
  have H4 := hid (show w4.heap.size ≥ w3.heap.size + 1 ∧ SoAt w4 w3.heap.size q f p bb 1 1 0 0 0 0 [] 0 tt bt (putS 400 ((0 + 1) % 2) (slotB 400 (0 + 1) (stB (0 + 1) 0 0 0 0 [])) 400 zerosD) X from ⟨by have := b4.size; omega, ⟨⟨none, 0, k4, ⟨TextAt.nil, fun x hx => by cases hx⟩, fun x hx => by cases hx⟩, ⟨_, q4⟩, f4, ⟨_, _, _, d4, .inl rfl⟩, fun b hb => by have := hX b hb; have := b4.size; omega, by omega, by omega, by omega, by omega, hfp, hfb, by omega, by omega, by omega, by simp, by omega, ⟨by omega, by omega⟩, ⟨by omega, by omega⟩, ⟨by omega, by omega⟩, ⟨by omega, by omega⟩, ⟨by omega, by omega⟩, ⟨by omega, by omega⟩, ht, hb⟩⟩)
  have HX4 := hid (show FlowB.ButIn [p, bb, f] w w4 from by
    have x := Below.on HB3.out c3
    refine ⟨b4.os.trans x.os, b4.tape.trans x.tape, b4.output.trans x.output, Nat.le_trans x.size b4.size, fun k hk hn => ?_⟩
    rw [b4.block k (by omega) (by simp only [List.mem_cons, List.not_mem_nil, or_false, not_or] at hn ⊢; omega)]
    exact x.block k hk)
  clear b4 k4 q4 f4 d4 c3
  go_wp2_with fail
  go_returns
  exact ⟨_, _, rfl, by omega, by omega, by have := H4.out.1; omega, HX4.out, H4.out.2⟩
set_option maxHeartbeats 4000000 in
set_option maxRecDepth 100000 in
theorem sopens_state (w : World) (f p bb T : Nat) (B : List Int) (af : Int) (kv : Value) (fg fk fh g0 k0 r0 ik ii : Int) (m : List Int) (tt bt : Int) (hd : DkAt w p bb 400 2 B (.slice none 0 0) true false af kv) (kf : Blk w f #[.int .i64 fg, .int .i64 fk, .int .i64 fh] 96) (hfp : f ≠ p) (hfb : f ≠ bb) (ht : 2 ≤ tt ∧ tt ≤ 65536) (hb : 1 ≤ bt ∧ bt ≤ 16)
    (hO : openS 400 B 0 = ((T : Int), (stB g0 k0 r0 ik ii m))) (hT : 1 ≤ T) (hT2 : T + 1 < 1000000) (hm : m.length ≤ 200) (hg : 0 ≤ g0 ∧ g0 ≤ fg) (hr : 0 ≤ k0 ∧ 0 ≤ r0 ∧ r0 < 1000000) (hl : k0 < fk ∨ k0 = fk ∧ r0 ≤ fh) (bg : fg + 1 < 1000000) (bk : fk < 1000000) (br : 0 ≤ fh ∧ fh < 1000000) (bi : 0 ≤ ik ∧ ik < 1000000) (bj : 0 ≤ ii ∧ ii < 1000000) (X : List Nat) (hX : ∀ b ∈ X, b < w.heap.size) :
    Calls Try.prog 29 #[.pointer (some ⟨p, 0, none⟩), .int .i64 0, .pointer (some ⟨f, 0, none⟩), .int .i64 tt, .int .i64 bt] w fun e w' => ∃ s q, e = .returned (.tuple #[.pointer (some ⟨s, 0, none⟩), .int .i64 0]) ∧ w.heap.size ≤ s ∧ w.heap.size ≤ q ∧ w.heap.size ≤ w'.heap.size ∧ FlowB.ButIn [p, bb, f] w w' ∧ SoAt w' s q f p bb (T + 1) (fg + 1) fk fh ik ii m fh tt bt (putS 400 ((T + 1) % 2) (slotB 400 (T + 1) (stB (fg + 1) fk fh ik ii m)) 400 B) X := by
  have HD := hid hd
  have Kf := hid kf
  have hfl := kf.lt
  have hpl := hd.kp.lt
  have hbl := hd.kb.lt
  have g0' : ¬ tt < 2 := by omega
  have g1' : ¬ 65536 < tt := by omega
  have g2' : ¬ bt < 1 := by omega
  have g3' : ¬ 16 < bt := by omega
  have Hb := hid (Below.refl w.heap.size w)
  have HO := hid hO
  clear hd kf hO
  go_enter Try.func29, Try.ntmps29
  go_wp2_with fail
  refine (open_good w p bb 400 2 B false af kv 0 HD.out (by omega) (by omega)).mono ?_
  rintro e w1 ⟨q, ta, tn, tc, rfl, hq, b1, k1, t1⟩
  rw [HO.out] at k1 t1
  have HB1 := hid b1
  have Kq1 := hid k1
  have HT1 := hid t1
  have HD1 := hid (HD.out.below b1)
  have hs1 := b1.size
  have hql := k1.lt
  clear b1 k1 t1
  go_wp2_with fail
  refine (room_any w1 q p _ _ _ _ bb 400 2 B _ _ _ _ _ HD1.out Kq1.out (by omega)).mono ?_
  rintro e w2 ⟨rfl, b2⟩
  have HB2 := hid (Below.on HB1.out b2)
  have Kq2 := hid (Kq1.out.below b2)
  have HD2 := hid (HD1.out.below b2)
  have HT2 := hid (HT1.out.text.below b2)
  have hs2 := b2.size
  clear b2
  rw [show (((400 : Nat) : Int) - 18) = 382 from rfl]
  go_wp2_with fail
  have c0 := (Below.refl w2.heap.size w2).alloc (Nat.le_refl _) (.cells (stC 0 0 0 0 0 (.slice none 0 0)) 100 (0, 0))
  refine (turn_any (w2.alloc (.cells (stC 0 0 0 0 0 (.slice none 0 0)) 100 (0, 0))) q p _ _ _ _ (Kq2.out.below c0)).mono ?_
  rintro e w3 ⟨rfl, b3⟩
  have K0 := hid ((Blk.new (w := w2) (n := w2.heap.size) rfl (stC 0 0 0 0 0 (.slice none 0 0)) 100).below b3)
  have b3' := Below.on c0 b3
  have HB3 := hid (Below.on HB2.out b3')
  have Kq3 := hid (Kq2.out.below b3')
  have HD3 := hid (HD2.out.below b3')
  have HT3 := hid (HT2.out.below b3')
  have hs3 := b3'.size
  have h03 := K0.out.lt
  clear b3 b3' c0
  have HBS := hid (fun W : World => build_signer tt bt q f W)
  have hTI : ¬ (T : Int) = 0 := by omega
  have hTp : (0 : Int) < (T : Int) := by omega
  go_wp2_with fail
  have htn : tn ≤ 1000 := by have := HT3.out.length; rw [stB_length] at this; omega
  refine (text_any w3 q p _ _ ta tn tc (stB g0 k0 r0 ik ii m) _ Kq3.out HT3.out htn).mono ?_
  rintro e w4 ⟨a4, c4, rfl, b4, t4, o4⟩
  have K04 := hid (K0.out.below b4)
  have HB4 := hid (Below.on HB3.out b4)
  have Kq4 := hid (Kq3.out.below b4)
  have HD4 := hid (HD3.out.below b4)
  have HT4 := hid t4
  have hs4 := b4.size
  clear b4 t4 o4
  go_wp2_with fail
  refine (parse_stB w4 a4 tn c4 g0 k0 r0 ik ii m HT4.out hm (by omega) (by omega) (by omega) (by omega) (by omega)).mono ?_
  rintro e w5 ⟨ma, mc, rfl, b5, t5, o5⟩
  have K05 := hid (K04.out.below b5)
  have HB5 := hid (Below.on HB4.out b5)
  have Kq5 := hid (Kq4.out.below b5)
  have HD5 := hid (HD4.out.below b5)
  have HT5 := hid t5
  have HO5 := hid o5
  have hs5 := b5.size
  clear b5 t5 o5
  go_wp2_with (first
     | (
        refine wpList_store_blk rfl 100 _ _ rfl (w2.heap.size) (stC g0 k0 r0 ik ii (.slice ma m.length mc)) rfl rfl _ 100 K05.out 6 size_state rfl rfl (stC_ones _ _ _ _ _ _ _ _) ?_
        intro w6 hb6 hk6
        have HB6 := hid (hb6.below HB5.out (by have := HB2.out.size; omega) (by omega))
        have K06 := hid hk6
        have Kq6 := hid (hb6.blk Kq5.out (by omega))
        have HD6 := hid (HD5.out.but hb6 (by omega) (by omega))
        have HT6 := hid (HT5.out.butIn (S := [w2.heap.size]) (fun x hx => by have := HO5.out x hx; simp only [List.mem_singleton]; omega) (ButIn.of_but hb6 (by simp)))
        have hs6 := hb6.size
        clear hb6 hk6)
     | (refine wpList_buildv rfl 104 _ rfl [(2, .int .i64 tt), (3, .int .i64 bt), (4, .pointer (some ⟨q, 0, none⟩)), (5, .pointer (some ⟨f, 0, none⟩))] rfl _ HBS.out ?_)
     | (refine wpList_load_blk rfl 100 _ rfl (w2.heap.size) rfl _ 100 (K06.out.old (.cells (sgC 0 0 0 0 0 (.slice none 0 0) 0 tt bt q f false) 104 (0, 0))) _ Try.underlying100 rfl 6 size_state rfl ?_))
  have c3 := (Below.refl w6.heap.size w6).alloc (Nat.le_refl _) (.cells (sgC 0 0 0 0 0 (.slice none 0 0) 0 tt bt q f false) 104 (0, 0))
  have hc3 : (w6.alloc (.cells (sgC 0 0 0 0 0 (.slice none 0 0) 0 tt bt q f false) 104 (0, 0))).heap.size = w6.heap.size + 1 := by simp only [World.size_alloc]
  have HTX := hid (show TextO (w6.alloc (.cells (sgC 0 0 0 0 0 (.slice none 0 0) 0 tt bt q f false) 104 (0, 0))) [p, bb, q, f, w6.heap.size] ma m.length mc m from ⟨HT6.out.below c3, fun x hx => by have := HO5.out x hx; simp only [List.mem_cons, List.not_mem_nil, or_false]; omega⟩)
  refine (begins_any (w6.alloc (.cells (sgC 0 0 0 0 0 (.slice none 0 0) 0 tt bt q f false) 104 (0, 0))) w6.heap.size q f p bb 400 2 B af kv _ (.slice none 0 0) 0 T g0 k0 r0 ik ii 0 0 0 0 0 fg fk fh fg fk fh 0 tt bt ma m.length mc m (Blk.new rfl (sgC 0 0 0 0 0 (.slice none 0 0) 0 tt bt q f false) 104) (Kq6.out.below c3) ((Kf.out.below HB6.out).below c3) (HD6.out.below c3) HTX.out (by omega) (by omega) (by omega) (by omega) (by omega) (by omega) (by omega) (by omega) (by omega) (by omega) hfp hfb (by omega) (Int.max_eq_right hg.2) (lk_old k0 r0 fk fh hl) ⟨by omega, by omega⟩ ⟨by omega, by omega⟩ ⟨by omega, by omega⟩ ⟨by omega, by omega⟩ ⟨by omega, by omega⟩).mono ?_
  rintro e w7 ⟨rfl, b4, k4, ⟨tv4, q4⟩, f4, d4⟩
  rw [lk_self, Int.max_eq_right (by omega)] at f4
  rw [Nat.zero_add] at d4
  have H4 := hid (show w7.heap.size ≥ w6.heap.size + 1 ∧ SoAt w7 w6.heap.size q f p bb (T + 1) (fg + 1) fk fh ik ii m fh tt bt (putS 400 ((T + 1) % 2) (slotB 400 (T + 1) (stB (fg + 1) fk fh ik ii m)) 400 B) X from ⟨by have := b4.size; omega, ⟨⟨ma, mc, k4, HTX.out.butIn b4, fun x hx => ⟨by have := (HO5.out x hx).2; have := b4.size; omega, fun hm => by have := hX _ hm; have := (HO5.out x hx).1; have := HB4.out.size; omega⟩⟩, ⟨_, q4⟩, f4, ⟨_, _, _, d4, .inl rfl⟩, fun b hb => by have := hX b hb; have := b4.size; omega, by omega, by omega, by omega, by omega, hfp, hfb, by omega, by omega, by omega, hm, by omega, ⟨by omega, by omega⟩, ⟨by omega, by omega⟩, ⟨by omega, by omega⟩, ⟨by omega, by omega⟩, ⟨by omega, by omega⟩, ⟨by omega, by omega⟩, ht, hb⟩⟩)
  have HX4 := hid (show FlowB.ButIn [p, bb, f] w w7 from by
    have x := Below.on HB6.out c3
    refine ⟨b4.os.trans x.os, b4.tape.trans x.tape, b4.output.trans x.output, Nat.le_trans x.size b4.size, fun k hk hn => ?_⟩
    rw [b4.block k (by omega) (by simp only [List.mem_cons, List.not_mem_nil, or_false, not_or] at hn ⊢; omega)]
    exact x.block k hk)
  clear b4 k4 q4 f4 d4 c3
  go_wp2_with fail
  go_returns
  exact ⟨_, _, rfl, by omega, by omega, by have := H4.out.1; omega, HX4.out, H4.out.2⟩
end Go.Proofs.Ytmpgnpkodapidaa

namespace Go.Proofs.Ytmpgnpkodapidaa
open Go.ChangeShapes Go.WideShapes Go.ChangeAt Go.RowKit

/-- An index of a key, and the message that it stands for. -/
structure Tri where
  key : Int
  index : Int
  m : List Int
/-- A signer's state, and what lies on the disk. -/
structure Sg15 where
  s : Nat
  q : Nat
  T : Nat
  g : Int
  k : Int
  r : Int
  ik : Int
  ii : Int
  m : List Int
  nx : Int
  B : List Int
def cntK (k : Int) (l : List Tri) : Nat := (l.filter fun x => decide (x.key = k)).length
theorem cntK_append (k : Int) (l l' : List Tri) : cntK k (l ++ l') = cntK k l + cntK k l' := by simp [cntK]
theorem cntK_one (k : Int) (x : Tri) : cntK k [x] = if x.key = k then 1 else 0 := by
  unfold cntK
  by_cases h : x.key = k
  · simp [h]
  · simp [h]
theorem cntK_take (k : Int) (l : List Tri) (j : Nat) (hj : j < l.length) : cntK k (l.take (j + 1)) = cntK k (l.take j) + if (l[j]).key = k then 1 else 0 := by
  rw [List.take_succ_eq_append_getElem hj, cntK_append, cntK_one]
theorem cntK_le (k : Int) (l : List Tri) : cntK k l ≤ l.length := List.length_filter_le _ _
/-- A disk on which a state is found that isn't above the fence, and whose intent is known. -/
def Found (n : Int) (U : List Tri) (G K R : Int) (c : Nat) (B : List Int) : Prop := ∃ (T : Nat) (g k r ik ii : Int) (m : List Int), 1 ≤ T ∧ T ≤ c ∧ KeepS 400 T (stB g k r ik ii m) B ∧ m.length ≤ 200 ∧ (0 ≤ g ∧ g ≤ G) ∧ (0 ≤ k ∧ 0 ≤ r ∧ r < n) ∧ (k < K ∨ k = K ∧ r ≤ R) ∧ (0 ≤ ik ∧ ik ≤ K ∧ 0 ≤ ii ∧ ii < n) ∧ (m = [] ∨ ⟨ik, ii, m⟩ ∈ U)
theorem Found.mono {n : Int} {U U' : List Tri} {G K R G' K' R' : Int} {c c' : Nat} {B : List Int} (h : Found n U G K R c B) (hU : ∀ x ∈ U, x ∈ U') (hG : G ≤ G') (hK : K < K' ∨ K = K' ∧ R ≤ R') (hc : c ≤ c') : Found n U' G' K' R' c' B := by
  obtain ⟨T, g, k, r, ik, ii, m, h1, h2, h3, h4, h5, h6, h7, h8, h9⟩ := h
  exact ⟨T, g, k, r, ik, ii, m, h1, by omega, h3, h4, by omega, h6, by omega, by omega, h9.imp id (hU _)⟩
/-- What is known at any time: n indices of a key, b of them taken at once, the marks G, K, R of the fence, below nx all that was told of key K. -/
structure Core (n b : Int) (U : List Tri) (G K R nx : Int) (c : Nat) (all : List Tri) (imgs : List (List Int)) (i : Nat) : Prop where
  bG : 0 ≤ G ∧ G ≤ 1 + i
  bK : 0 ≤ K ∧ K ≤ i
  bR : 0 ≤ R ∧ R < n
  bn : 0 ≤ nx ∧ nx ≤ R ∧ R ≤ nx + b
  fn : ∀ x ∈ U, ∀ y ∈ U, x.key = y.key → x.index = y.index → x.m = y.m
  rg : ∀ x ∈ U, 0 ≤ x.key ∧ 0 ≤ x.index ∧ x.index < n ∧ (x.key < K ∨ x.key = K ∧ x.index < nx)
  al : ∀ x ∈ all, x ∈ U
  im : ∀ B ∈ imgs, Found n U G K R c B
/-- A signer that goes on. -/
structure Inv (n b : Int) (U : List Tri) (σ : Sg15) (c : Nat) (all : List Tri) (imgs : List (List Int)) (op : Int) (i : Nat) : Prop where
  core : Core n b U σ.g σ.k σ.r σ.nx c all imgs i
  kp : KeepS 400 σ.T (stB σ.g σ.k σ.r σ.ik σ.ii σ.m) σ.B
  t1 : 1 ≤ σ.T
  t2 : σ.T ≤ c
  ml : σ.m.length ≤ 200
  bi : 0 ≤ σ.ik ∧ σ.ik ≤ σ.k ∧ 0 ≤ σ.ii ∧ σ.ii < n
  int : σ.m = [] ∨ ⟨σ.ik, σ.ii, σ.m⟩ ∈ U
  cnt : σ.nx ≤ cntK σ.k all + b * op
/-- A disk that is off: all is opened again. -/
structure Off (n b : Int) (U : List Tri) (G K R : Int) (B : List Int) (c : Nat) (all : List Tri) (imgs : List (List Int)) (op : Int) (i : Nat) : Prop where
  core : Core n b U G K R R c all imgs i
  fo : Found n U G K R c B
  cnt : R ≤ cntK K all + b * (op + 1)
/-- A message that was told, but isn't in the row yet. -/
structure Told (n b : Int) (U : List Tri) (σ : Sg15) (c : Nat) (all : List Tri) (imgs : List (List Int)) (op : Int) (i : Nat) (t : Tri) : Prop where
  core : Core n b U σ.g σ.k σ.r σ.nx c all imgs i
  kp : KeepS 400 σ.T (stB σ.g σ.k σ.r σ.ik σ.ii σ.m) σ.B
  t1 : 1 ≤ σ.T
  t2 : σ.T ≤ c
  ml : σ.m.length ≤ 200
  bi : 0 ≤ σ.ik ∧ σ.ik ≤ σ.k ∧ 0 ≤ σ.ii ∧ σ.ii < n
  int : σ.m = [] ∨ ⟨σ.ik, σ.ii, σ.m⟩ ∈ U
  mem : t ∈ U
  cnt : σ.nx ≤ cntK σ.k all + b * op ∨ t.key = σ.k ∧ (∀ x ∈ all, ¬ (x.key = t.key ∧ x.index = t.index)) ∧ σ.nx ≤ cntK σ.k all + 1 + b * op
theorem Core.mono {n b : Int} {U : List Tri} {G K R nx : Int} {c : Nat} {all : List Tri} {imgs : List (List Int)} {i : Nat} (h : Core n b U G K R nx c all imgs i) {c' i' : Nat} (hc : c ≤ c') (hi : i ≤ i') : Core n b U G K R nx c' all imgs i' :=
  ⟨by have := h.bG; omega, by have := h.bK; omega, h.bR, h.bn, h.fn, h.rg, h.al, fun B hB => (h.im B hB).mono (fun _ q => q) (Int.le_refl _) (.inr ⟨rfl, Int.le_refl _⟩) hc⟩
/-- The fence is raised, and something is told or written. -/
theorem Core.more {n b : Int} {U : List Tri} {G K R nx : Int} {c : Nat} {all : List Tri} {imgs : List (List Int)} {i : Nat} (h : Core n b U G K R nx c all imgs i) {K' R' nx' : Int} {c' i' : Nat} (t : Tri) (hc : c ≤ c') (hi : i ≤ i') (hK : K' = K ∧ R ≤ R' ∧ nx < nx' ∨ K < K') (bK : K' ≤ i') (bR : 0 ≤ R' ∧ R' < n) (bn : 0 ≤ nx' ∧ nx' ≤ R' ∧ R' ≤ nx' + b) (ht : t.key = K ∧ t.index = nx ∧ nx < n) : Core n b (t :: U) G K' R' nx' c' all imgs i' := by
  have hnt : ∀ x ∈ U, ¬ (x.key = t.key ∧ x.index = t.index) := fun x hx e => by
    have := (h.rg x hx).2.2.2
    omega
  refine ⟨by have := h.bG; omega, by have := h.bK; omega, bR, bn, ?_, ?_, fun x hx => .tail _ (h.al x hx), fun B hB => (h.im B hB).mono (fun _ q => .tail _ q) (Int.le_refl _) (by omega) hc⟩
  · intro x hx y hy e1 e2
    rcases List.mem_cons.1 hx with h1 | h1
    · rcases List.mem_cons.1 hy with h2 | h2
      · rw [h1, h2]
      · rw [h1] at e1 e2
        exact absurd ⟨e1.symm, e2.symm⟩ (hnt y h2)
    · rcases List.mem_cons.1 hy with h2 | h2
      · rw [h2] at e1 e2
        exact absurd ⟨e1, e2⟩ (hnt x h1)
      · exact h.fn x h1 y h2 e1 e2
  · intro x hx
    have hK0 := h.bK
    have hn0 := h.bn
    rcases List.mem_cons.1 hx with rfl | hx
    · omega
    · have := h.rg x hx
      omega
/-- Nothing is told: the next index may go up to the mark. -/
theorem Core.top {n b : Int} {U : List Tri} {G K R nx : Int} {c : Nat} {all : List Tri} {imgs : List (List Int)} {i : Nat} (h : Core n b U G K R nx c all imgs i) (hb : 0 ≤ b) : Core n b U G K R R c all imgs i :=
  ⟨h.bG, h.bK, h.bR, ⟨h.bR.1, Int.le_refl _, Int.le_add_of_nonneg_right hb⟩, h.fn, fun x hx => by have := h.rg x hx; have := h.bn; omega, h.al, h.im⟩
theorem Inv.found {n b : Int} {U : List Tri} {σ : Sg15} {c : Nat} {all : List Tri} {imgs : List (List Int)} {op : Int} {i : Nat} (h : Inv n b U σ c all imgs op i) : Found n U σ.g σ.k σ.r c σ.B :=
  ⟨σ.T, σ.g, σ.k, σ.r, σ.ik, σ.ii, σ.m, h.t1, h.t2, h.kp, h.ml, ⟨h.core.bG.1, Int.le_refl _⟩, ⟨h.core.bK.1, h.core.bR.1, h.core.bR.2⟩, .inr ⟨rfl, Int.le_refl _⟩, h.bi, h.int⟩
theorem Inv.off {n b : Int} {U : List Tri} {σ : Sg15} {c : Nat} {all : List Tri} {imgs : List (List Int)} {op : Int} {i : Nat} (h : Inv n b U σ c all imgs op i) (hb : 0 ≤ b) {B : List Int} (hB : B = σ.B ∨ B ∈ imgs) : Off n b U σ.g σ.k σ.r B c all imgs op i :=
  ⟨h.core.top hb, hB.elim (fun e => e ▸ h.found) (h.core.im B), by have := h.cnt; have := h.core.bn; rw [Int.mul_add, Int.mul_one]; omega⟩
theorem Inv.image {n b : Int} {U : List Tri} {σ : Sg15} {c : Nat} {all : List Tri} {imgs : List (List Int)} {op : Int} {i : Nat} (h : Inv n b U σ c all imgs op i) : Inv n b U σ c all (imgs ++ [σ.B]) op i := by
  have him : ∀ B ∈ imgs ++ [σ.B], Found n U σ.g σ.k σ.r c B := fun B hB => by
    rcases List.mem_append.1 hB with hB | hB
    · exact h.core.im B hB
    · rw [List.mem_singleton.1 hB]
      exact h.found
  exact { h with core := { h.core with im := him } }
theorem Inv.mono {n b : Int} {U : List Tri} {σ : Sg15} {c c' : Nat} {all : List Tri} {imgs : List (List Int)} {op : Int} {i i' : Nat} (h : Inv n b U σ c all imgs op i) (hc : c ≤ c') (hi : i ≤ i') : Inv n b U σ c' all imgs op i' :=
  { h with core := h.core.mono hc hi, t2 := by have := h.t2; omega }
theorem Inv.told {n b : Int} {U : List Tri} {σ : Sg15} {c : Nat} {all : List Tri} {imgs : List (List Int)} {op : Int} {i : Nat} (h : Inv n b U σ c all imgs op i) (hm : σ.m ≠ []) : Told n b U σ c all imgs op i ⟨σ.ik, σ.ii, σ.m⟩ :=
  ⟨h.core, h.kp, h.t1, h.t2, h.ml, h.bi, h.int, h.int.resolve_left hm, .inl h.cnt⟩
theorem Told.old {n b : Int} {U : List Tri} {σ : Sg15} {c : Nat} {all : List Tri} {imgs : List (List Int)} {op : Int} {i : Nat} {t : Tri} (h : Told n b U σ c all imgs op i t) (hx : ∃ x ∈ all, x.key = t.key ∧ x.index = t.index) : Inv n b U σ c all imgs op i :=
  ⟨h.core, h.kp, h.t1, h.t2, h.ml, h.bi, h.int, by
    obtain hc | ⟨-, h2, -⟩ := h.cnt
    · exact hc
    · obtain ⟨x, h3, h4⟩ := hx
      exact absurd h4 (h2 x h3)⟩
theorem Told.new {n b : Int} {U : List Tri} {σ : Sg15} {c : Nat} {all : List Tri} {imgs : List (List Int)} {op : Int} {i : Nat} {t : Tri} (h : Told n b U σ c all imgs op i t) : Inv n b U σ c (all ++ [t]) imgs op i := by
  have hal : ∀ x ∈ all ++ [t], x ∈ U := fun x hx => by
    rcases List.mem_append.1 hx with hx | hx
    · exact h.core.al x hx
    · rw [List.mem_singleton.1 hx]
      exact h.mem
  exact ⟨{ h.core with al := hal }, h.kp, h.t1, h.t2, h.ml, h.bi, h.int, by
    rw [cntK_append, cntK_one]
    obtain hc | ⟨h1, -, h2⟩ := h.cnt
    · split <;> omega
    · rw [if_pos h1]; omega⟩
theorem Told.same {n b : Int} {U : List Tri} {σ : Sg15} {c : Nat} {all : List Tri} {imgs : List (List Int)} {op : Int} {i : Nat} {t : Tri} (h : Told n b U σ c all imgs op i t) (x : Tri) (hx : x ∈ all) (h1 : x.key = t.key) (h2 : x.index = t.index) : x.m = t.m := h.core.fn x (h.core.al x hx) t h.mem h1 h2
theorem stB_fit (g k r ik ii : Int) (m : List Int) (h : m.length ≤ 200) : (stB g k r ik ii m).length + 18 ≤ 400 := by rw [stB_length]; omega
/-- A deal, or a roll, that goes well. -/
theorem Inv.write {n b : Int} {U : List Tri} {σ : Sg15} {c : Nat} {all : List Tri} {imgs : List (List Int)} {op : Int} {i : Nat} (h : Inv n b U σ c all imgs op i) (hb : 0 ≤ b) (hop : 0 ≤ op) (mm : List Int) (h2 : mm.length ≤ 200) {K' R' nx' : Int} (hn : σ.nx < n) (hK : K' = σ.k ∧ σ.r ≤ R' ∧ nx' = σ.nx + 1 ∨ K' = σ.k + 1 ∧ R' = 0 ∧ nx' = 0) (bR : 0 ≤ R' ∧ R' < n) (bn : nx' ≤ R' ∧ R' ≤ nx' + b) :
    Told n b (⟨σ.k, σ.nx, mm⟩ :: U) ⟨σ.s, σ.q, σ.T + 1, σ.g, K', R', σ.k, σ.nx, mm, nx', putS 400 ((σ.T + 1) % 2) (slotB 400 (σ.T + 1) (stB σ.g K' R' σ.k σ.nx mm)) 400 σ.B⟩ (c + 1) all imgs op (i + 1) ⟨σ.k, σ.nx, mm⟩ := by
  have hn0 := h.core.bn
  have hk0 := h.core.bK
  have hcore : Core n b (⟨σ.k, σ.nx, mm⟩ :: U) σ.g K' R' nx' (c + 1) all imgs (i + 1) := h.core.more ⟨σ.k, σ.nx, mm⟩ (by omega) (by omega) (by omega) (by omega) bR (by omega) ⟨rfl, rfl, hn⟩
  refine ⟨hcore, h.kp.whole (stB_fit _ _ _ _ _ _ h.ml) (stB_fit _ _ _ _ _ _ h2), by show 1 ≤ σ.T + 1; omega, by have := h.t2; show σ.T + 1 ≤ c + 1; omega, h2, ⟨hk0.1, by show σ.k ≤ K'; omega, hn0.1, hn⟩, .inr (.head _), .head _, ?_⟩
  rcases hK with ⟨rfl, -, rfl⟩ | ⟨rfl, rfl, rfl⟩
  · refine .inr ⟨rfl, fun x hx e => ?_, ?_⟩
    · have := (h.core.rg x (h.core.al x hx)).2.2.2
      have e1 : x.key = σ.k := e.1
      have e2 : x.index = σ.nx := e.2
      omega
    · have := h.cnt
      show σ.nx + 1 ≤ _
      show σ.nx + 1 ≤ (cntK σ.k all : Int) + 1 + b * op
      omega
  · refine .inl ?_
    show (0 : Int) ≤ (cntK (σ.k + 1) all : Int) + b * op
    have := Int.mul_nonneg hb hop
    omega
/-- A deal, or a roll, at which the power fails. -/
theorem Inv.gone {n b : Int} {U : List Tri} {σ : Sg15} {c : Nat} {all : List Tri} {imgs : List (List Int)} {op : Int} {i : Nat} (h : Inv n b U σ c all imgs op i) (hb : 0 ≤ b) (hop : 0 ≤ op) (hT : σ.T < 255) (mm : List Int) (h2 : mm.length ≤ 200) {K' R' : Int} (hn : σ.nx < n) (hK : K' = σ.k ∧ σ.r ≤ R' ∧ σ.nx < R' ∧ R' ≤ σ.nx + b ∨ K' = σ.k + 1 ∧ R' = 0) (bR : 0 ≤ R' ∧ R' < n) {B : List Int} (ht : Torn σ.T (stB σ.g K' R' σ.k σ.nx mm) σ.B B) :
    Off n b (⟨σ.k, σ.nx, mm⟩ :: U) σ.g K' R' B (c + 1) all imgs op (i + 1) := by
  have hn0 := h.core.bn
  have hk0 := h.core.bK
  have hg0 := h.core.bG
  have hr0 := h.core.bR
  have ht1 := h.t1
  have ht2 := h.t2
  have hOld : ∀ B', KeepS 400 σ.T (stB σ.g σ.k σ.r σ.ik σ.ii σ.m) B' → Found n (⟨σ.k, σ.nx, mm⟩ :: U) σ.g K' R' (c + 1) B' := fun B' hB' =>
    ⟨σ.T, σ.g, σ.k, σ.r, σ.ik, σ.ii, σ.m, ht1, by omega, hB', h.ml, ⟨hg0.1, Int.le_refl _⟩, ⟨hk0.1, hr0.1, hr0.2⟩, by omega, by have := h.bi; omega, h.int.imp id (.tail _)⟩
  have hcore : Core n b (⟨σ.k, σ.nx, mm⟩ :: U) σ.g K' R' R' (c + 1) all imgs (i + 1) := h.core.more ⟨σ.k, σ.nx, mm⟩ (by omega) (by omega) (by omega) (by omega) bR (by omega) ⟨rfl, rfl, hn⟩
  refine ⟨hcore, ?_, ?_⟩
  · rcases ht with rfl | ⟨x, hx, rfl⟩
    · exact hOld _ h.kp
    · by_cases hx4 : x < 400
      · exact hOld _ (h.kp.part hT (stB_fit _ _ _ _ _ _ h2) x hx4)
      · obtain rfl : x = 400 := by omega
        exact ⟨σ.T + 1, σ.g, K', R', σ.k, σ.nx, mm, by omega, by omega, h.kp.whole (stB_fit _ _ _ _ _ _ h.ml) (stB_fit _ _ _ _ _ _ h2), h2, ⟨hg0.1, Int.le_refl _⟩, ⟨by omega, bR.1, bR.2⟩, .inr ⟨rfl, Int.le_refl _⟩, by omega, .inr (.head _)⟩
  · have hc := h.cnt
    have hm := Int.mul_nonneg hb hop
    rw [Int.mul_add, Int.mul_one]
    rcases hK with ⟨rfl, -, -, h4⟩ | ⟨rfl, rfl⟩
    · omega
    · omega
/-- The disk is opened again. -/
theorem Off.again {n b : Int} {U : List Tri} {G K R : Int} {B : List Int} {c : Nat} {all : List Tri} {imgs : List (List Int)} {op : Int} {i : Nat} (h : Off n b U G K R B c all imgs op i) (hc : c < 255) :
    ∃ (T : Nat) (g k r ik ii : Int) (m : List Int), openS 400 B 0 = ((T : Int), stB g k r ik ii m) ∧ 1 ≤ T ∧ T ≤ c ∧ m.length ≤ 200 ∧ (0 ≤ g ∧ g ≤ G) ∧ (0 ≤ k ∧ 0 ≤ r ∧ r < n) ∧ (k < K ∨ k = K ∧ r ≤ R) ∧ (0 ≤ ik ∧ ik ≤ K ∧ 0 ≤ ii ∧ ii < n) ∧
      ∀ s q, Inv n b U ⟨s, q, T + 1, G + 1, K, R, ik, ii, m, R, putS 400 ((T + 1) % 2) (slotB 400 (T + 1) (stB (G + 1) K R ik ii m)) 400 B⟩ (c + 1) all imgs (op + 1) (i + 1) := by
  obtain ⟨T, g, k, r, ik, ii, m, h1, h2, h3, h4, h5, h6, h7, h8, h9⟩ := h.fo
  refine ⟨T, g, k, r, ik, ii, m, h3.open (by omega) (stB_fit _ _ _ _ _ _ h4) (by omega), h1, h2, h4, h5, h6, h7, h8, fun s q => ?_⟩
  have hg0 := h.core.bG
  have hk0 := h.core.bK
  refine ⟨⟨by show 0 ≤ G + 1 ∧ G + 1 ≤ _; omega, by show 0 ≤ K ∧ K ≤ _; omega, h.core.bR, h.core.bn, h.core.fn, h.core.rg, h.core.al, fun B' hB' => (h.core.im B' hB').mono (fun _ q => q) (by show G ≤ G + 1; omega) (.inr ⟨rfl, Int.le_refl _⟩) (by omega)⟩, h3.whole (stB_fit _ _ _ _ _ _ h4) (stB_fit _ _ _ _ _ _ h4), by show 1 ≤ T + 1; omega, by show T + 1 ≤ c + 1; omega, h4, h8, h9, h.cnt⟩
theorem Inv.start (n b : Int) (hn : 2 ≤ n) (hb : 0 ≤ b) (s q : Nat) : Inv n b [] ⟨s, q, 1, 1, 0, 0, 0, 0, [], 0, putS 400 ((0 + 1) % 2) (slotB 400 (0 + 1) (stB (0 + 1) 0 0 0 0 [])) 400 zerosD⟩ 1 [] [] 0 0 := by
  have h0 : KeepS 400 0 [] zerosD := by
    have hl : (List.replicate 400 (0 : Int)).length = 400 := List.length_replicate
    refine ⟨List.replicate 400 0, List.replicate 400 0, ⟨hl, .inl ⟨rfl, rfl, rfl⟩⟩, ⟨hl, 0, .inr rfl, .inl ?_, ?_⟩, ?_⟩
    · rw [show be 8 ((0 : Nat) : Int) = List.replicate 8 0 from be_zero 8, List.take_replicate]; rfl
    · rw [show be 8 ((0 : Nat) : Int) = List.replicate 8 0 from be_zero 8, List.drop_replicate]
    · rw [if_pos rfl, List.replicate_append_replicate]; rfl
  refine ⟨⟨by simp, by simp, by show 0 ≤ (0 : Int) ∧ (0 : Int) < n; omega, by show 0 ≤ (0 : Int) ∧ (0 : Int) ≤ 0 ∧ (0 : Int) ≤ 0 + b; omega, by simp, by simp, by simp, by simp⟩, h0.whole (by simp) (stB_fit _ _ _ _ _ _ (by simp)), by simp, by simp, by simp, by simp; omega, .inl rfl, by simp [cntK]⟩
end Go.Proofs.Ytmpgnpkodapidaa

namespace Go.Proofs.Ytmpgnpkodapidaa
open Go.ChangeShapes Go.WideShapes Go.ChangeAt Go.RowKit

def SgW (w : World) (f p bb : Nat) (σ : Sg15) (tt bt : Int) (X : List Nat) : Prop := SoAt w σ.s σ.q f p bb σ.T σ.g σ.k σ.r σ.ik σ.ii σ.m σ.nx tt bt σ.B X
/-- What a deed comes to: a message is told an index; or nothing; or the power failed. -/
def Act15 (w : World) (n b : Int) (f p bb : Nat) (s q c : Nat) (all : List Tri) (imgs : List (List Int)) (op : Int) (i : Nat) (X : List Nat) (M : List Int) (kv av hv : Value) : Prop :=
  (hv = .int .i64 0 ∧ ∃ (kk aa : Int) (U : List Tri) (σ : Sg15), kv = .int .i64 kk ∧ av = .int .i64 aa ∧ σ.s = s ∧ σ.q = q ∧ SgW w f p bb σ n b X ∧ Told n b U σ c all imgs op i ⟨kk, aa, M⟩) ∨
  (∃ (h : Int) (U : List Tri) (σ : Sg15), hv = .int .i64 h ∧ h ≠ 0 ∧ h ≠ 9 ∧ σ.s = s ∧ σ.q = q ∧ SgW w f p bb σ n b X ∧ Inv n b U σ c all imgs op i) ∨
  (hv = .int .i64 9 ∧ ∃ (U : List Tri) (G K R : Int) (B : List Int), OffAt w f p bb G K R B ∧ Off n b U G K R B c all imgs op i)
theorem SgW.below {w w' : World} {f p bb : Nat} {σ : Sg15} {tt bt : Int} {X : List Nat} (h : SgW w f p bb σ tt bt X) (hb : Below w.heap.size w w') : SgW w' f p bb σ tt bt X := SoAt.below h hb
theorem OffAt.below {w w' : World} {f p bb : Nat} {G K R : Int} {B : List Int} (h : OffAt w f p bb G K R B) (hb : Below w.heap.size w w') : OffAt w' f p bb G K R B := by
  obtain ⟨h1, set, af, kv, h2⟩ := h
  exact ⟨h1.below hb, set, af, kv, h2.below hb⟩
theorem Act15.below {w w' : World} {n b : Int} {f p bb : Nat} {s q c : Nat} {all : List Tri} {imgs : List (List Int)} {op : Int} {i : Nat} {X : List Nat} {M : List Int} {kv av hv : Value} (h : Act15 w n b f p bb s q c all imgs op i X M kv av hv) (hb : Below w.heap.size w w') : Act15 w' n b f p bb s q c all imgs op i X M kv av hv := by
  rcases h with ⟨h0, kk, aa, U, σ, h1, h2, h3, h4, h5, h6⟩ | ⟨h, U, σ, h0, h1, h2, h3, h4, h5, h6⟩ | ⟨h0, U, G, K, R, B, h1, h2⟩
  · exact .inl ⟨h0, kk, aa, U, σ, h1, h2, h3, h4, h5.below hb, h6⟩
  · exact .inr (.inl ⟨h, U, σ, h0, h1, h2, h3, h4, h5.below hb, h6⟩)
  · exact .inr (.inr ⟨h0, U, G, K, R, B, h1.below hb, h2⟩)
theorem deal_inv (w : World) (n b : Int) (f p bb : Nat) (σ : Sg15) (U : List Tri) (c : Nat) (all : List Tri) (imgs : List (List Int)) (op : Int) (i : Nat) (X : List Nat) (h : SgW w f p bb σ n b X) (hI : Inv n b U σ c all imgs op i) (hc : c < 250) (hop : 0 ≤ op) (ma : Option Addr) (mn mc : Nat) (M : List Int) (hT : TextW w [p, bb, σ.q, f, σ.s] ma mn mc M) :
    Calls Try.prog 30 #[.pointer (some ⟨σ.s, 0, none⟩), .slice ma mn mc] w fun e w' => ∃ kv av hv, e = .returned (.tuple #[kv, av, hv]) ∧ FlowB.ButIn [p, bb, σ.q, f, σ.s] w w' ∧ Act15 w' n b f p bb σ.s σ.q (c + 1) all imgs op (i + 1) X M kv av hv := by
  have hb0 : 0 ≤ b := by have := SoAt.bbt h; omega
  have hmx := hT.text.le
  have hmm := hT.text.max
  have hml := hT.text.length
  have hn0 := hI.core.bn
  have hr0 := hI.core.bR
  have hb1 := SoAt.bbt h
  have ht2 := hI.t2
  have hstay : ∀ (w' : World) (e : Int), Below w.heap.size w w' → e ≠ 0 → e ≠ 9 → ∃ kv av hv, (Value.tuple #[.int .i64 0, .int .i64 0, .int .i64 e]) = .tuple #[kv, av, hv] ∧ FlowB.ButIn [p, bb, σ.q, f, σ.s] w w' ∧ Act15 w' n b f p bb σ.s σ.q (c + 1) all imgs op (i + 1) X M kv av hv := fun w' e hb h0 h9 =>
    ⟨_, _, _, rfl, ButIn.of_below hb, .inr (.inl ⟨e, U, σ, rfl, h0, h9, rfl, rfl, h.below hb, hI.mono (by omega) (by omega)⟩)⟩
  by_cases hlen : mn = 0 ∨ 200 < mn
  · refine (deal_arg w _ ma mn mc hlen (by omega)).mono ?_
    rintro e w' ⟨rfl, hb⟩
    obtain ⟨kv, av, hv, h1, h2⟩ := hstay w' 1 hb (by omega) (by omega)
    exact ⟨kv, av, hv, by rw [h1], h2⟩
  have hTO : TextO w [p, bb, σ.q, f, σ.s] ma mn mc M := ⟨hT.text, hT.out (by omega)⟩
  by_cases hq : σ.m = M
  · refine (deals_again w σ.s σ.q f p bb σ.T σ.g σ.k σ.r σ.ik σ.ii σ.m σ.nx n b σ.B X ma mn mc M h hTO (by omega) (by omega) hq).mono ?_
    rintro e w' ⟨rfl, hb⟩
    refine ⟨_, _, _, rfl, ButIn.of_below hb, .inl ⟨rfl, σ.ik, σ.ii, U, σ, rfl, rfl, rfl, rfl, h.below hb, ?_⟩⟩
    have := (hI.mono (c' := c + 1) (i' := i + 1) (by omega) (by omega)).told (fun e => by rw [← hq, e] at hml; simp at hml; omega)
    rwa [hq] at this
  by_cases hsp : σ.nx < n - 1
  · have hdone : ∀ (e : Ending) (w' : World) (R : Int), σ.r ≤ R → σ.nx + 1 ≤ R → R < n → R ≤ σ.nx + b → FlowB.ButIn [p, bb, σ.q, f, σ.s] w w' ∧ ((e = .returned (.tuple #[.int .i64 σ.k, .int .i64 σ.nx, .int .i64 0]) ∧ SoAt w' σ.s σ.q f p bb (σ.T + 1) σ.g σ.k R σ.k σ.nx M (σ.nx + 1) n b (putS 400 ((σ.T + 1) % 2) (slotB 400 (σ.T + 1) (stB σ.g σ.k R σ.k σ.nx M)) 400 σ.B) X) ∨ (e = .returned (.tuple #[.int .i64 0, .int .i64 0, .int .i64 9]) ∧ ∃ B', Torn σ.T (stB σ.g σ.k R σ.k σ.nx M) σ.B B' ∧ OffAt w' f p bb σ.g σ.k R B')) →
        ∃ kv av hv, e = .returned (.tuple #[kv, av, hv]) ∧ FlowB.ButIn [p, bb, σ.q, f, σ.s] w w' ∧ Act15 w' n b f p bb σ.s σ.q (c + 1) all imgs op (i + 1) X M kv av hv := fun e w' R h1 h2 h3 h4 hx => by
      obtain ⟨hb, ⟨rfl, hs⟩ | ⟨rfl, B', hB, ho⟩⟩ := hx
      · exact ⟨_, _, _, rfl, hb, .inl ⟨rfl, σ.k, σ.nx, _, ⟨σ.s, σ.q, σ.T + 1, σ.g, σ.k, R, σ.k, σ.nx, M, σ.nx + 1, putS 400 ((σ.T + 1) % 2) (slotB 400 (σ.T + 1) (stB σ.g σ.k R σ.k σ.nx M)) 400 σ.B⟩, rfl, rfl, rfl, rfl, hs, hI.write hb0 hop M (by omega) (by omega) (.inl ⟨rfl, h1, rfl⟩) ⟨by omega, h3⟩ ⟨h2, by omega⟩⟩⟩
      · exact ⟨_, _, _, rfl, hb, .inr (.inr ⟨rfl, _, _, _, _, _, ho, hI.gone hb0 hop (by omega) M (by omega) (by omega) (.inl ⟨rfl, h1, by omega, h4⟩) ⟨by omega, h3⟩ hB⟩)⟩
    by_cases hr : σ.r ≤ σ.nx
    · by_cases hm : n - 1 < σ.r + b
      · exact (deals_hi w σ.s σ.q f p bb σ.T σ.g σ.k σ.r σ.ik σ.ii σ.m σ.nx n b σ.B X ma mn mc M h hTO (by omega) (by omega) hq hsp (by omega) hr (by omega) hm).mono fun e w' => hdone e w' (n - 1) (by omega) (by omega) (by omega) (by omega)
      · exact (deals_lo w σ.s σ.q f p bb σ.T σ.g σ.k σ.r σ.ik σ.ii σ.m σ.nx n b σ.B X ma mn mc M h hTO (by omega) (by omega) hq hsp (by omega) hr (by omega)).mono fun e w' => hdone e w' (σ.r + b) (by omega) (by omega) (by omega) (by omega)
    · exact (deals_plain w σ.s σ.q f p bb σ.T σ.g σ.k σ.r σ.ik σ.ii σ.m σ.nx n b σ.B X ma mn mc M h hTO (by omega) (by omega) hq hsp (by omega) hr).mono fun e w' => hdone e w' σ.r (by omega) (by omega) (by omega) (by omega)
  · refine (deals_spent w σ.s σ.q f p bb σ.T σ.g σ.k σ.r σ.ik σ.ii σ.m σ.nx n b σ.B X ma mn mc M h hTO (by omega) (by omega) hq (by omega)).mono ?_
    rintro e w' ⟨rfl, hb⟩
    obtain ⟨kv, av, hv, h1, h2⟩ := hstay w' 6 hb (by omega) (by omega)
    exact ⟨kv, av, hv, by rw [h1], h2⟩
theorem roll_inv (w : World) (n b : Int) (f p bb : Nat) (σ : Sg15) (U : List Tri) (c : Nat) (all : List Tri) (imgs : List (List Int)) (op : Int) (i : Nat) (X : List Nat) (h : SgW w f p bb σ n b X) (hI : Inv n b U σ c all imgs op i) (hc : c < 250) (hi : i < 900000) (hop : 0 ≤ op) (ma : Option Addr) (mn mc : Nat) (M : List Int) (hT : TextW w [p, bb, σ.q, f, σ.s] ma mn mc M) :
    Calls Try.prog 31 #[.pointer (some ⟨σ.s, 0, none⟩), .slice ma mn mc] w fun e w' => ∃ kv av hv, e = .returned (.tuple #[kv, av, hv]) ∧ FlowB.ButIn [p, bb, σ.q, f, σ.s] w w' ∧ Act15 w' n b f p bb σ.s σ.q (c + 1) all imgs op (i + 1) X M kv av hv := by
  have hb0 : 0 ≤ b := by have := SoAt.bbt h; omega
  have hmx := hT.text.le
  have hmm := hT.text.max
  have hml := hT.text.length
  have hn0 := hI.core.bn
  have hr0 := hI.core.bR
  have hk0 := hI.core.bK
  have hb1 := SoAt.bbt h
  have ht2 := hI.t2
  by_cases hlen : mn = 0 ∨ 200 < mn
  · refine (roll_arg w _ ma mn mc hlen (by omega)).mono ?_
    rintro e w' ⟨rfl, hb⟩
    exact ⟨_, _, _, rfl, ButIn.of_below hb, .inr (.inl ⟨1, U, σ, rfl, by omega, by omega, rfl, rfl, h.below hb, hI.mono (by omega) (by omega)⟩)⟩
  have hTO : TextO w [p, bb, σ.q, f, σ.s] ma mn mc M := ⟨hT.text, hT.out (by omega)⟩
  by_cases hq : σ.m = M
  · refine (rolls_again w σ.s σ.q f p bb σ.T σ.g σ.k σ.r σ.ik σ.ii σ.m σ.nx n b σ.B X ma mn mc M h hTO (by omega) (by omega) hq).mono ?_
    rintro e w' ⟨rfl, hb⟩
    refine ⟨_, _, _, rfl, ButIn.of_below hb, .inl ⟨rfl, σ.ik, σ.ii, U, σ, rfl, rfl, rfl, rfl, h.below hb, ?_⟩⟩
    have := (hI.mono (c' := c + 1) (i' := i + 1) (by omega) (by omega)).told (fun e => by rw [← hq, e] at hml; simp at hml; omega)
    rwa [hq] at this
  refine (rolls_new w σ.s σ.q f p bb σ.T σ.g σ.k σ.r σ.ik σ.ii σ.m σ.nx n b σ.B X ma mn mc M h hTO (by omega) (by omega) hq (by omega) (by omega) (by omega)).mono ?_
  rintro e w' ⟨hb, ⟨rfl, hs⟩ | ⟨rfl, B', hB, ho⟩⟩
  · exact ⟨_, _, _, rfl, hb, .inl ⟨rfl, σ.k, σ.nx, _, ⟨σ.s, σ.q, σ.T + 1, σ.g, σ.k + 1, 0, σ.k, σ.nx, M, 0, putS 400 ((σ.T + 1) % 2) (slotB 400 (σ.T + 1) (stB σ.g (σ.k + 1) 0 σ.k σ.nx M)) 400 σ.B⟩, rfl, rfl, rfl, rfl, hs, hI.write hb0 hop M (by omega) (by omega) (.inr ⟨rfl, rfl, rfl⟩) ⟨by omega, by omega⟩ ⟨by omega, by omega⟩⟩⟩
  · exact ⟨_, _, _, rfl, hb, .inr (.inr ⟨rfl, _, _, _, _, _, ho, hI.gone hb0 hop (by omega) M (by omega) (by omega) (.inr ⟨rfl, rfl⟩) ⟨by omega, by omega⟩ hB⟩)⟩
end Go.Proofs.Ytmpgnpkodapidaa

namespace Go.Proofs.Ytmpgnpkodapidaa
open Go.ChangeShapes Go.WideShapes Go.ChangeAt Go.RowKit

structure D15 where
  what : Int
  k : Int
  b : List Int
  keep : List Int
def z15 : D15 := ⟨0, 0, [], []⟩
/-- A deed, in memory: its four cells. -/
structure Deed15 (w : World) (x o : Nat) (d : D15) (ba : Option Addr) (bc : Nat) (ka : Option Addr) (kc : Nat) : Prop where
  cells : w.rangeAt x o [.int .i64 d.what, .slice ba d.b.length bc, .int .i64 d.k, .slice ka d.keep.length kc]
  text : TextAt w ba d.b.length bc d.b
  ints : IntsAt w [] ka d.keep
  none_ : ka = none → d.keep = [] ∧ kc = 0
  wide : ∀ k ∈ d.keep, -9223372036854775808 ≤ k ∧ k ≤ 9223372036854775807
  num : -9223372036854775808 ≤ d.k ∧ d.k ≤ 9223372036854775807
structure Deeds15 (w : World) (a : Option Addr) (len cap : Nat) (ds : List D15) : Prop where
  length : ds.length = len
  le : len ≤ cap
  mem : len = 0 ∨ ∃ x o, a = some ⟨x, o, none⟩ ∧ x < w.heap.size ∧ ∀ j, j < len → ∃ ba bc ka kc, Deed15 w x (o + j * 4) (ds.getD j z15) ba bc ka kc
set_option maxHeartbeats 4000000 in
set_option maxRecDepth 100000 in
theorem deed15_cells {H : Type} {enc : TypeId × Value → H} {W : World} {fuel : Nat} {cs : List Value} {x : DataW H × List MemPlace} (hf : DataW.trod enc Try.prog W 0 (fun _ => true) true fuel 66 cs = some x) :
    ∃ (d : D15) (ba : Option Addr) (bc : Nat) (ka : Option Addr) (kc : Nat), cs = [.int .i64 d.what, .slice ba d.b.length bc, .int .i64 d.k, .slice ka d.keep.length kc] ∧ TextAt W ba d.b.length bc d.b ∧ IntsAt W [] ka d.keep ∧ (ka = none → d.keep = [] ∧ kc = 0) ∧ (∀ k ∈ d.keep, -9223372036854775808 ≤ k ∧ k ≤ 9223372036854775807) ∧ -9223372036854775808 ≤ d.k ∧ d.k ≤ 9223372036854775807 := by
  obtain ⟨f0, f1, f2, f3, hu, t0, t1, t2, t3, o0, o1, o2, o3⟩ : ∃ f0 f1 f2 f3 : Field, Try.prog.underlying 66 = some (.struct #[f0, f1, f2, f3]) ∧ f0.type = 3 ∧ f1.type = 31 ∧ f2.type = 3 ∧ f3.type = 32 ∧ f0.offset = 0 ∧ f1.offset = 1 ∧ f2.offset = 2 ∧ f3.offset = 3 := ⟨_, _, _, _, Try.underlying66, rfl, rfl, rfl, rfl, rfl, rfl, rfl, rfl⟩
  have c5 : Try.prog.cellsOf 66 = 4 := by kernel_rfl
  have cb : Try.prog.cellsOf 31 = 1 := by kernel_rfl
  have ci : Try.prog.cellsOf 3 = 1 := by kernel_rfl
  have ck : Try.prog.cellsOf 32 = 1 := by kernel_rfl
  obtain ⟨xs, n, -, -, hl, hx, hg⟩ := DataW.trod_struct hu hf
  rw [c5] at hl
  match cs, hl with
  | [v0, v1, v2, v3], _ =>
    match xs, hx with
    | [y0, y1, y2, y3], _ =>
      have g0 := hg 0 f0 rfl
      have g1 := hg 1 f1 rfl
      have g2 := hg 2 f2 rfl
      have g3 := hg 3 f3 rfl
      rw [t0, o0, ci] at g0
      rw [t1, o1, cb] at g1
      rw [t2, o2, ci] at g2
      rw [t3, o3, ck] at g3
      obtain ⟨q0, e0, -, -⟩ := DataW.trod_int Try.underlying3 (show _ = some y0 from g0)
      obtain ⟨ba, bn, bc, bs, e1, k0⟩ := text_cells (show _ = some y1 from g1)
      obtain ⟨q1, e2, -, w2⟩ := DataW.trod_int Try.underlying3 (show _ = some y2 from g2)
      obtain ⟨ka, kc, ks, e3, k3, n3, m3⟩ := ints_cells (show _ = some y3 from g3)
      obtain rfl := k0.length
      have w2 := wf_i64 w2
      refine ⟨⟨q0, q1, bs, ks⟩, ba, bc, ka, kc, ?_, k0, k3, n3, m3, w2.1, by show q1 ≤ _; omega⟩
      simp at e0 e1 e2 e3
      simp [e0, e1, e2, e3]
set_option maxHeartbeats 4000000 in
set_option maxRecDepth 100000 in
theorem open_deeds15 {H : Type} {enc : TypeId × Value → H} {W : World} {base : Nat} {v : Value} {d : DataW H} {p : List MemPlace} (hv : Value.okWide Try.prog W .any base 56 v) (h : DataW.Trod enc Try.prog W 0 (fun _ => true) true 56 v d p) :
    ∃ (a : Option Addr) (len cap : Nat) (ds : List D15), v = .slice a len cap ∧ cap ≤ 9223372036854775807 ∧ Deeds15 W a len cap ds := by
  have ce : Try.prog.cellsOf 66 = 4 := by kernel_rfl
  obtain ⟨a, len, cap, rfl⟩ := okWide_slice Try.underlying56 hv
  obtain ⟨fuel, hf⟩ := h
  rcases Go.Deep.open_slice Try.underlying56 hf with ⟨hcs, _⟩ | ⟨x, l, c, m, n, D, Pl, hcs, _, hl, hm, hmm, _, hall⟩
  · simp [Value.cells] at hcs
    obtain ⟨rfl, rfl, rfl⟩ := hcs
    exact ⟨none, 0, 0, [], rfl, by omega, ⟨rfl, Nat.le_refl _, .inl rfl⟩⟩
  · simp [Value.cells] at hcs
    obtain ⟨rfl, rfl, rfl⟩ := hcs
    obtain ⟨b, off, s⟩ := x
    simp only [if_true] at hmm
    have hall' : ∀ i, i < cap → ∃ (d : D15) (ba : Option Addr) (bc : Nat) (ka : Option Addr) (kc : Nat), W.cells? 0 ((⟨b, off, s⟩ : Addr).add (i * 4)) 4 = some [.int .i64 d.what, .slice ba d.b.length bc, .int .i64 d.k, .slice ka d.keep.length kc] ∧ TextAt W ba d.b.length bc d.b ∧ IntsAt W [] ka d.keep ∧ (ka = none → d.keep = [] ∧ kc = 0) ∧ (∀ k ∈ d.keep, -9223372036854775808 ≤ k ∧ k ≤ 9223372036854775807) ∧ -9223372036854775808 ≤ d.k ∧ d.k ≤ 9223372036854775807 := fun i hi => by
      obtain ⟨cs', h1, h2⟩ := hall i (by omega)
      rw [ce] at h1
      obtain ⟨y, ba, bc, ka, kc, rfl, h3⟩ := deed15_cells h2
      exact ⟨y, ba, bc, ka, kc, h1, h3⟩
    let f : Nat → D15 := fun i => if h : i < cap then Classical.choose (hall' i h) else z15
    have hf : ∀ i, i < cap → ∃ (ba : Option Addr) (bc : Nat) (ka : Option Addr) (kc : Nat), W.cells? 0 ((⟨b, off, s⟩ : Addr).add (i * 4)) 4 = some [.int .i64 (f i).what, .slice ba (f i).b.length bc, .int .i64 (f i).k, .slice ka (f i).keep.length kc] ∧ TextAt W ba (f i).b.length bc (f i).b ∧ IntsAt W [] ka (f i).keep ∧ (ka = none → (f i).keep = [] ∧ kc = 0) ∧ (∀ k ∈ (f i).keep, -9223372036854775808 ≤ k ∧ k ≤ 9223372036854775807) ∧ -9223372036854775808 ≤ (f i).k ∧ (f i).k ≤ 9223372036854775807 := fun i hi => by
      simp only [f, hi, dif_pos]
      exact Classical.choose_spec (hall' i hi)
    refine ⟨_, len, cap, (List.range len).map f, rfl, by unfold maxLen at hm; omega, ⟨by simp, hl, ?_⟩⟩
    by_cases hz : len = 0
    · exact .inl hz
    obtain ⟨ba0, bc0, ka0, kc0, h0, -⟩ := hf 0 (by omega)
    have h0 := (World.cells?_some h0).2.2 0 (by omega)
    have hs : s = none := by
      have := World.cell?_spot h0
      simpa [Addr.add] using this
    subst hs
    have hx : b < W.heap.size := by
      rw [Addr.add_mid, Addr.add_mid] at h0
      exact World.block_lt_of_cell? W _ h0
    refine .inr ⟨b, off, rfl, hx, fun i hi => ?_⟩
    obtain ⟨ba, bc, ka, kc, h1, h2, h3, h4, h5, h6⟩ := hf i (by omega)
    have e : ((List.range len).map f).getD i z15 = f i := by simp [hi]
    rw [e]
    refine ⟨ba, bc, ka, kc, ⟨fun k v hv => ?_, h2, h3, h4, h5, h6⟩⟩
    have hc := (World.cells?_some h1).2.2
    have hk : k < 4 := (List.getElem?_eq_some_iff.1 hv).1
    have := hc k hk
    rw [Addr.add_mid, Addr.add_mid] at this
    rw [this]
    exact hv
theorem strOfNums_byte (xs : List Int) (j : Nat) (hj : j < xs.length) (hs : ∀ x ∈ xs, 0 ≤ x ∧ x < 256) : (((strOfNums xs).data.toList.getD j 0).toNat : Int) = xs.getD j 0 := by
  have h := hs (xs.getD j 0) (by simp [hj])
  have e : xs.getD j 0 = xs[j] := by simp [hj]
  rw [e] at h ⊢
  simp [strOfNums, hj]
  omega
theorem conv_bytes (w : World) (xs : List Int) (hs : ∀ x ∈ xs, 0 ≤ x ∧ x < 256) (hl : xs.length ≤ 100000) : ∃ c w', (convert 9 31 (.string (strOfNums xs))).run Try.prog w = .ok (.slice (some ⟨w.heap.size, 0, none⟩) xs.length c) w' ∧ Below w.heap.size w w' ∧ TextAt w' (some ⟨w.heap.size, 0, none⟩) xs.length c xs := by
  have h := Go.Lib.run_convert_string_bytes (P := Try.prog) w 9 31 5 (strOfNums xs) Try.underlying9 Try.underlying31 Try.underlying5
  have hz := strOfNums_size xs
  rw [hz] at h
  refine ⟨_, _, h, ⟨rfl, rfl, rfl, by rw [Go.Lib.bytesWorld_size]; omega, fun k hk => Go.Lib.bytesWorld_at_old w _ _ k hk⟩, rfl, grownCap_ge _ _ _ _, by have := grownCap_le_maxLen w xs.length 0 5 (by unfold maxLen; omega); unfold maxLen at this; omega, hs, .inr ⟨w.heap.size, 0, none, rfl, fun j hj => ⟨rfl, by rw [Go.Lib.bytesWorld_size]; omega, ?_⟩⟩⟩
  rw [Nat.zero_add, Go.Lib.bytesWorld_cell w _ _ j (by rw [hz]; exact hj), strOfNums_byte xs j hj hs]
def fewP (ln : Nat) (ds : List D15) : Bool := decide (ln ≤ 60 ∧ ∀ d ∈ ds, d.b.length ≤ 300 ∧ d.keep.length ≤ 20)
set_option maxHeartbeats 4000000 in
set_option maxRecDepth 100000 in
theorem few15_any (la : Option Addr) (ln lc : Nat) (ds : List D15) (w : World) (hD : Deeds15 w la ln lc ds) (hl : ln ≤ 9223372036854775807) :
    Calls Try.prog 27 #[.slice la ln lc] w fun e w' => e = .returned (.bool (fewP ln ds)) ∧ Below w.heap.size w w' := by
  have Hb := hid (Below.refl w.heap.size w)
  have HDS := hid hD
  have hle := hD.le
  clear hD
  go_enter Try.func27, Try.ntmps27
  go_wp2_with fail
  go_loopw [3] (fun iv wr => ∃ j : Nat, j ≤ ln ∧ iv = .int .i64 j ∧ Below w.heap.size w wr ∧ ∀ d ∈ ds.take j, d.b.length ≤ 300 ∧ d.keep.length ≤ 20) (fun iv _ => ln - (intOf iv).toNat)
  case atStart => exact ⟨0, Nat.zero_le _, rfl, Hb.out, by simp⟩
  case round =>
    obtain ⟨j, hj, rfl, bel, hall⟩ := hrel
    have HB := hid bel
    have HA := hid hall
    clear bel hall
    by_cases hlt : j < ln
    · have hjI : (j : Int) < (ln : Int) := by omega
      obtain ⟨hdl, hdle, h0 | ⟨x, o, rfl, hx, hcell⟩⟩ := HDS.out
      · omega
      obtain ⟨ba, bc, ka, kc, hdd⟩ := hcell j hlt
      clear hcell
      obtain ⟨d, hE⟩ : ∃ d, ds.getD j z15 = d := ⟨_, rfl⟩
      rw [hE] at hdd
      have hdj : ds.take (j + 1) = ds.take j ++ [d] := by
        rw [List.take_succ_eq_append_getElem (by omega), ← hE, List.getD_eq_getElem?_getD, List.getElem?_eq_getElem (by omega)]
        rfl
      have Hdj := hid hdj
      have hdm : d ∈ ds := List.mem_of_mem_take (i := j + 1) (by rw [hdj]; simp)
      have c1 : wr.cell? ⟨x, o + j * 4 + 1, none⟩ = some (.slice ba d.b.length bc) := by
        rw [HB.out.cell (p := ⟨x, o + j * 4 + 1, none⟩) hx]
        exact hdd.cells 1 _ rfl
      have c3 : wr.cell? ⟨x, o + j * 4 + 3, none⟩ = some (.slice ka d.keep.length kc) := by
        rw [HB.out.cell (p := ⟨x, o + j * 4 + 3, none⟩) hx]
        exact hdd.cells 3 _ rfl
      clear hdd hdj hE
      by_cases q1 : 300 < d.b.length
      · have q1I : (300 : Int) < (d.b.length : Int) := by omega
        have hv : fewP ln ds = false := decide_eq_false fun h => by have := (h.2 d hdm).1; omega
        go_wp2_with fail
        go_returns
        exact ⟨by first | rfl | (rw [hv]; rfl) | simp, HB.out⟩
      · have q1I : ¬ (300 : Int) < (d.b.length : Int) := by omega
        by_cases q2 : 20 < d.keep.length
        · have q2I : (20 : Int) < (d.keep.length : Int) := by omega
          have hv : fewP ln ds = false := decide_eq_false fun h => by have := (h.2 d hdm).2; omega
          go_wp2_with fail
          go_returns
          exact ⟨by first | rfl | (rw [hv]; rfl) | simp, HB.out⟩
        · have q2I : ¬ (20 : Int) < (d.keep.length : Int) := by omega
          go_wp2_with fail
          refine ⟨⟨j + 1, by omega, by first | rfl | simp, HB.out, fun y hy => ?_⟩, by simp [intOf]; omega⟩
          rw [Hdj.out] at hy
          rcases List.mem_append.1 hy with hy | hy
          · exact HA.out y hy
          · rw [List.mem_singleton.1 hy]
            exact ⟨by omega, by omega⟩
    · have hjI : ¬ (j : Int) < (ln : Int) := by omega
      have hdl := HDS.out.length
      have hall2 : ∀ d ∈ ds, d.b.length ≤ 300 ∧ d.keep.length ≤ 20 := fun d hd => HA.out d (by rw [List.take_of_length_le (by omega)]; exact hd)
      have HA2 := hid hall2
      clear hall2
      by_cases q3 : ln ≤ 60
      · have q3I : (ln : Int) ≤ 60 := by omega
        have hv : fewP ln ds = true := decide_eq_true ⟨q3, HA2.out⟩
        go_wp2_with fail
        go_returns
        exact ⟨by first | rfl | (rw [hv]; rfl) | simp [q3I], HB.out⟩
      · have q3I : ¬ (ln : Int) ≤ 60 := by omega
        have hv : fewP ln ds = false := decide_eq_false fun h => q3 h.1
        go_wp2_with fail
        go_returns
        exact ⟨by first | rfl | (rw [hv]; rfl) | simp [q3I], HB.out⟩
end Go.Proofs.Ytmpgnpkodapidaa

namespace Go.Proofs.Ytmpgnpkodapidaa
open Go.ChangeShapes Go.WideShapes Go.ChangeAt Go.RowKit

def triC (t : Tri) : List Value := [.int .i64 t.key, .int .i64 t.index, strV t.m]
def triCs (l : List Tri) : List Value := l.flatMap triC
theorem triCs_length (l : List Tri) : (triCs l).length = l.length * 3 := by
  induction l with
  | nil => rfl
  | cons x xs ih =>
    show (triC x ++ triCs xs).length = (xs.length + 1) * 3
    rw [List.length_append, ih]
    show 3 + xs.length * 3 = _
    omega
theorem triCs_get (l : List Tri) : ∀ (j f : Nat) (hj : j < l.length), f < 3 → (triCs l)[j * 3 + f]? = (triC l[j])[f]? := by
  induction l with
  | nil => intro j f hj; simp at hj
  | cons x xs ih =>
    intro j f hj hf
    show (triC x ++ triCs xs)[j * 3 + f]? = _
    cases j with
    | zero => rw [Nat.zero_mul, Nat.zero_add, List.getElem?_append_left (by show f < 3; exact hf)]; rfl
    | succ j =>
      rw [List.getElem?_append_right (by show 3 ≤ _; omega), show (j + 1) * 3 + f - (triC x).length = j * 3 + f from by show (j + 1) * 3 + f - 3 = _; omega, ih j f (by simpa using hj) hf]
      rfl
theorem triCs_append (l : List Tri) (t : Tri) : triCs l ++ triC t = triCs (l ++ [t]) := by simp [triCs]
structure Rows15 (w : World) (N : Nat) (iv av : Value) (imgs : List (List Int)) (all : List Tri) : Prop where
  im : w.ownsRow N 9 1 iv imgs.length (imgs.map strV)
  al : w.ownsRow N 70 3 av all.length (triCs all)
  sm : ∀ B ∈ imgs, ∀ x ∈ B, 0 ≤ x ∧ x < 256
theorem Rows15.nil (w : World) (N : Nat) : Rows15 w N (.slice none 0 0) (.slice none 0 0) [] [] := ⟨World.ownsRow_nil w N _ 1, World.ownsRow_nil w N _ 3, by simp⟩
/-- Blocks of which none is a row's. -/
def Kinds (w : World) (S : List Nat) : Prop := ∀ b ∈ S, ∃ cs T, Blk w b cs T ∧ T ≠ 9 ∧ T ≠ 70
theorem Rows15.in_ {w w' : World} {N : Nat} {iv av : Value} {imgs : List (List Int)} {all : List Tri} {S : List Nat} (h : Rows15 w N iv av imgs all) (hb : FlowB.ButIn S w w') (hk : Kinds w S) : Rows15 w' N iv av imgs all :=
  ⟨owns_in h.im hb (fun b hb hm => by
    obtain ⟨cs, T, h1, h2, -⟩ := hk b hm
    exact owns_ne h1 h.im h2 b hb rfl), owns_in h.al hb (fun b hb hm => by
    obtain ⟨cs, T, h1, -, h2⟩ := hk b hm
    exact owns_ne h1 h.al h2 b hb rfl), h.sm⟩
theorem Rows15.below {w w' : World} {N : Nat} {iv av : Value} {imgs : List (List Int)} {all : List Tri} (h : Rows15 w N iv av imgs all) (hb : Below w.heap.size w w') : Rows15 w' N iv av imgs all :=
  h.in_ (S := []) (ButIn.of_below hb) (fun b hb => by simp at hb)
theorem SgW.kinds {w : World} {f p bb : Nat} {σ : Sg15} {tt bt : Int} {X : List Nat} (h : SgW w f p bb σ tt bt X) : Kinds w [p, bb, σ.q, f, σ.s] := by
  obtain ⟨ma, mc, h1, -⟩ := SoAt.sg h
  obtain ⟨tv, h3⟩ := SoAt.sl h
  obtain ⟨set, af, kv, h5, h6⟩ := SoAt.dk h
  have h4 := SoAt.fe h
  intro b hb
  simp only [List.mem_cons, List.not_mem_nil, or_false] at hb
  rcases hb with rfl | rfl | rfl | rfl | rfl
  · exact ⟨_, _, h5.kp, by decide, by decide⟩
  · exact ⟨_, _, h5.kb, by decide, by decide⟩
  · exact ⟨_, _, h3, by decide, by decide⟩
  · exact ⟨_, _, h4, by decide, by decide⟩
  · exact ⟨_, _, h1, by decide, by decide⟩
theorem OffAt.kinds {w : World} {f p bb : Nat} {G K R : Int} {B : List Int} (h : OffAt w f p bb G K R B) : Kinds w [p, bb, f] := by
  obtain ⟨set, af, kv, h5⟩ := h.dk
  intro b hb
  simp only [List.mem_cons, List.not_mem_nil, or_false] at hb
  rcases hb with rfl | rfl | rfl
  · exact ⟨_, _, h5.kp, by decide, by decide⟩
  · exact ⟨_, _, h5.kb, by decide, by decide⟩
  · exact ⟨_, _, h.fe, by decide, by decide⟩
theorem owns_cell {w : World} {N : Nat} {e : TypeId} {v : Value} {n s : Nat} {xs : List Value} (h : w.ownsRow N e s v n xs) (hn : 0 < n) :
    ∃ g cap, v = .slice (some ⟨g, 0, none⟩) n cap ∧ N ≤ g ∧ g < w.heap.size ∧ n ≤ cap ∧ ∀ (j : Nat) (u : Value), xs[j]? = some u → w.cell? ⟨g, 0 + j, none⟩ = some u := by
  obtain ⟨h1, h2 | ⟨g, cap, cur, rfl, hg, hh, h3, h4, h5, h6⟩⟩ := h
  · omega
  · refine ⟨g, cap, rfl, hg, (Array.getElem?_eq_some_iff.1 hh).1, h3, fun j u hj => ?_⟩
    have k : Blk w g cur e := hh
    rw [Nat.zero_add, k.cell]
    rw [← h6, List.getElem?_take] at hj
    split at hj
    · simpa using hj
    · cases hj
theorem owns_sliceM {w : World} {N : Nat} {e : TypeId} {v : Value} {n s : Nat} {xs : List Value} (h : w.ownsRow N e s v n xs) : ∃ a cap, v = .slice a n cap := by
  obtain ⟨h1, h2 | ⟨g, cap, cur, rfl, hg, hh, h3, h4, h5, h6⟩⟩ := h
  · exact ⟨none, 0, by rw [h2.1, h2.2]⟩
  · exact ⟨_, _, rfl⟩
theorem Rows15.img {w : World} {N : Nat} {iv av : Value} {imgs : List (List Int)} {all : List Tri} (h : Rows15 w N iv av imgs all) (j : Nat) (hj : j < imgs.length) : ∃ g cap, iv = .slice (some ⟨g, 0, none⟩) imgs.length cap ∧ g < w.heap.size ∧ w.cell? ⟨g, 0 + j, none⟩ = some (strV imgs[j]) := by
  obtain ⟨g, cap, h1, -, h2, -, h3⟩ := owns_cell h.im (by omega)
  exact ⟨g, cap, h1, h2, h3 j _ (by rw [List.getElem?_map, List.getElem?_eq_getElem hj]; rfl)⟩
theorem Rows15.tri {w : World} {N : Nat} {iv av : Value} {imgs : List (List Int)} {all : List Tri} (h : Rows15 w N iv av imgs all) (j : Nat) (hj : j < all.length) : ∃ g cap, av = .slice (some ⟨g, 0, none⟩) all.length cap ∧ g < w.heap.size ∧ w.cell? ⟨g, 0 + j * 3, none⟩ = some (.int .i64 all[j].key) ∧ w.cell? ⟨g, 0 + j * 3 + 1, none⟩ = some (.int .i64 all[j].index) ∧ w.cell? ⟨g, 0 + j * 3 + 2, none⟩ = some (strV all[j].m) := by
  obtain ⟨g, cap, h1, -, h2, -, h3⟩ := owns_cell h.al (by omega)
  refine ⟨g, cap, h1, h2, h3 _ _ ((triCs_get all j 0 hj (by omega)).trans rfl), ?_, ?_⟩
  · rw [Nat.add_assoc]; exact h3 _ _ ((triCs_get all j 1 hj (by omega)).trans rfl)
  · rw [Nat.add_assoc]; exact h3 _ _ ((triCs_get all j 2 hj (by omega)).trans rfl)
theorem info_got : ∃ i zv, Try.prog.info? 70 = some i ∧ i.zero = some zv ∧ zv.cells.size = 3 ∧ i.size = 3 ∧ i.bytes = 32 := by
  obtain ⟨i0, hi, h⟩ := Option.map_eq_some_iff.1 (show (Try.prog.info? 70).map (fun i => (i.zero, i.size, i.bytes)) = some (some (.agg #[.int .i64 0, .int .i64 0, .string { data := #[] }]), 3, 32) by kernel_rfl)
  simp only [Prod.mk.injEq] at h
  exact ⟨i0, _, hi, h.1, rfl, h.2.1, h.2.2⟩
theorem size_deed15 : (Try.prog.info? 66).map (·.size) = some 4 := by kernel_rfl
theorem build_got (k a : Int) (s : ByteArray) (w : World) : (Instr.build 70 #[(0, .int .i64 k), (1, .int .i64 a), (2, .string s)]).run Try.prog w = .ok (.agg #[.int .i64 k, .int .i64 a, .string s]) w := by
  refine run_build w _ _ _ ?_
  obtain ⟨i0, hi, hz0⟩ := Option.map_eq_some_iff.1 (show (Try.prog.info? 70).map (·.zero) = some (some (.agg #[.int .i64 0, .int .i64 0, .string { data := #[] }])) by kernel_rfl)
  obtain ⟨fields, hu, hq⟩ : ∃ fields, Try.prog.underlying 70 = some (.struct fields) ∧ fields.toList.mapM (fun f => (Try.prog.info? f.type).map fun i => (f.offset, i.size)) = some [(0, 1), (1, 1), (2, 1)] := ⟨_, Try.underlying70, by kernel_rfl⟩
  have hz : (Value.agg #[.int .i64 0, .int .i64 0, .string { data := #[] }]).cells = #[.int .i64 0, .int .i64 0, .string { data := #[] }] := rfl
  unfold Program.built
  simp only [hi, hu, hz0, hq, hz]
  have t0 : splice ([.int .i64 0, .int .i64 0, .string { data := #[] }] : List Value) 0 (Value.int .i64 k).cells.toList = [.int .i64 k, .int .i64 0, .string { data := #[] }] := by rfl
  have t1 : splice ([.int .i64 k, .int .i64 0, .string { data := #[] }] : List Value) 1 (Value.int .i64 a).cells.toList = [.int .i64 k, .int .i64 a, .string { data := #[] }] := by rfl
  have t2 : splice ([.int .i64 k, .int .i64 a, .string { data := #[] }] : List Value) 2 (Value.string s).cells.toList = [.int .i64 k, .int .i64 a, .string s] := by rfl
  rw [fill_part _ _ 0 0 _ _ (by rfl) (by show 0 + 1 ≤ 3; omega), t0]
  rw [fill_part _ _ 1 1 _ _ (by rfl) (by show 1 + 1 ≤ 3; omega), List.toList_toArray, t1]
  rw [fill_part _ _ 2 2 _ _ (by rfl) (by show 2 + 1 ≤ 3; omega), List.toList_toArray, t2, Instr.fill]
/-- A row's block is written to, or left for a new one. -/
theorem SgW.grow {w w' : World} {f p bb : Nat} {σ : Sg15} {tt bt : Int} {X X' S : List Nat} (h : SgW w f p bb σ tt bt X) (hb : FlowB.ButIn S w w') (hS : ∀ b ∈ S, b ∈ X ∧ b ∉ [p, bb, σ.q, f, σ.s]) (hX : ∀ b ∈ X', b ∈ X ∨ w.heap.size ≤ b) (hX' : ∀ b ∈ X', b < w'.heap.size) : SgW w' f p bb σ tt bt X' := by
  have h := (show SoAt w σ.s σ.q f p bb σ.T σ.g σ.k σ.r σ.ik σ.ii σ.m σ.nx tt bt σ.B X from h)
  obtain ⟨ma, mc, h1, h2, h3⟩ := h.sg
  obtain ⟨tv, h4⟩ := h.sl
  obtain ⟨set, af, kv, h5, h6⟩ := h.dk
  have hz := hb.size
  have hL := h.lts
  have nS : ∀ c ∈ [p, bb, σ.q, f, σ.s], c ∉ S := fun c hc hm => (hS c hm).2 hc
  refine { h with sg := ⟨ma, mc, hb.blk h1 (nS _ (by simp)), ⟨h2.text.butIn (fun x hx hm => (h3 x hx).2 (hS _ hm).1) hb, h2.out⟩, fun x hx => ⟨by have := (h3 x hx).1; omega, fun hm => ?_⟩⟩, sl := ⟨tv, hb.blk h4 (nS _ (by simp))⟩, fe := hb.blk h.fe (nS _ (by simp)), dk := ⟨set, af, kv, ⟨hb.blk h5.kp (nS _ (by simp)), hb.blk h5.kb (nS _ (by simp)), h5.ne, h5.len, h5.z1, h5.z2, h5.n1, h5.n2, h5.small⟩, ?_⟩, xb := hX' }
  · rcases hX _ hm with hm | hm
    · exact (h3 x hx).2 hm
    · have := (h3 x hx).1
      omega
  · obtain h6 | ⟨e1, e2, ka, kc, ks, e3, e4, e5⟩ := h6
    · exact .inl h6
    · refine .inr ⟨e1, e2, ka, kc, ks, e3, e4.grow (ButIn.wide hb (fun b hm => List.mem_append_left _ (hS b hm).1)) (fun b hm => ?_), e5⟩
      rcases List.mem_append.1 hm with hm | hm
      · exact (hX b hm).imp (List.mem_append_left _) id
      · exact .inl (List.mem_append_right _ hm)
/-- A message more in the row. -/
theorem wpList_append_got {w : World} {N b n : Nat} {t : Tri} {v : Value} {xs : List Value} {ops : Array Oper} {rest : List Oper} {o : Oper} {A : Act} {Q : Exit → Act → World → Prop} (hgd : o.guard = none) (s x : Operand) (ho : o.op = .call { callee := .builtin .append, args := #[s, x], argTypes := #[64, 64] })
    (hs : A.eval s = v) (hown : w.ownsRow N 70 3 v n xs) (hx : A.eval x = .slice (some ⟨b, 0, none⟩) 1 1) (hk : Blk w b (triC t).toArray 70) (hn : n ≤ 1000) (hN : N ≤ w.heap.size)
    (h : ∀ v' w', w'.ownsRow N 70 3 v' (n + 1) (xs ++ triC t) → FlowB.ButIn v.ownBlock.toList w w' → (v'.ownBlock = v.ownBlock ∨ v'.ownBlock = some w.heap.size) → wpList Try.prog ops Q rest (A.put o.dst v') w') : wpList Try.prog ops Q (o :: rest) A w :=
  wpList_plain hgd fun K hK => by
    obtain ⟨i, zv, hi, hz, hz3, hsize, hby⟩ := info_got
    obtain ⟨v', w', hr, h2, h3, _, h5⟩ := run_append_own_at (P := Try.prog) w N 64 o.type 70 i zv 3 32 Try.underlying64 hi hz hsize hby hz3 (by omega) v n xs hown ⟨b, 0, none⟩ 1 1 (triC t) rfl (news_blk (cs := triC t) hk) (fun x hx => by
      simp only [triC, List.mem_cons, List.not_mem_nil, or_false] at hx
      rcases hx with rfl | rfl | rfl <;> rfl) (by unfold maxLen; omega) (by omega) hN
    unfold Oper.wp execOp
    simp only [ho, resolve, invoke, builtin, Sem.run_bind, Sem.run_pure, Result.andThen_ok, List.map_toArray, List.map_cons, List.map_nil, hs, hx, hr, Oper.upon_value]
    exact hK _ _ (h v' w' h2 (grown_in h3) h5)
end Go.Proofs.Ytmpgnpkodapidaa
