/-
  Contract of pack.Row: the bytes of texts, in new memory.
-/
import Derived.Test.YtkiaeepdpmcafaaContains
import Derived.Test.YtkiaeepdpmcafaaPackRefNum
namespace Go.Proofs.Ytkiaeepdpmcafaa
open Go.ChangeShapes Go.WideShapes Go.ChangeAt Go.RowKit

def rowB (ts : List (List Int)) : List Int := ts.flatMap fun t => be 2 t.length ++ t

theorem rowB_take (ts : List (List Int)) (k : Nat) (h : k < ts.length) : rowB (ts.take (k + 1)) = rowB (ts.take k) ++ (be 2 (ts.getD k []).length ++ ts.getD k []) := by
  unfold rowB
  rw [List.take_succ_eq_append_getElem h, List.flatMap_append, List.flatMap_singleton, show ts.getD k [] = ts[k] by simp [h]]

theorem rowB_length (ts : List (List Int)) (ht : ∀ t ∈ ts, t.length ≤ 65535) : (rowB ts).length ≤ ts.length * 65537 := by
  unfold rowB
  induction ts with
  | nil => simp
  | cons t ts ih =>
    have h1 := ih (fun t h => ht t (by simp [h]))
    have h2 := ht t (by simp)
    simp only [List.flatMap_cons, List.length_append, be_length, List.length_cons]
    omega

set_option maxHeartbeats 4000000 in
theorem row_any (ra : Option Addr) (n c : Nat) (ts : List (List Int)) (w : World) (hT : TextsAt w ra n c ts) (hn : n ≤ 65535) (hts : ∀ t ∈ ts, t.length ≤ 65535) :
    Calls Try.prog 43 #[.slice ra n c] w fun e w' => ∃ g m cap, e = .returned (.tuple #[.slice (some ⟨g, 0, none⟩) m cap, .int .i64 0]) ∧ m = 2 + (rowB ts).length ∧ m ≤ cap ∧ cap ≤ 9223372036854775807 ∧ w.heap.size ≤ g ∧ Below w.heap.size w w' ∧ Row8 w' g (be 2 n ++ rowB ts) := by
  obtain ⟨i0, hi, hz0, hz1, hz2⟩ := info_parts info_byte
  have hcon := contains_none ra n c ts w hT hts
  have hl := hT.length
  have h1 : decide ((65535 : Int) < (n : Int)) = false := by simp; omega
  have Hr := hid hT
  have Hl := hid hl
  have Hts := hid hts
  clear hT hl hts
  go_enter Try.func43, Try.ntmps43
  go_wp2_with (first | (go_at_call 49; refine hcon.mono ?_; rintro e w5 ⟨rfl, rfl⟩) | (go_at_call 40; refine (number_any n 2 2 _ (by omega) (by omega) (by decide)).mono ?_; rintro e w2 ⟨g0, hg0, rfl, bel, kB⟩))
  have hown : w2.ownsRow w.heap.size 5 1 (.slice (some ⟨g0, 0, none⟩) 2 2) 2 ((be 2 n).map (Value.int .u8)) :=
    ⟨by simp [be_length], .inr ⟨g0, 2, _, rfl, hg0, kB, by omega, by decide, by simp [be_length], by simp; exact List.take_of_length_le (by simp [be_length])⟩⟩
  clear kB
  go_loopw [4, 20] (fun v i wr => ∃ k : Nat, k ≤ n ∧ i = .int .i64 k ∧ ∃ g L cap, v = .slice (some ⟨g, 0, none⟩) L cap ∧ L = 2 + (rowB (ts.take k)).length ∧ wr.ownsRow w.heap.size 5 1 v L ((be 2 n ++ rowB (ts.take k)).map (Value.int .u8)) ∧ Below w.heap.size w wr) (fun _ i _ => n - (intOf i).toNat)
  case atStart => exact ⟨0, by omega, rfl, g0, 2, 2, rfl, by simp [rowB], by simpa [rowB] using hown, bel⟩
  case round =>
    clear hown bel
    obtain ⟨k, hk, rfl, g, L, cap, rfl, hL, hown, bel⟩ := hrel
    by_cases hlt : k < n
    · obtain ⟨r, off, a, len, tc, rfl, hrl, hc, hT⟩ := Hr.out.at_ k hlt
      have hcw : wr.cell? ⟨r, off + k, none⟩ = some (.slice a len tc) := (bel.cell (p := ⟨r, off + k, none⟩) hrl).trans hc
      have hkt : k < ts.length := by rw [Hl.out]; exact hlt
      have HS := hid (rowB_take ts k hkt)
      have htl : (ts.getD k []).length ≤ 65535 := by
        rw [show ts.getD k [] = ts[k] by simp [hkt]]
        exact Hts.out _ (List.getElem_mem _)
      have hB : (rowB (ts.take k)).length ≤ k * 65537 := by
        have := rowB_length (ts.take k) (fun t h => Hts.out t (List.mem_of_mem_take h))
        rwa [List.length_take, Nat.min_eq_left (by omega)] at this
      generalize ts.getD k [] = t at *
      generalize rowB (ts.take k) = RB at *
      have hlen := hT.length
      have HT := hid hT
      have HLen := hid hlen
      clear hT hc hrl
      have hL2 : L ≤ 4294967295 := by omega
      have HL := hid hL
      clear hL
      go_wp2_with (first | (go_at_call 40; refine (number_any len 2 2 _ (by omega) (by omega) (by decide)).mono ?_; rintro e w3 ⟨gN, hgN, rfl, b3, kN⟩; replace hown := owns_below hown b3; replace bel := Below.on bel b3) | (at_builtin; refine wpList_append_own _ rfl _ _ 56 rfl w.heap.size 5 i0 (.int .u8 0) 1 1 Try.underlying56 hi hz0 hz1 hz2 rfl (by decide) (.slice (some ⟨g, 0, none⟩) L cap) L _ rfl hown ⟨gN, 0, none⟩ 2 2 ((be 2 len).map (Value.int .u8)) rfl ?c0 ?c1 ?c2 ?c3 ?c4 ?c5 ?_))
      case c0 => simp [be_length]
      case c1 => exact news_blk kN
      case c2 => intro u hu; simp only [List.mem_map] at hu; obtain ⟨y, _, rfl⟩ := hu; rfl
      case c3 => unfold maxLen; omega
      case c4 => omega
      case c5 => exact bel.size
      intro v' w4 hown4 hgrow hnil
      have bel4 := bel.grown hgrow bel.size (fun q hq => by have := hown.lt q hq; omega)
      have hv : ∃ g cap, v' = .slice (some ⟨g, 0, none⟩) (L + 2) cap := by
        obtain ⟨_, h | ⟨g, cap, cur, h, _⟩⟩ := hown4
        · omega
        · exact ⟨g, cap, h⟩
      obtain ⟨g', cap', rfl⟩ := hv
      clear hown hgrow hnil kN b3 bel
      rcases HT.out.mem with ⟨rfl, rfl, rfl⟩ | ⟨x, o, s, rfl, _⟩
      · have ht0 : t = [] := List.eq_nil_of_length_eq_zero HLen.out
        rw [ht0] at HS
        have HS2 := hid (show rowB (ts.take (k + 1)) = RB ++ be 2 0 by rw [HS.out]; simp)
        clear HS
        have hcap : L + 2 ≤ cap' := by
          obtain ⟨_, h | ⟨_, _, _, h, _, _, hle, _⟩⟩ := hown4
          · omega
          · injection h with e1 e2 e3
            omega
        go_wp2_with (at_builtin; refine wpList_append_fits_any _ rfl _ _ 56 rfl w.heap.size 5 i0 1 Try.underlying56 hi hz1 g' (L + 2) cap' _ rfl hown4 none 0 0 [] rfl rfl (fun _ => ⟨rfl, rfl⟩) (fun _ h => by cases h) (fun _ h => by cases h) ?c6 ?_)
        case c6 => omega
        intro w5 hown5 hgrow
        have bel5 := bel4.grown hgrow bel4.size (fun q hq => by have := hown4.lt q hq; omega)
        clear hown4 hgrow bel4
        go_wp2_with fail
        refine ⟨⟨k + 1, by omega, by go_num, g', L + 2, cap', rfl, ?_, ?_, bel5⟩, by simp [intOf]; omega⟩
        · rw [HS2.out, List.length_append, be_length, HL.out]; omega
        · rw [HS2.out]
          simpa only [List.map_append, List.append_assoc] using hown5
      · have hnews := (HT.out.below bel4).news
        go_wp2_with (at_builtin; refine wpList_append_own _ rfl _ _ 56 rfl w.heap.size 5 i0 (.int .u8 0) 1 1 Try.underlying56 hi hz0 hz1 hz2 rfl (by decide) (.slice (some ⟨g', 0, none⟩) (L + 2) cap') (L + 2) _ rfl hown4 ⟨x, o, s⟩ len tc (t.map (Value.int .u8)) rfl ?c0 ?c1 ?c2 ?c3 ?c4 ?c5 ?_)
        case c0 => simp [HLen.out]
        case c1 => exact hnews
        case c2 => intro u hu; simp only [List.mem_map] at hu; obtain ⟨y, _, rfl⟩ := hu; rfl
        case c3 => unfold maxLen; omega
        case c4 => omega
        case c5 => exact bel4.size
        intro v' w5 hown5 hgrow hnil
        have bel5 := bel4.grown hgrow bel4.size (fun q hq => by have := hown4.lt q hq; omega)
        have hv : ∃ g cap, v' = .slice (some ⟨g, 0, none⟩) (L + 2 + len) cap := by
          obtain ⟨_, h | ⟨g, cap, cur, h, _⟩⟩ := hown5
          · omega
          · exact ⟨g, cap, h⟩
        obtain ⟨g2, cap2, rfl⟩ := hv
        clear hown4 hgrow hnil hnews bel4
        go_wp2_with fail
        refine ⟨⟨k + 1, by omega, by go_num, g2, L + 2 + len, cap2, rfl, ?_, ?_, bel5⟩, by simp [intOf]; omega⟩
        · rw [HS.out, List.length_append, List.length_append, be_length, HLen.out, HL.out]; omega
        · rw [HS.out, HLen.out]
          simpa only [List.map_append, List.append_assoc] using hown5
    · obtain rfl : k = n := by omega
      rw [List.take_of_length_le (by rw [Hl.out]; omega)] at hL hown
      obtain ⟨hg, hrow⟩ := Row8.of_owns (bs := be 2 k ++ rowB ts) hown
      have hcap : L ≤ cap ∧ cap ≤ 9223372036854775807 := by
        obtain ⟨_, h | ⟨_, _, _, h, _, _, hle, hmx, _⟩⟩ := hown
        · omega
        · injection h with e1 e2 e3
          unfold maxLen at hmx
          omega
      clear hown
      go_wp2_with fail
      go_ret2
      exact ⟨g, L, cap, rfl, hL, hcap.1, hcap.2, hg, bel, hrow⟩
end Go.Proofs.Ytkiaeepdpmcafaa
