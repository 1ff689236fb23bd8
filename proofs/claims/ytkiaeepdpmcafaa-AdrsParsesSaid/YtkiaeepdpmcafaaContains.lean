/-
  Contract of slices.ContainsFunc with pack.tooLong, where no text is too long.
-/
import Derived.Test.YtkiaeepdpmcafaaText
namespace Go.Proofs.Ytkiaeepdpmcafaa
open Go.ChangeShapes Go.WideShapes Go.ChangeAt Go.RowKit

theorem toolong_any (a : Option Addr) (len cap : Nat) (w : World) (h : len ≤ 65535) :
    Calls Try.prog 50 #[.slice a len cap] w fun e w' => e = .returned (.bool false) ∧ w = w' := by
  have h1 : decide ((65535 : Int) < (len : Int)) = false := by simp; omega
  go_enter Try.func50, Try.ntmps50
  go_wp2
  go_ret
  exact ⟨rfl, rfl⟩

theorem texts_len {w : World} {a : Option Addr} {n c : Nat} {ts : List (List Int)} (hT : TextsAt w a n c ts) (hts : ∀ t ∈ ts, t.length ≤ 65535) (k : Nat) (hk : k < n) : (ts.getD k []).length ≤ 65535 := by
  have := hT.length
  rw [show ts.getD k [] = ts[k]'(by omega) by simp [show k < ts.length by omega]]
  exact hts _ (List.getElem_mem _)

set_option maxHeartbeats 1000000 in
theorem index_none (a : Option Addr) (n c : Nat) (ts : List (List Int)) (w : World) (hT : TextsAt w a n c ts) (hts : ∀ t ∈ ts, t.length ≤ 65535) :
    Calls Try.prog 53 #[.slice a n c, .func (.func 50) #[] #[]] w fun e w' => e = .returned (.int .i64 (-1)) ∧ w = w' := by
  have hn : n ≤ 9223372036854775807 := Nat.le_trans hT.le hT.max
  have HT := hid hT
  have Hts := hid hts
  clear hT hts
  go_enter Try.func53, Try.ntmps53
  go_wp2
  go_loop [8] (fun i => ∃ k : Nat, k ≤ n ∧ i = .int .i64 k) (fun i => n - (intOf i).toNat)
  case atStart => exact ⟨0, by omega, rfl⟩
  case round =>
    obtain ⟨k, hk, rfl⟩ := hrel
    by_cases hlt : k < n
    · obtain ⟨x, o, a', l', c', rfl, hx, hc, ht⟩ := HT.out.at_ k hlt
      have ht := toolong_any a' l' c' w (by rw [← ht.length]; exact texts_len HT.out Hts.out k hlt)
      go_wp2_with (go_at_call 50; refine ht.mono ?_; rintro e w5 ⟨rfl, rfl⟩)
      go_round
      case rel => exact ⟨k + 1, by omega, by go_num⟩
      case measure => simp [intOf]; omega
    · obtain rfl : k = n := by omega
      go_wp2
      go_ret
      exact ⟨rfl, rfl⟩

theorem contains_none (a : Option Addr) (n c : Nat) (ts : List (List Int)) (w : World) (hT : TextsAt w a n c ts) (hts : ∀ t ∈ ts, t.length ≤ 65535) :
    Calls Try.prog 49 #[.slice a n c, .func (.func 50) #[] #[]] w fun e w' => e = .returned (.bool false) ∧ w = w' := by
  have h := index_none a n c ts w hT hts
  go_enter Try.func49, Try.ntmps49
  go_wp2_with (go_at_call 53; refine h.mono ?_; rintro e w5 ⟨rfl, rfl⟩)
  go_ret
  exact ⟨rfl, rfl⟩
end Go.Proofs.Ytkiaeepdpmcafaa
