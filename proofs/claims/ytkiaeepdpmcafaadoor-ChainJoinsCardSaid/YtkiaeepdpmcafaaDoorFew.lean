/-
  Contract of the reference's Few: are parts few, and not too long together?
-/
import Derived.Test.YtkiaeepdpmcafaaDoorOwn
namespace Go.Proofs.YtkiaeepdpmcafaaDoor
open Go.RowKit

def sumLen (ts : List (List Int)) : Nat := (ts.map List.length).sum
theorem sumLen_take (ts : List (List Int)) (k : Nat) (h : k < ts.length) : sumLen (ts.take (k + 1)) = sumLen (ts.take k) + (ts.getD k []).length := by
  unfold sumLen
  rw [List.take_succ_eq_append_getElem h, List.map_append, List.sum_append, show ts.getD k [] = ts[k] by simp [h]]
  simp
theorem sumLen_le (ts : List (List Int)) (k : Nat) : sumLen (ts.take k) ≤ sumLen ts := by
  have h : ts = ts.take k ++ ts.drop k := (List.take_append_drop k ts).symm
  have : sumLen ts = sumLen (ts.take k) + sumLen (ts.drop k) := by
    unfold sumLen
    rw [← List.sum_append, ← List.map_append, List.take_append_drop]
  omega
theorem flatten_length (ts : List (List Int)) : ts.flatten.length = sumLen ts := by
  unfold sumLen
  rw [List.length_flatten]
theorem flatten_take (ts : List (List Int)) (k : Nat) (h : k < ts.length) : (ts.take (k + 1)).flatten = (ts.take k).flatten ++ ts.getD k [] := by
  rw [List.take_succ_eq_append_getElem h, List.flatten_append, show ts.getD k [] = ts[k] by simp [h]]
  simp
theorem flatten_small (ts : List (List Int)) (h : ∀ t ∈ ts, ∀ x ∈ t, 0 ≤ x ∧ x < 256) : ∀ x ∈ ts.flatten, 0 ≤ x ∧ x < 256 := by
  intro x hx
  rw [List.mem_flatten] at hx
  obtain ⟨t, ht, hx⟩ := hx
  exact h t ht x hx

theorem sumLen_bound (ts : List (List Int)) (m : Nat) (h : ∀ t ∈ ts, t.length ≤ m) : sumLen ts ≤ ts.length * m := by
  unfold sumLen
  induction ts with
  | nil => simp
  | cons t ts ih =>
    have h1 := ih (fun t h' => h t (by simp [h']))
    have h2 := h t (by simp)
    simp only [List.map_cons, List.sum_cons, List.length_cons, Nat.succ_mul]
    omega

/-- Few, as a Bool. -/
def fewB (ts : List (List Int)) (most : Nat) : Bool := decide (sumLen ts ≤ most) && decide (ts.length ≤ 100)

set_option maxRecDepth 100000 in
set_option maxHeartbeats 1000000 in
theorem few_small (a : Option Addr) (n c : Nat) (ts : List (List Int)) (most : Nat) (w : World) (hT : TextsAt w a n c ts) (hr : ∀ t ∈ ts, t.length ≤ 140737488351232) (hn : n ≤ 100) :
    Calls Tryd.prog 12 #[.slice a n c, .int .i64 most] w fun e w' => e = .returned (.bool (decide (sumLen ts ≤ most))) ∧ w = w' := by
  have HT := hid hT
  have Hl := hid hT.length
  have Hr := hid hr
  clear hT hr
  have hb : sumLen ts ≤ 14073748835123200 := by
    have key : ∀ m : Nat, (∀ t ∈ ts, t.length ≤ m) → sumLen ts ≤ 100 * m := fun m h => by
      have h1 := sumLen_bound ts m h
      have h2 : ts.length * m ≤ 100 * m := Nat.mul_le_mul_right _ (by rw [Hl.out]; exact hn)
      omega
    exact key _ Hr.out
  go_enter Tryd.func12, Tryd.ntmps12
  go_wp2
  go_loop [5, 6] (fun s i => ∃ k : Nat, k ≤ n ∧ i = .int .i64 k ∧ s = .int .i64 (sumLen (ts.take k) : Nat)) (fun _ i => n - (intOf i).toNat)
  case atStart => exact ⟨0, by omega, rfl, rfl⟩
  case round =>
    obtain ⟨k, hk, rfl, rfl⟩ := hrel
    by_cases hlt : k < n
    · obtain ⟨x, o, a', l', c', rfl, hx, hc, ht⟩ := HT.out.at_ k hlt
      have hkt : k < ts.length := by rw [Hl.out]; exact hlt
      have HS := hid (sumLen_take ts k hkt)
      have hle := sumLen_le ts (k + 1)
      rw [HS.out, ht.length] at hle
      have HL := hid ht.length
      clear ht hkt
      generalize sumLen (ts.take k) = s at *
      go_wp2
      go_round
      case rel => exact ⟨k + 1, by omega, by go_num, by rw [HS.out, HL.out]; go_num⟩
      case measure => simp [intOf]; omega
    · obtain rfl : k = n := by omega
      rw [List.take_of_length_le (by rw [Hl.out]; omega)]
      by_cases hs : sumLen ts ≤ most
      · have h1 : decide ((sumLen ts : Int) ≤ (most : Int)) = true := by simp; omega
        have h2 : decide ((k : Int) ≤ 100) = true := by simp; omega
        go_wp2
        go_ret
        exact ⟨by simp, rfl⟩
      · have h1 : decide ((sumLen ts : Int) ≤ (most : Int)) = false := by simp; omega
        go_wp2
        go_ret
        exact ⟨by simp, rfl⟩

set_option maxHeartbeats 1000000 in
theorem few_large (a : Option Addr) (n c : Nat) (ts : List (List Int)) (most : Nat) (w : World) (hT : TextsAt w a n c ts) (hn : 100 < n) :
    Calls Tryd.prog 12 #[.slice a n c, .int .i64 most] w fun e w' => e = .returned (.bool false) ∧ w = w' := by
  have hmx := Nat.le_trans hT.le hT.max
  have HT := hid hT
  clear hT
  go_enter Tryd.func12, Tryd.ntmps12
  go_wp2
  go_loop [5, 6] (fun s i => ∃ (k : Nat) (x : Int), k ≤ n ∧ i = .int .i64 k ∧ s = .int .i64 x) (fun _ i => n - (intOf i).toNat)
  case atStart => exact ⟨0, 0, by omega, rfl, rfl⟩
  case round =>
    obtain ⟨k, s, hk, rfl, rfl⟩ := hrel
    by_cases hlt : k < n
    · obtain ⟨x, o, a', l', c', rfl, hx, hc, ht⟩ := HT.out.at_ k hlt
      clear ht
      go_wp2
      go_round
      case rel => exact ⟨k + 1, _, by omega, by go_num, rfl⟩
      case measure => simp [intOf]; omega
    · obtain rfl : k = n := by omega
      have h2 : decide ((k : Int) ≤ 100) = false := by simp; omega
      by_cases hs : s ≤ (most : Int)
      · have h1 : decide (s ≤ (most : Int)) = true := by simp; omega
        go_wp2
        go_ret
        exact ⟨rfl, rfl⟩
      · have h1 : decide (s ≤ (most : Int)) = false := by simp; omega
        go_wp2
        go_ret
        exact ⟨rfl, rfl⟩

theorem few_any (a : Option Addr) (n c : Nat) (ts : List (List Int)) (most : Nat) (w : World) (hT : TextsAt w a n c ts) (hr : ∀ t ∈ ts, t.length ≤ 140737488351232) :
    Calls Tryd.prog 12 #[.slice a n c, .int .i64 most] w fun e w' => e = .returned (.bool (fewB ts most)) ∧ w = w' := by
  have hl := hT.length
  unfold fewB
  by_cases hn : n ≤ 100
  · rw [show decide (ts.length ≤ 100) = true by simp; omega, Bool.and_true]
    exact few_small a n c ts most w hT hr hn
  · rw [show decide (ts.length ≤ 100) = false by simp; omega, Bool.and_false]
    exact few_large a n c ts most w hT (by omega)

theorem fewB_spec {ts : List (List Int)} {most : Nat} (h : fewB ts most = true) : sumLen ts ≤ most ∧ ts.length ≤ 100 := by
  simpa [fewB] using h
theorem len_le_sum {ts : List (List Int)} {most : Nat} (h : sumLen ts ≤ most) : ∀ t ∈ ts, t.length ≤ most := by
  intro t ht
  have : t.length ≤ sumLen ts := by
    clear h
    unfold sumLen
    induction ts with
    | nil => cases ht
    | cons x ts ih =>
      simp only [List.map_cons, List.sum_cons]
      rcases List.mem_cons.1 ht with rfl | h
      · omega
      · have := ih h; omega
  omega
end Go.Proofs.YtkiaeepdpmcafaaDoor
