/-
  Contract of planchetref01.Join: parts, one behind the other.
-/
import Derived.Test.YtkiaeepdpmcafaaDoorFew
import Derived.Test.YtkiaeepdpmcafaaDoorOwn
import Derived.Test.YtkiaeepdpmcafaaDoorBytes
import Derived.Test.YtkiaeepdpmcafaaDoorNumber
namespace Go.Proofs.YtkiaeepdpmcafaaDoor
open Go.ChangeShapes Go.WideShapes Go.ChangeAt Go.RowKit

set_option maxHeartbeats 4000000 in
theorem join_any (a : Option Addr) (len cap : Nat) (ts : List (List Int)) (w : World) (hT : TextsAt w a len cap ts) (hbnd : sumLen ts ≤ 140737488355328) :
    Calls Tryd.prog 16 #[.slice a len cap] w fun e w' => ∃ v, e = .returned v ∧ OwnB w' w.heap.size 5 v ts.flatten ∧ Below w.heap.size w w' := by
  have hlen : ts.length = len := hT.length
  have hcp := hT.le
  have hmx := hT.max
  have HT := hid hT
  clear hT
  obtain ⟨i0, hi, hz0, hz1, hz2⟩ := info_parts info_byte
  go_enter Tryd.func16, Tryd.ntmps16
  go_wp2_with fail
  go_loopw [3, 4] (fun v i wr => ∃ k : Nat, k ≤ len ∧ i = .int .i64 k ∧ OwnB wr w.heap.size 5 v (ts.take k).flatten ∧ Below w.heap.size w wr) (fun _ i _ => len - (intOf i).toNat)
  case atStart => exact ⟨0, by omega, rfl, by simpa using OwnB.nil w w.heap.size 5, Below.refl _ _⟩
  case round =>
    obtain ⟨k, hk, rfl, hown, bel⟩ := hrel
    have Hown := hid hown
    have Hbel := hid bel
    have hsz := bel.size
    clear hown bel
    by_cases hlt : k < len
    · obtain ⟨r, off, a', l', c', rfl, hrl, hc, hTk⟩ := HT.out.at_ k hlt
      have hcw : wr.cell? ⟨r, off + k, none⟩ = some (.slice a' l' c') := (Hbel.out.cell (p := ⟨r, off + k, none⟩) hrl).trans hc
      have hTw := hid (hTk.below Hbel.out)
      have HF := hid (flatten_take ts k (by omega))
      have hsl : (ts.take k).flatten.length + l' ≤ 140737488355328 := by
        have e1 := sumLen_take ts k (by omega)
        have e2 := sumLen_le ts (k + 1)
        have e3 := flatten_length (ts.take k)
        have e4 := hTk.length
        omega
      have Hsl := hid hsl
      clear hTk hc hsl
      generalize ts.getD k [] = tk at *
      go_wp2_with (at_builtin; refine wpList_append_text rfl _ _ rfl Tryd.underlying29 hi hz0 hz1 hz2 rfl Hown.out rfl hTw.out ?c1 ?c2 ?_)
      case c1 => exact Hsl.out
      case c2 => exact hsz
      intro v4 w4 own4 g4 b4
      rw [← HF.out] at own4
      have H4 := hid (And.intro own4 (Hbel.out.trans b4))
      clear own4 g4 b4 hTw Hown
      go_wp2_with fail
      exact ⟨⟨k + 1, by omega, by go_num, H4.out.1, H4.out.2⟩, by simp [intOf]; omega⟩
    · have hkl : k = len := by omega
      have hft : (ts.take k).flatten = ts.flatten := by rw [List.take_of_length_le (by omega)]
      rw [hft] at Hown
      have Hkl := hid hkl
      clear hkl hft
      go_wp2_with fail
      go_ret
      exact ⟨_, rfl, Hown.out, Hbel.out⟩
end Go.Proofs.YtkiaeepdpmcafaaDoor
