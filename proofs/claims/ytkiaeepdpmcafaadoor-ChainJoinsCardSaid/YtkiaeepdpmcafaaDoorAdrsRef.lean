/-
  Contracts of the reference for addresses: the same addresses, and the same bytes.
-/
import Derived.Test.YtkiaeepdpmcafaaDoorAdrsBytes
namespace Go.Proofs.YtkiaeepdpmcafaaDoor
open Go.ChangeShapes Go.WideShapes Go.ChangeAt Go.RowKit


theorem ref_at (a0 a1 a2 a3 a4 a5 a6 a7 f s t : Int) (w : World) :
    Calls Tryd.prog 56 #[.agg #[.int .u32 a0, .int .u32 a1, .int .u32 a2, .int .u32 a3, .int .u32 a4, .int .u32 a5, .int .u32 a6, .int .u32 a7], .int .u32 f, .int .u32 s, .int .u32 t] w fun e w' => e = .returned (.agg #[.int .u32 a0, .int .u32 a1, .int .u32 a2, .int .u32 a3, .int .u32 a4, .int .u32 f, .int .u32 s, .int .u32 t]) ∧ Below w.heap.size w w' := by
  go_enter Tryd.func56, Tryd.ntmps56
  go_wp2
  go_returns
  exact ⟨rfl, by go_grown⟩

theorem be_four (x : Int) (h0 : 0 ≤ x) (h1 : x < 4294967296) : be 4 x = [x / 16777216, x / 65536 % 256, x / 256 % 256, x % 256] := by
  simp only [be, List.nil_append, List.cons_append, List.cons.injEq, and_true]
  omega

set_option maxHeartbeats 2000000 in
theorem ref_bytes (xs : List Int) (hl : xs.length = 8) (hb : ∀ x ∈ xs, 0 ≤ x ∧ x < 4294967296) (w : World) :
    Calls Tryd.prog 51 #[ints .u32 xs] w fun e w' => ∃ g cap, w.heap.size ≤ g ∧ e = .returned (.slice (some ⟨g, 0, none⟩) 32 cap) ∧ Below w.heap.size w w' ∧ Row8 w' g (wordBytes xs) := by
  obtain ⟨i0, hi, hz0, hz1, hz2⟩ := info_parts info_byte
  unfold ints
  generalize hD : (List.map (Value.int IntKind.u32) xs).toArray = D
  have HD := hid hD
  clear hD
  have kD : Blk (w.alloc (Obj.cells D 45)) w.heap.size D 45 := Blk.new rfl _ _
  have bel : Below w.heap.size w (w.alloc (Obj.cells D 45)) := by go_grown
  go_enter Tryd.func51, Tryd.ntmps51
  go_wp2_with fail
  generalize w.alloc (Obj.cells D 45) = w0 at kD bel ⊢
  go_loopw [3, 4] (fun v i wr => ∃ k : Nat, k ≤ 8 ∧ i = .int .i64 k ∧ wr.ownsRow (w.heap.size + 1) 5 1 v (4 * k) ((wordBytes (xs.take k)).map (Value.int .u8)) ∧ Blk wr w.heap.size D 45 ∧ Below w.heap.size w wr) (fun _ i _ => 8 - (intOf i).toNat)
  case atStart => exact ⟨0, by omega, rfl, World.ownsRow_nil _ _ _ _, kD, bel⟩
  case round =>
    clear kD bel
    obtain ⟨k, hk, rfl, hown, kD, bel⟩ := hrel
    by_cases hlt : k < 8
    · have hx : wr.cell? ⟨w.heap.size, k, none⟩ = some (.int .u32 (xs.getD k 0)) := by
        rw [kD.cell, ← HD.out]; simp [show k < xs.length by omega]
      have hxb := hb (xs.getD k 0) (by rw [show xs.getD k 0 = xs[k]'(by omega) by simp [show k < xs.length by omega]]; exact List.getElem_mem _)
      have HS := hid (wordBytes_take xs k (by omega))
      generalize xs.getD k 0 = x at hx hxb HS
      obtain ⟨hx0, hx1⟩ := hxb
      have HB := hid (be_four x hx0 hx1)
      have hs0 := bel.size
      have hlw := kD.lt
      go_wp2_with (at_builtin; refine wpList_append_own _ rfl _ _ 29 rfl (w.heap.size + 1) 5 i0 (.int .u8 0) 1 1 Tryd.underlying29 hi hz0 hz1 hz2 rfl (by decide) u3 (4 * k) _ rfl (hown.alloc _) ⟨wr.heap.size, 0, none⟩ 4 4 [.int .u8 (x / 16777216), .int .u8 (x / 65536 % 256), .int .u8 (x / 256 % 256), .int .u8 (x % 256)] rfl rfl ?c1 ?c2 ?c3 ?c4 ?c5 ?_)
      case c1 => exact news_new wr [.int .u8 (x / 16777216), .int .u8 (x / 65536 % 256), .int .u8 (x / 256 % 256), .int .u8 (x % 256)] 5
      case c2 => simp [Value.oneCell']
      case c3 => unfold maxLen; omega
      case c4 => omega
      case c5 => simp; omega
      intro v' w3 hown3 hgrow _
      have hlt2 := hown.lt
      have bel3 := (bel.alloc hs0 (Obj.cells #[.int .u8 (x / 16777216), .int .u8 (x / 65536 % 256), .int .u8 (x / 256 % 256), .int .u8 (x % 256)] 5)).grown hgrow (by simp; omega) (fun q hq => by have := hlt2 q hq; omega)
      have kD3 := (kD.old (Obj.cells #[.int .u8 (x / 16777216), .int .u8 (x / 65536 % 256), .int .u8 (x / 256 % 256), .int .u8 (x % 256)] 5)).grown hgrow (fun q hq => by have := hlt2 q hq; omega)
      clear hown hlt2 hgrow bel kD
      go_wp2
      refine ⟨⟨k + 1, by omega, by go_num, by rw [HS.out, HB.out, List.map_append, show 4 * (k + 1) = 4 * k + 4 by omega]; exact hown3, kD3, bel3⟩, by simp [intOf]; omega⟩
    · obtain rfl : k = 8 := by omega
      rw [List.take_of_length_le (by omega)] at hown
      have hv : ∃ g cap, u3 = .slice (some ⟨g, 0, none⟩) 32 cap := by
        obtain ⟨_, h | ⟨g, cap, cur, h, _⟩⟩ := hown
        · omega
        · exact ⟨g, cap, h⟩
      obtain ⟨g, cap, hv⟩ := hv
      rw [hv] at hown ⊢
      obtain ⟨hg, hrow⟩ := Row8.of_owns hown
      clear hown hv
      go_wp2
      go_ret
      exact ⟨g, cap, by omega, rfl, bel, hrow⟩
end Go.Proofs.YtkiaeepdpmcafaaDoor
