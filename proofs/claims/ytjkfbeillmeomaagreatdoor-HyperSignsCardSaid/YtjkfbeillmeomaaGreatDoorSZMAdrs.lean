/-
  AdrsBytes, Adrs, AdrsRef, AdrsRefCap: one text.
-/
import Derived.Test.YtjkfbeillmeomaaGreatDoorSZMNum
import Derived.Test.YtjkfbeillmeomaaGreatDoorSZMBase
namespace Go.Proofs.YtjkfbeillmeomaaGreatDoor
set_option maxRecDepth 100000
open Go.ChangeShapes Go.WideShapes Go.ChangeAt Go.RowKit
/-- the bytes of words -/
def wordBytes (xs : List Int) : List Int := xs.flatMap (be 4)
theorem wordBytes_small (xs : List Int) : ∀ x ∈ wordBytes xs, 0 ≤ x ∧ x < 256 := by
  intro x hx
  unfold wordBytes at hx
  rw [List.mem_flatMap] at hx
  obtain ⟨y, _, hx⟩ := hx
  exact be_small 4 y x hx
theorem wordBytes_length (xs : List Int) : (wordBytes xs).length = 4 * xs.length := by
  induction xs with
  | nil => rfl
  | cons x xs ih => simp only [wordBytes, List.flatMap_cons, List.length_append, be_length, List.length_cons] at *; omega
theorem wordBytes_take (xs : List Int) (k : Nat) (h : k < xs.length) : wordBytes (xs.take (k + 1)) = wordBytes (xs.take k) ++ be 4 (xs.getD k 0) := by
  rw [List.take_succ_eq_append_getElem h]
  simp only [wordBytes, List.flatMap_append, List.flatMap_cons, List.flatMap_nil, List.append_nil]
  simp [h]
theorem sizeAdrs : (Tryz.prog.info? 73).map (·.size) = some 8 := by kernel_rfl
set_option maxHeartbeats 2000000 in
theorem adrs_bytes (xs : List Int) (hl : xs.length = 8) (hb : ∀ x ∈ xs, 0 ≤ x ∧ x < 4294967296) (w : World) :
    Calls Tryz.prog 83 #[ints .u32 xs] w fun e w' => ∃ g cap, 32 ≤ cap ∧ cap ≤ 9223372036854775807 ∧ w.heap.size ≤ g ∧ e = .returned (.slice (some ⟨g, 0, none⟩) 32 cap) ∧ Below w.heap.size w w' ∧ Row8 w' g (wordBytes xs) := by
  obtain ⟨i0, hi, hz0, hz1, hz2⟩ := info_parts info_byte
  have heq := fun w => run_eql_ints (P := Tryz.prog) (t := 73) (e := 55) Tryz.underlying73 Tryz.underlying55 rfl (by kernel_rfl) xs (List.replicate 8 0) hl rfl w
  simp only [ints, List.replicate, List.map_cons, List.map_nil] at heq
  have hidx : ∀ (k : Nat), k < 8 → ∀ w, (Instr.index 73 (.agg (xs.map (Value.int .u32)).toArray) (.int .i64 k)).run Tryz.prog w = .ok (.int .u32 (xs.getD k 0)) w := fun k hk w =>
    run_index_ints (P := Tryz.prog) Tryz.underlying73 Tryz.underlying55 rfl rfl xs hl k hk w
  have Hidx := hid hidx
  clear hidx
  unfold ints
  have sz : (List.map (Value.int IntKind.u32) xs).toArray.size = 8 := by simp [hl]
  generalize (List.map (Value.int IntKind.u32) xs).toArray = D at *
  have Hsz := hid sz
  clear sz
  have kD : Blk (w.alloc (Obj.cells D 73)) w.heap.size D 73 := Blk.new rfl _ _
  have bel : Below w.heap.size w (w.alloc (Obj.cells D 73)) := by go_grown
  by_cases hx : xs = [0, 0, 0, 0, 0, 0, 0, 0]
  · have hd : decide (xs = [0, 0, 0, 0, 0, 0, 0, 0]) = true := by simp [hx]
    rw [hd] at heq
    have HX := hid hx
    clear hd hx Hidx
    go_enter Tryz.func83, Tryz.ntmps83
    go_wp2_with (first | (refine wpList_load_blk rfl 73 _ rfl w.heap.size rfl D 73 kD _ Tryz.underlying73 rfl 8 sizeAdrs Hsz.out ?_) | (at_make; refine wpList_make_full _ rfl _ _ 44 rfl (w.heap.size + 1) 5 i0 (.int .u8 0) 1 Tryz.underlying44 hi hz0 hz1 _ _ _ _ 32 rfl rfl rfl rfl ?a3 ?a4 ?a5 ?_))
    case a3 => rw [hz2]; omega
    case a4 => unfold maxLen; omega
    case a5 => simp
    intro w1 hown hgrow
    obtain ⟨_, kB⟩ := blk_of_owns hown
    have bel1 := bel.grown hgrow bel.size (fun _ h => by cases h)
    rw [made_zeros 32 0] at kB
    have hrow : Row8 w1 (w.heap.size + 1) (wordBytes xs) := by
      rw [HX.out, show wordBytes [0, 0, 0, 0, 0, 0, 0, 0] = List.replicate 32 0 ++ be 0 0 by decide]
      exact Row8.of_blk kB
    clear hown hgrow kB
    go_wp2
    go_ret
    exact ⟨w.heap.size + 1, 32, by decide, by decide, by omega, rfl, bel1, hrow⟩
  · have hd : decide (xs = [0, 0, 0, 0, 0, 0, 0, 0]) = false := by simp [hx]
    rw [hd] at heq
    clear hd hx
    go_enter Tryz.func83, Tryz.ntmps83
    go_wp2_with (first | (refine wpList_load_blk rfl 73 _ rfl w.heap.size rfl D 73 kD _ Tryz.underlying73 rfl 8 sizeAdrs Hsz.out ?_) | (at_make; refine wpList_make_own _ rfl _ _ 44 rfl (w.heap.size + 1) 5 i0 (.int .u8 0) 1 Tryz.underlying44 hi hz0 hz1 _ _ _ 32 rfl rfl rfl ?a3 ?a4 ?a5 ?_))
    case a3 => rw [hz2]; omega
    case a4 => unfold maxLen; omega
    case a5 => simp
    intro w1 hown hgrow
    have bel1 := bel.grown hgrow bel.size (fun _ h => by cases h)
    have kD1 := kD.grown hgrow (fun _ h => by cases h)
    clear hgrow kD bel heq
    go_wp2_with (refine wpList_load_blk rfl 73 _ rfl w.heap.size rfl D 73 kD1 _ Tryz.underlying73 rfl 8 sizeAdrs Hsz.out ?_)
    go_loopw [3, 12] (fun v i wr => ∃ k : Nat, k ≤ 8 ∧ i = .int .i64 k ∧ wr.ownsRow (w.heap.size + 1) 5 1 v (4 * k) ((wordBytes (xs.take k)).map (Value.int .u8)) ∧ (v ≠ .slice none 0 0) ∧ Below w.heap.size w wr ∧ w.heap.size + 1 ≤ wr.heap.size) (fun _ i _ => 8 - (intOf i).toNat)
    case atStart => exact ⟨0, by omega, rfl, by simpa [wordBytes] using hown, by simp, bel1, by have := kD1.lt; omega⟩
    case round =>
      clear kD1 bel1 hown
      obtain ⟨k, hk, rfl, hown, hnn, bel, hsz⟩ := hrel
      by_cases hlt : k < 8
      · have hx := Hidx.out k hlt
        have hxb := hb (xs.getD k 0) (by rw [show xs.getD k 0 = xs[k]'(by omega) by simp [show k < xs.length by omega]]; exact List.getElem_mem _)
        have HS := hid (wordBytes_take xs k (by omega))
        generalize xs.getD k 0 = x at hx hxb HS
        obtain ⟨hx0, hx1⟩ := hxb
        go_wp2_with fail
        refine (number_any x 4 4 _ hx0 (by omega) (by decide)).mono ?_
        rintro e w2 ⟨g, hge, rfl, b2, kN⟩
        have hown2 := owns_below hown b2
        have bel2 := bel.trans (b2.mono bel.size)
        have hlt2 := hown2.lt
        have hs2 := b2.size
        go_wp2_with (at_builtin; refine wpList_append_own _ rfl _ _ 44 rfl (w.heap.size + 1) 5 i0 (.int .u8 0) 1 1 Tryz.underlying44 hi hz0 hz1 hz2 rfl (by decide) u3 (4 * k) _ rfl hown2 ⟨g, 0, none⟩ 4 4 ((be 4 x).map (Value.int .u8)) rfl ?c0 ?c1 ?c2 ?c3 ?c4 ?c5 ?_)
        case c0 => simp [be_length]
        case c1 => exact news_blk kN
        case c2 => intro u hu; simp only [List.mem_map] at hu; obtain ⟨y, _, rfl⟩ := hu; rfl
        case c3 => unfold maxLen; omega
        case c4 => omega
        case c5 => omega
        intro v' w3 hown3 hgrow hnil
        have bel3 := bel2.grown hgrow (by omega) (fun q hq => by have := hlt2 q hq; omega)
        have hnn' : v' ≠ .slice none 0 0 := hnil
        have hs3 := hgrow.size
        clear hown hown2 hlt2 hgrow kN bel bel2 b2
        go_wp2
        refine ⟨⟨k + 1, by omega, by go_num, by rw [HS.out, List.map_append, show 4 * (k + 1) = 4 * k + 4 by omega]; exact hown3, hnn', bel3, by omega⟩, by simp [intOf]; omega⟩
      · obtain rfl : k = 8 := by omega
        rw [List.take_of_length_le (by omega)] at hown
        have hv : ∃ g cap, u3 = .slice (some ⟨g, 0, none⟩) 32 cap ∧ 32 ≤ cap ∧ cap ≤ 9223372036854775807 := by
          obtain ⟨_, h | ⟨g, cap, cur, h, _, _, hle, hmx, _⟩⟩ := hown
          · exact absurd h.1 hnn
          · exact ⟨g, cap, h, by omega, by unfold maxLen at hmx; omega⟩
        obtain ⟨g, cap, hv, hc1, hc2⟩ := hv
        rw [hv] at hown ⊢
        obtain ⟨hg, hrow⟩ := Row8.of_owns hown
        clear hown hv hnn
        go_wp2
        go_ret
        exact ⟨g, cap, hc1, hc2, by omega, rfl, bel, hrow⟩
end Go.Proofs.YtjkfbeillmeomaaGreatDoor
namespace Go.Proofs.YtjkfbeillmeomaaGreatDoor
set_option maxRecDepth 100000
open Go.ChangeShapes Go.WideShapes Go.ChangeAt Go.RowKit
theorem made_any (kd la tr le : Int) (w : World) (h0 : 0 ≤ tr) (h1 : tr < 18446744073709551616) :
    Calls Tryz.prog 71 #[.int .u32 kd, .int .u32 la, .int .u64 tr, .int .u32 le] w fun e w' => e = .returned (.agg #[.int .u32 la, .int .u32 (tr / 4294967296), .int .u32 (tr % 4294967296), .int .u32 kd, .int .u32 le, .int .u32 0, .int .u32 0, .int .u32 0]) ∧ Below w.heap.size w w' := by
  go_enter Tryz.func71, Tryz.ntmps71
  go_wp2
  go_returns
  exact ⟨rfl, by go_grown⟩
theorem ots_any (la tr le : Int) (w : World) (h0 : 0 ≤ tr) (h1 : tr < 18446744073709551616) :
    Calls Tryz.prog 64 #[.int .u32 la, .int .u64 tr, .int .u32 le] w fun e w' => e = .returned (.agg #[.int .u32 la, .int .u32 (tr / 4294967296), .int .u32 (tr % 4294967296), .int .u32 0, .int .u32 le, .int .u32 0, .int .u32 0, .int .u32 0]) ∧ Below w.heap.size w w' := by
  go_enter Tryz.func64, Tryz.ntmps64
  go_wp2
  go_returns
  exact ⟨rfl, by go_grown⟩
theorem ltree_any (la tr le : Int) (w : World) (h0 : 0 ≤ tr) (h1 : tr < 18446744073709551616) :
    Calls Tryz.prog 54 #[.int .u32 la, .int .u64 tr, .int .u32 le] w fun e w' => e = .returned (.agg #[.int .u32 la, .int .u32 (tr / 4294967296), .int .u32 (tr % 4294967296), .int .u32 1, .int .u32 le, .int .u32 0, .int .u32 0, .int .u32 0]) ∧ Below w.heap.size w w' := by
  go_enter Tryz.func54, Tryz.ntmps54
  go_wp2
  go_returns
  exact ⟨rfl, by go_grown⟩
theorem tree_any (la tr : Int) (w : World) (h0 : 0 ≤ tr) (h1 : tr < 18446744073709551616) :
    Calls Tryz.prog 48 #[.int .u32 la, .int .u64 tr] w fun e w' => e = .returned (.agg #[.int .u32 la, .int .u32 (tr / 4294967296), .int .u32 (tr % 4294967296), .int .u32 2, .int .u32 0, .int .u32 0, .int .u32 0, .int .u32 0]) ∧ Below w.heap.size w w' := by
  go_enter Tryz.func48, Tryz.ntmps48
  go_wp2
  go_returns
  exact ⟨rfl, by go_grown⟩
theorem at_any (a0 a1 a2 a3 a4 a5 a6 a7 f s : Int) (w : World) :
    Calls Tryz.prog 81 #[.agg #[.int .u32 a0, .int .u32 a1, .int .u32 a2, .int .u32 a3, .int .u32 a4, .int .u32 a5, .int .u32 a6, .int .u32 a7], .int .u32 f, .int .u32 s] w fun e w' => e = .returned (.agg #[.int .u32 a0, .int .u32 a1, .int .u32 a2, .int .u32 a3, .int .u32 a4, .int .u32 f, .int .u32 s, .int .u32 0]) ∧ Below w.heap.size w w' := by
  go_enter Tryz.func81, Tryz.ntmps81
  go_wp2
  go_returns
  exact ⟨rfl, by go_grown⟩
theorem for_any (a0 a1 a2 a3 a4 a5 a6 a7 f : Int) (w : World) :
    Calls Tryz.prog 98 #[.agg #[.int .u32 a0, .int .u32 a1, .int .u32 a2, .int .u32 a3, .int .u32 a4, .int .u32 a5, .int .u32 a6, .int .u32 a7], .int .u32 f] w fun e w' => e = .returned (.agg #[.int .u32 a0, .int .u32 a1, .int .u32 a2, .int .u32 a3, .int .u32 a4, .int .u32 a5, .int .u32 a6, .int .u32 f]) ∧ Below w.heap.size w w' := by
  go_enter Tryz.func98, Tryz.ntmps98
  go_wp2
  go_returns
  exact ⟨rfl, by go_grown⟩
end Go.Proofs.YtjkfbeillmeomaaGreatDoor
namespace Go.Proofs.YtjkfbeillmeomaaGreatDoor
set_option maxRecDepth 100000
open Go.ChangeShapes Go.WideShapes Go.ChangeAt Go.RowKit
theorem ref_base (kd la tr le : Int) (w : World) (h0 : 0 ≤ tr) (h1 : tr < 18446744073709551616) :
    Calls Tryz.prog 30 #[.int .u32 la, .int .u64 tr, .int .u32 kd, .int .u32 le] w fun e w' => e = .returned (.agg #[.int .u32 la, .int .u32 (tr / 4294967296), .int .u32 (tr % 4294967296), .int .u32 kd, .int .u32 le, .int .u32 0, .int .u32 0, .int .u32 0]) ∧ Below w.heap.size w w' := by
  go_enter Tryz.func30, Tryz.ntmps30
  go_wp2
  go_returns
  exact ⟨rfl, by go_grown⟩
theorem ref_at (a0 a1 a2 a3 a4 a5 a6 a7 f s t : Int) (w : World) :
    Calls Tryz.prog 69 #[.agg #[.int .u32 a0, .int .u32 a1, .int .u32 a2, .int .u32 a3, .int .u32 a4, .int .u32 a5, .int .u32 a6, .int .u32 a7], .int .u32 f, .int .u32 s, .int .u32 t] w fun e w' => e = .returned (.agg #[.int .u32 a0, .int .u32 a1, .int .u32 a2, .int .u32 a3, .int .u32 a4, .int .u32 f, .int .u32 s, .int .u32 t]) ∧ Below w.heap.size w w' := by
  go_enter Tryz.func69, Tryz.ntmps69
  go_wp2
  go_returns
  exact ⟨rfl, by go_grown⟩
theorem be_four (x : Int) (h0 : 0 ≤ x) (h1 : x < 4294967296) : be 4 x = [x / 16777216, x / 65536 % 256, x / 256 % 256, x % 256] := by
  simp only [be, List.nil_append, List.cons_append, List.cons.injEq, and_true]
  omega
end Go.Proofs.YtjkfbeillmeomaaGreatDoor
namespace Go.Proofs.YtjkfbeillmeomaaGreatDoor
set_option maxRecDepth 100000
open Go.ChangeShapes Go.WideShapes Go.ChangeAt Go.RowKit
set_option maxHeartbeats 2000000 in
theorem ref_bytes_cap (xs : List Int) (hl : xs.length = 8) (hb : ∀ x ∈ xs, 0 ≤ x ∧ x < 4294967296) (w : World) :
    Calls Tryz.prog 92 #[ints .u32 xs] w fun e w' => ∃ g cap, 32 ≤ cap ∧ cap ≤ 9223372036854775807 ∧ w.heap.size ≤ g ∧ e = .returned (.slice (some ⟨g, 0, none⟩) 32 cap) ∧ Below w.heap.size w w' ∧ Row8 w' g (wordBytes xs) := by
  obtain ⟨i0, hi, hz0, hz1, hz2⟩ := info_parts info_byte
  unfold ints
  generalize hD : (List.map (Value.int IntKind.u32) xs).toArray = D
  have HD := hid hD
  clear hD
  have kD : Blk (w.alloc (Obj.cells D 73)) w.heap.size D 73 := Blk.new rfl _ _
  have bel : Below w.heap.size w (w.alloc (Obj.cells D 73)) := by go_grown
  go_enter Tryz.func92, Tryz.ntmps92
  go_wp2_with fail
  generalize w.alloc (Obj.cells D 73) = w0 at kD bel ⊢
  go_loopw [3, 4] (fun v i wr => ∃ k : Nat, k ≤ 8 ∧ i = .int .i64 k ∧ wr.ownsRow (w.heap.size + 1) 5 1 v (4 * k) ((wordBytes (xs.take k)).map (Value.int .u8)) ∧ Blk wr w.heap.size D 73 ∧ Below w.heap.size w wr) (fun _ i _ => 8 - (intOf i).toNat)
  case atStart => exact ⟨0, by omega, rfl, World.ownsRow_nil _ _ _ _, kD, bel⟩
  case round =>
    clear kD bel
    obtain ⟨k, hk, rfl, hown, kD, bel⟩ := hrel
    by_cases hlt : k < 8
    · have hx : wr.cell? ⟨w.heap.size, k, none⟩ = some (.int .u32 (xs.getD k 0)) := by
        rw [kD.cell, ← HD.out]; simp [show k < xs.length by omega]
      have hxb := hb (xs.getD k 0) (by rw [show xs.getD k 0 = xs[k]'(by omega) by simp [show k < xs.length by omega]]; exact List.getElem_mem _)
      have HS := hid (wordBytes_take xs k (by omega))
      generalize xs.getD k 0 = x at hx hxb HS
      obtain ⟨hx0, hx1⟩ := hxb
      have HB := hid (be_four x hx0 hx1)
      have hs0 := bel.size
      have hlw := kD.lt
      go_wp2_with (at_builtin; refine wpList_append_own _ rfl _ _ 44 rfl (w.heap.size + 1) 5 i0 (.int .u8 0) 1 1 Tryz.underlying44 hi hz0 hz1 hz2 rfl (by decide) u3 (4 * k) _ rfl (hown.alloc _) ⟨wr.heap.size, 0, none⟩ 4 4 [.int .u8 (x / 16777216), .int .u8 (x / 65536 % 256), .int .u8 (x / 256 % 256), .int .u8 (x % 256)] rfl rfl ?c1 ?c2 ?c3 ?c4 ?c5 ?_)
      case c1 => exact news_new wr [.int .u8 (x / 16777216), .int .u8 (x / 65536 % 256), .int .u8 (x / 256 % 256), .int .u8 (x % 256)] 5
      case c2 => simp [Value.oneCell']
      case c3 => unfold maxLen; omega
      case c4 => omega
      case c5 => simp; omega
      intro v' w3 hown3 hgrow _
      have hlt2 := hown.lt
      have bel3 := (bel.alloc hs0 (Obj.cells #[.int .u8 (x / 16777216), .int .u8 (x / 65536 % 256), .int .u8 (x / 256 % 256), .int .u8 (x % 256)] 5)).grown hgrow (by simp; omega) (fun q hq => by have := hlt2 q hq; omega)
      have kD3 := (kD.old (Obj.cells #[.int .u8 (x / 16777216), .int .u8 (x / 65536 % 256), .int .u8 (x / 256 % 256), .int .u8 (x % 256)] 5)).grown hgrow (fun q hq => by have := hlt2 q hq; omega)
      clear hown hlt2 hgrow bel kD
      go_wp2
      refine ⟨⟨k + 1, by omega, by go_num, by rw [HS.out, HB.out, List.map_append, show 4 * (k + 1) = 4 * k + 4 by omega]; exact hown3, kD3, bel3⟩, by simp [intOf]; omega⟩
    · obtain rfl : k = 8 := by omega
      rw [List.take_of_length_le (by omega)] at hown
      have hv : ∃ g cap, u3 = .slice (some ⟨g, 0, none⟩) 32 cap ∧ 32 ≤ cap ∧ cap ≤ 9223372036854775807 := by
        obtain ⟨_, h | ⟨g, cap, cur, h, _, _, hle, hmx, _⟩⟩ := hown
        · omega
        · exact ⟨g, cap, h, hle, by unfold maxLen at hmx; omega⟩
      obtain ⟨g, cap, hv, hc1, hc2⟩ := hv
      rw [hv] at hown ⊢
      obtain ⟨hg, hrow⟩ := Row8.of_owns hown
      clear hown hv
      go_wp2
      go_ret
      exact ⟨g, cap, hc1, hc2, by omega, rfl, bel, hrow⟩
end Go.Proofs.YtjkfbeillmeomaaGreatDoor
