/-
  The reference's digits, and what numbers lack wherever they lie.
-/
import Derived.Test.YtkiaeepdpmcafaaDigApartWalk
namespace Go.Proofs.Ytkiaeepdpmcafaa
open Go.ChangeShapes Go.WideShapes Go.ChangeAt Go.RowKit
theorem info3 : (Try.prog.info? 3).map (fun i => (i.zero, i.size, i.bytes)) = some (some (.int .i64 0), 1, 8) := by kernel_rfl

theorem dig_take (ds : List Int) (k : Nat) (h : k < ds.length) : dig (ds.take (k + 1)) = dig (ds.take k) ++ [ds.getD k 0 / 16, ds.getD k 0 % 16] := by
  rw [take_snoc ds k h, dig_append]; simp [dig]
theorem short_take (ds : List Int) (k : Nat) (h : k < ds.length) : short (dig (ds.take (k + 1))) = short (dig (ds.take k)) + 30 - ds.getD k 0 / 16 - ds.getD k 0 % 16 := by
  rw [dig_take ds k h, short_append]; simp [short]; omega

set_option maxHeartbeats 1000000 in
theorem ref_of (ds : List Int) (hl : ds.length = 32) (hb : ∀ x ∈ ds, 0 ≤ x ∧ x < 256) (w : World) :
    Calls Try.prog 15 #[ints .u8 ds] w fun e w' => ∃ g cap, e = .returned (.slice (some ⟨g, 0, none⟩) 67 cap) ∧ Below w.heap.size w w' ∧ w'.ownsRow (w.heap.size + 1) 3 1 (.slice (some ⟨g, 0, none⟩) 67 cap) 67 ((digits ds).map (Value.int .i64)) := by
  obtain ⟨i0, hi, hz0, hz1, hz2⟩ := info_parts info3
  unfold ints
  generalize hD : (List.map (Value.int IntKind.u8) ds).toArray = D
  have HD := hid hD; clear hD
  have kd : Blk (w.alloc (Obj.cells D 23)) w.heap.size D 23 := Blk.new rfl _ _
  have bel : Below w.heap.size w (w.alloc (Obj.cells D 23)) := by go_grown
  go_enter Try.func15, Try.ntmps15
  go_wp2_with fail
  generalize w.alloc (Obj.cells D 23) = w0 at kd bel ⊢
  go_loopw [3, 4, 5] (fun v s i wr => ∃ k : Nat, k ≤ 32 ∧ i = .int .i64 k ∧ s = .int .i64 (short (dig (ds.take k))) ∧ wr.ownsRow (w.heap.size + 1) 3 1 v (2 * k) ((dig (ds.take k)).map (Value.int .i64)) ∧ Blk wr w.heap.size D 23 ∧ Below w.heap.size w wr) (fun _ _ i _ => 32 - (intOf i).toNat)
  case atStart => exact ⟨0, by omega, rfl, by simp [short, dig], World.ownsRow_nil _ _ _ _, kd, bel⟩
  case round =>
    clear kd bel
    obtain ⟨k, hk, rfl, rfl, hown, kd, bel⟩ := hrel
    have hsb := short_bounds (dig (ds.take k)) (dig_small _ (fun x hx => hb x (List.mem_of_mem_take hx)))
    rw [dig_length, List.length_take, Nat.min_eq_left (by omega)] at hsb
    by_cases hlt : k < 32
    · have cd : wr.cell? ⟨w.heap.size, k, none⟩ = some (.int .u8 (ds.getD k 0)) := by
        rw [kd.cell, ← HD.out]; simp [show k < ds.length by omega]
      have hx := hb (ds.getD k 0) (by rw [show ds.getD k 0 = ds[k]'(by omega) by simp [show k < ds.length by omega]]; exact List.getElem_mem _)
      have H1 := hid (dig_take ds k (by omega))
      have H2 := hid (short_take ds k (by omega))
      generalize ds.getD k 0 = x at *
      generalize short (dig (ds.take k)) = S at *
      generalize dig (ds.take k) = L at *
      obtain ⟨hx0, hx1⟩ := hx
      obtain ⟨hs0, hs1⟩ := hsb
      have hbs := bel.size
      have hlw := kd.lt
      go_wp2_with (at_builtin; refine wpList_append_own _ rfl _ _ 24 rfl (w.heap.size + 1) 3 i0 (.int .i64 0) 1 8 Try.underlying24 hi hz0 hz1 hz2 rfl (by decide) u3 (2 * k) _ rfl (hown.alloc _) ⟨wr.heap.size, 0, none⟩ 2 2 [.int .i64 (x / 16), .int .i64 (x % 16)] rfl rfl ?c1 ?c2 ?c3 ?c4 ?c5 ?_)
      case c1 => exact news_new wr [.int .i64 (x / 16), .int .i64 (x % 16)] 3
      case c2 => simp [Value.oneCell']
      case c3 => unfold maxLen; omega
      case c4 => omega
      case c5 => simp; omega
      intro v' w1 hown' hgrow _
      have hlt1 := hown.lt
      have bel' := (bel.alloc hbs (Obj.cells #[.int .i64 (x / 16), .int .i64 (x % 16)] 3)).grown hgrow (by simp; omega) (fun q hq => by have := hlt1 q hq; omega)
      have kd' := (kd.old (Obj.cells #[.int .i64 (x / 16), .int .i64 (x % 16)] 3)).grown hgrow (fun q hq => by have := hlt1 q hq; omega)
      clear hown kd bel hgrow hlt1
      go_wp2
      refine ⟨⟨k + 1, by omega, by go_num, by rw [H2.out], by rw [H1.out, List.map_append, show 2 * (k + 1) = 2 * k + 2 by omega]; exact hown', kd', bel'⟩, by simp [intOf]; omega⟩
    · obtain rfl : k = 32 := by omega
      rw [List.take_of_length_le (by omega)] at hown hsb ⊢
      obtain ⟨hs0, hs1⟩ := hsb
      have hfin : digits ds = dig ds ++ [short (dig ds) / 256, short (dig ds) / 16 % 16, short (dig ds) % 16] := by
        unfold digits
        rw [show short (dig ds) / 16 / 16 % 16 = short (dig ds) / 256 by omega]
      have HF := hid hfin
      clear hfin
      generalize short (dig ds) = S at *
      generalize dig ds = L at *
      have hbs := bel.size
      have hlw := kd.lt
      go_wp2_with (at_builtin; refine wpList_append_own _ rfl _ _ 24 rfl (w.heap.size + 1) 3 i0 (.int .i64 0) 1 8 Try.underlying24 hi hz0 hz1 hz2 rfl (by decide) u3 64 _ rfl (hown.alloc _) ⟨wr.heap.size, 0, none⟩ 3 3 [.int .i64 (S / 256), .int .i64 (S / 16 % 16), .int .i64 (S % 16)] rfl rfl ?c1 ?c2 ?c3 ?c4 ?c5 ?_)
      case c1 => exact news_new wr [.int .i64 (S / 256), .int .i64 (S / 16 % 16), .int .i64 (S % 16)] 3
      case c2 => simp [Value.oneCell']
      case c3 => unfold maxLen; omega
      case c4 => omega
      case c5 => simp; omega
      intro v' w1 hown' hgrow hnil
      have hlt1 := hown.lt
      have bel' := (bel.alloc hbs (Obj.cells #[.int .i64 (S / 256), .int .i64 (S / 16 % 16), .int .i64 (S % 16)] 3)).grown hgrow (by simp; omega) (fun q hq => by have := hlt1 q hq; omega)
      have hv : ∃ g cap, v' = .slice (some ⟨g, 0, none⟩) 67 cap := by
        obtain ⟨_, h | ⟨g, cap, cur, h, _⟩⟩ := hown'
        · omega
        · exact ⟨g, cap, h⟩
      obtain ⟨g, cap, rfl⟩ := hv
      clear hown kd bel hgrow hlt1 hnil
      go_wp2
      go_ret
      exact ⟨g, cap, rfl, bel', by rw [HF.out, List.map_append]; exact hown'⟩

/-- what numbers lack, wherever the slice lies -/
theorem lacks_row (b off : Nat) (zs : List Int) (cap : Nat) (w : World) (hl : zs.length ≤ 1000) (hc : ∀ i, i < zs.length → w.cell? ⟨b, off + i, none⟩ = some (.int .i64 (zs.getD i 0))) :
    Calls Try.prog 16 #[.slice (some ⟨b, off, none⟩) zs.length cap] w fun e w' => e = .returned (.int .i64 (lacks zs)) ∧ w = w' := by
  generalize hn : zs.length = n at *
  have Hn := hid hn; clear hn
  go_enter Try.func16, Try.ntmps16
  go_wp2
  go_loop [3, 8] (fun s i => ∃ k : Nat, k ≤ n ∧ i = .int .i64 k ∧ s = .int .i64 (lacks (zs.take k))) (fun _ i => n - (intOf i).toNat)
  case atStart => exact ⟨0, Nat.zero_le _, rfl, rfl⟩
  case round =>
    obtain ⟨k, hk, rfl, rfl⟩ := hrel
    by_cases hlt : k < n
    · have hck := hc k hlt
      have HS := hid (take_snoc zs k (by rw [Hn.out]; exact hlt))
      have HL := hid (lacks_snoc (zs.take k) (zs.getD k 0))
      generalize hs : lacks (zs.take k) = s at *
      clear hs
      go_wp2
      go_round
      case rel => exact ⟨k + 1, by omega, by go_num, by rw [HS.out, HL.out]; simp⟩
      case measure => simp [intOf]; omega
    · obtain rfl : k = n := by omega
      have hfin : lacks (zs.take k) = lacks zs := by rw [List.take_of_length_le (by rw [Hn.out]; omega)]
      have HF := hid hfin
      clear hfin
      go_wp2
      go_ret
      exact ⟨by rw [← HF.out]; rfl, rfl⟩
theorem lacks_none (a : Option Addr) (cap : Nat) (w : World) :
    Calls Try.prog 16 #[.slice a 0 cap] w fun e w' => e = .returned (.int .i64 0) ∧ w = w' := by
  go_enter Try.func16, Try.ntmps16
  go_wp2
  refine wp_loop_rounds 1 ?_
  rw [rounds_succ]
  go_wp2
  go_ret
  exact ⟨rfl, rfl⟩

/-- the law's own sum -/
def lackSum (zs : List Int) : Int := zs.foldl (fun s x => wrap64 (wrap64 (s + 15) - x)) 0
theorem lackSum_is (zs : List Int) : lackSum zs = lacks zs := by
  unfold lackSum lacks
  congr 1
  funext s x
  unfold wrap64
  omega
theorem lackSum_snoc (zs : List Int) (x : Int) : lackSum (zs ++ [x]) = wrap64 (wrap64 (lackSum zs + 15) - x) := by simp [lackSum]
end Go.Proofs.Ytkiaeepdpmcafaa
