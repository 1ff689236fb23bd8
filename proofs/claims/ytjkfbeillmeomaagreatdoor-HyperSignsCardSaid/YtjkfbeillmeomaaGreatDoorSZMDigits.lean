/-
  Digits, DigitsRef: one text.
-/
import Derived.Test.YtjkfbeillmeomaaGreatDoorSZMBase
namespace Go.Proofs.YtjkfbeillmeomaaGreatDoor
set_option maxRecDepth 100000
open Go.ChangeShapes Go.WideShapes Go.ChangeAt Go.RowKit
theorem zero67 (w : World) : (zeroValue 120).run Tryz.prog w = .ok (.agg (zeros .i64 67)) w := by kernel_rfl
theorem size67 : (Tryz.prog.info? 120).map (·.size) = some 67 := by kernel_rfl
theorem sizeDg : (Tryz.prog.info? 25).map (·.size) = some 32 := by kernel_rfl
/-- the digits of the bytes -/
def dig (ds : List Int) : List Int := ds.flatMap fun x => [x / 16, x % 16]
def rowOf (ds : List Int) (k : Nat) : List Int := dig (ds.take k) ++ List.replicate (67 - 2 * k) 0
theorem dig_length (ds : List Int) : (dig ds).length = 2 * ds.length := by
  induction ds with
  | nil => rfl
  | cons x ds ih => simp only [dig, List.flatMap_cons, List.length_append, List.length_cons, List.length_nil] at *; omega
theorem rowOf_length (ds : List Int) (hl : ds.length = 32) (k : Nat) (hk : k ≤ 32) : (rowOf ds k).length = 67 := by
  simp [rowOf, dig_length]; omega
theorem dig_append (a b : List Int) : dig (a ++ b) = dig a ++ dig b := by simp [dig]
theorem set_two (l : List Int) (m : Nat) (a b : Int) (n : Nat) (hn : l.length = n) : ((l ++ List.replicate (m + 2) 0).set n a).set (n + 1) b = l ++ [a, b] ++ List.replicate m 0 := by
  subst hn
  rw [List.replicate_succ, List.replicate_succ, List.set_append_right _ _ (by omega), List.set_append_right _ _ (by omega)]
  simp
theorem rowOf_step (ds : List Int) (hl : ds.length = 32) (k : Nat) (hk : k < 32) : (((rowOf ds k).set (2 * k) (ds.getD k 0 / 16)).set (2 * k + 1) (ds.getD k 0 % 16)) = rowOf ds (k + 1) := by
  have h1 : (dig (ds.take k)).length = 2 * k := by rw [dig_length]; simp; omega
  have h2 : ds.take (k + 1) = ds.take k ++ [ds.getD k 0] := by
    rw [List.take_succ_eq_append_getElem (by omega)]
    simp [show k < ds.length by omega]
  unfold rowOf
  rw [h2, dig_append, show 67 - 2 * k = (67 - 2 * (k + 1)) + 2 by omega, set_two _ _ _ _ _ h1]
  simp [dig]
theorem rowOf_zero (ds : List Int) (hl : ds.length = 32) (k j : Nat) (h1 : 2 * k ≤ j) (h2 : j < 67) (hk : k ≤ 32) : (rowOf ds k)[j]? = some 0 := by
  have h3 : (dig (ds.take k)).length = 2 * k := by rw [dig_length]; simp; omega
  unfold rowOf
  rw [List.getElem?_append_right (by omega), h3, List.getElem?_replicate, if_pos (by omega)]
def lacks (zs : List Int) : Int := zs.foldl (fun s x => wrap64 (s + wrap64 (15 - x))) 0
theorem lacks_snoc (zs : List Int) (x : Int) : lacks (zs ++ [x]) = wrap64 (lacks zs + wrap64 (15 - x)) := by simp [lacks]
theorem take_snoc (zs : List Int) (k : Nat) (h : k < zs.length) : zs.take (k + 1) = zs.take k ++ [zs.getD k 0] := by
  rw [List.take_succ_eq_append_getElem h]; simp [h]
/-- a slice of integers lies at the head of block b, or it is nil -/
theorem lacks_any (b : Nat) (zs : List Int) (cap : Nat) (w : World) (hl : zs.length ≤ 1000) (hc : ∀ i, i < zs.length → w.cell? ⟨b, i, none⟩ = some (.int .i64 (zs.getD i 0))) :
    Calls Tryz.prog 80 #[.slice (some ⟨b, 0, none⟩) zs.length cap] w fun e w' => e = .returned (.int .i64 (lacks zs)) ∧ w = w' := by
  generalize hn : zs.length = n at *
  have Hn := hid hn; clear hn
  go_enter Tryz.func80, Tryz.ntmps80
  go_wp2
  go_loop [3, 8] (fun s i => ∃ k : Nat, k ≤ n ∧ i = .int .i64 k ∧ s = .int .i64 (lacks (zs.take k))) (fun _ i => n - (intOf i).toNat)
  case atStart => exact ⟨0, Nat.zero_le _, rfl, rfl⟩
  case round =>
    obtain ⟨k, hk, rfl, rfl⟩ := hrel
    by_cases hlt : k < n
    · have hck := hc k hlt
      have HS := hid (take_snoc zs k (by rw [Hn.out]; exact hlt))
      have HL := hid (lacks_snoc (zs.take k) (zs.getD k 0))
      generalize hs : lacks (zs.take k) = s at *
      clear hs
      go_wp2
      go_round
      case rel => exact ⟨k + 1, by omega, by go_num, by rw [HS.out, HL.out]; simp⟩
      case measure => simp [intOf]; omega
    · obtain rfl : k = n := by omega
      have hfin : lacks (zs.take k) = lacks zs := by rw [List.take_of_length_le (by rw [Hn.out]; omega)]
      have HF := hid hfin
      clear hfin
      go_wp2
      go_ret
      exact ⟨by rw [← HF.out]; rfl, rfl⟩
/-- what numbers from 0 to 15 lack, without a wrap -/
def short (zs : List Int) : Int := (zs.map (15 - ·)).sum
theorem short_bounds (zs : List Int) (h : ∀ x ∈ zs, 0 ≤ x ∧ x ≤ 15) : 0 ≤ short zs ∧ short zs ≤ 15 * zs.length := by
  induction zs with
  | nil => simp [short]
  | cons x zs ih =>
    have h1 := h x (by simp)
    have h2 := ih (fun y hy => h y (by simp [hy]))
    simp only [short, List.map_cons, List.sum_cons, List.length_cons] at *
    omega
theorem short_append (a b : List Int) : short (a ++ b) = short a + short b := by simp [short]
theorem lacks_short (zs : List Int) (hl : zs.length ≤ 1000) (h : ∀ x ∈ zs, 0 ≤ x ∧ x ≤ 15) : lacks zs = short zs := by
  have key : ∀ k, k ≤ zs.length → lacks (zs.take k) = short (zs.take k) := by
    intro k
    induction k with
    | zero => intro _; simp [lacks, short]
    | succ k ih =>
      intro hk
      have hb := short_bounds (zs.take k) (fun x hx => h x (List.mem_of_mem_take hx))
      have hx := h zs[k] (List.getElem_mem _)
      rw [take_snoc zs k (by omega), lacks_snoc, ih (by omega), short_append]
      have hg : zs.getD k 0 = zs[k] := by simp [show k < zs.length by omega]
      have hlen : (zs.take k).length ≤ 1000 := by simp; omega
      rw [hg]
      simp only [short, List.map_cons, List.map_nil, List.sum_cons, List.sum_nil] at *
      unfold wrap64
      omega
  have := key zs.length (Nat.le_refl _)
  simpa using this
theorem dig_small (ds : List Int) (hb : ∀ x ∈ ds, 0 ≤ x ∧ x < 256) : ∀ x ∈ dig ds, 0 ≤ x ∧ x ≤ 15 := by
  intro x hx
  simp only [dig, List.mem_flatMap, List.mem_cons, List.not_mem_nil, or_false] at hx
  obtain ⟨y, hy, h⟩ := hx
  have := hb y hy
  rcases h with rfl | rfl <;> omega
/-- the digits of a digest -/
def digits (ds : List Int) : List Int := dig ds ++ [short (dig ds) / 16 / 16 % 16, short (dig ds) / 16 % 16, short (dig ds) % 16]
theorem digits_length (ds : List Int) (hl : ds.length = 32) : (digits ds).length = 67 := by simp [digits, dig_length, hl]
theorem row_full (ds : List Int) (hl : ds.length = 32) : rowOf ds 32 = dig ds ++ [0, 0, 0] := by
  unfold rowOf
  rw [List.take_of_length_le (by omega)]
  rfl
theorem set_three (ds : List Int) (hl : ds.length = 32) (a b c : Int) : (((rowOf ds 32).set 66 a).set 65 b).set 64 c = dig ds ++ [c, b, a] := by
  have h1 : (dig ds).length = 64 := by rw [dig_length, hl]
  rw [row_full ds hl, List.set_append_right _ _ (by omega), List.set_append_right _ _ (by omega), List.set_append_right _ _ (by omega), h1]
  simp
set_option maxHeartbeats 1000000 in
theorem digits_any (ds : List Int) (hl : ds.length = 32) (hb : ∀ x ∈ ds, 0 ≤ x ∧ x < 256) (w : World) :
    Calls Tryz.prog 59 #[ints .u8 ds] w fun e w' => e = .returned (ints .i64 (digits ds)) ∧ Below w.heap.size w w' := by
  have hz := zero67
  unfold ints
  generalize hD : (List.map (Value.int IntKind.u8) ds).toArray = D
  have hDs : D.size = 32 := by rw [← hD]; simp [hl]
  have HD := hid hD; clear hD
  have HDs := hid hDs; clear hDs
  have kd := ((Blk.new rfl D 25 : Blk (w.alloc _) w.heap.size D 25).old (Obj.cells (zeros IntKind.i64 67) 120)).old (Obj.cells (zeros IntKind.i64 67) 120)
  have kr := (Blk.new (by simp) (zeros IntKind.i64 67) 120 : Blk ((w.alloc (Obj.cells D 25)).alloc _) (w.heap.size + 1) _ 120).old (Obj.cells (zeros IntKind.i64 67) 120)
  have kl := (Blk.new (by simp) (zeros IntKind.i64 67) 120 : Blk (((w.alloc (Obj.cells D 25)).alloc (Obj.cells (zeros IntKind.i64 67) 120)).alloc _) (w.heap.size + 1 + 1) _ 120)
  have bel : Below w.heap.size w (((w.alloc (Obj.cells D 25)).alloc (Obj.cells (zeros IntKind.i64 67) 120)).alloc (Obj.cells (zeros IntKind.i64 67) 120)) := by go_grown
  go_enter Tryz.func59, Tryz.ntmps59
  go_wp2_with (refine wpList_load_blk rfl 25 _ rfl w.heap.size rfl D 25 kd _ Tryz.underlying25 rfl 32 sizeDg HDs.out ?_)
  generalize ((w.alloc (Obj.cells D 25)).alloc (Obj.cells (zeros IntKind.i64 67) 120)).alloc (Obj.cells (zeros IntKind.i64 67) 120) = w0 at kd kr kl bel ⊢
  clear hz
  go_loopw [9] (fun i wr => ∃ k : Nat, k ≤ 32 ∧ i = .int .i64 k ∧ Blk wr w.heap.size D 25 ∧ Blk wr (w.heap.size + 1) (zeros .i64 67) 120 ∧ Blk wr (w.heap.size + 1 + 1) ((rowOf ds k).map (Value.int .i64)).toArray 120 ∧ Below w.heap.size w wr) (fun i _ => 32 - (intOf i).toNat)
  case atStart => exact ⟨0, by omega, rfl, kd, kr, by simpa [rowOf, dig, zeros] using kl, bel⟩
  case round =>
    obtain ⟨k, hk, rfl, kd, kr, kl, bel⟩ := hrel
    by_cases hlt : k < 32
    · have hrl := hid (rowOf_length ds hl k hk)
      have hidx : ∀ w, (Instr.index 25 (.agg D) (.int .i64 k)).run Tryz.prog w = .ok (.int .u8 (ds.getD k 0)) w := fun w => by
        rw [← HD.out]
        exact run_index_ints (P := Tryz.prog) Tryz.underlying25 Tryz.underlying5 rfl rfl ds hl k hlt w
      have hx := hb (ds.getD k 0) (by rw [show ds.getD k 0 = ds[k]'(by omega) by simp [show k < ds.length by omega]]; exact List.getElem_mem _)
      have Hst := hid (rowOf_step ds hl k hlt)
      generalize ds.getD k 0 = x at *
      obtain ⟨hx0, hx1⟩ := hx
      have c1 : wr.cell? ⟨w.heap.size + 1 + 1, 2 * k, none⟩ = some (.int .i64 0) := by
        rw [kl.cell]; simp [rowOf_zero ds hl k (2 * k) (by omega) (by omega) hk]
      have c2 : wr.cell? ⟨w.heap.size + 1 + 1, 2 * k + 1, none⟩ = some (.int .i64 0) := by
        rw [kl.cell]; simp [rowOf_zero ds hl k (2 * k + 1) (by omega) (by omega) hk]
      have f1 := kl.free
      go_wp2
      have kl' := (kl.set (2 * k) (.int .i64 (x / 16))).set (2 * k + 1) (.int .i64 (x % 16))
      rw [List.setIfInBounds_toArray, List.setIfInBounds_toArray, ← List.map_set, ← List.map_set, Hst.out] at kl'
      refine ⟨⟨k + 1, by omega, by go_num, (kd.other ⟨w.heap.size + 1 + 1, 2 * k, none⟩ (by simp; omega) _).other ⟨w.heap.size + 1 + 1, 2 * k + 1, none⟩ (by simp; omega) _,
        (kr.other ⟨w.heap.size + 1 + 1, 2 * k, none⟩ (by simp) _).other ⟨w.heap.size + 1 + 1, 2 * k + 1, none⟩ (by simp) _, kl',
        (bel.setCell (p := ⟨w.heap.size + 1 + 1, 2 * k, none⟩) (by simp; omega) _).setCell (p := ⟨w.heap.size + 1 + 1, 2 * k + 1, none⟩) (by simp; omega) _⟩, by simp [intOf]; omega⟩
    · obtain rfl : k = 32 := by omega
      have hsm := dig_small ds hb
      have hdl : (dig ds).length = 64 := by rw [dig_length, hl]
      have hla := lacks_any (w.heap.size + 1 + 1) (dig ds) 67 wr (by omega) (fun i hi => by
        have hi' : i < (List.map (Value.int .i64) (dig ds)).length := by simpa using hi
        rw [kl.cell, row_full ds hl, List.map_append, List.getElem?_toArray, List.getElem?_append_left hi']
        simp [hi])
      rw [hdl, lacks_short _ (by omega) hsm] at hla
      have hsb := short_bounds (dig ds) hsm
      rw [hdl] at hsb
      have HSb := hid hsb
      have HD2 := hid (set_three ds hl)
      have hfin : digits ds = dig ds ++ [short (dig ds) / 16 / 16 % 16, short (dig ds) / 16 % 16, short (dig ds) % 16] := rfl
      have HF := hid hfin
      clear hsm hdl hsb hfin
      generalize short (dig ds) = S at *
      obtain ⟨hS0, hS1⟩ := HSb.out
      go_wp2_with fail
      refine hla.mono ?_
      rintro e w1 ⟨rfl, rfl⟩
      have g66 : wr.cell? ⟨w.heap.size + 1 + 1, 66, none⟩ = some (.int .i64 0) := by rw [kl.cell]; simp [rowOf_zero ds hl 32 66]
      have g65 : wr.cell? ⟨w.heap.size + 1 + 1, 65, none⟩ = some (.int .i64 0) := by rw [kl.cell]; simp [rowOf_zero ds hl 32 65]
      have g64 : wr.cell? ⟨w.heap.size + 1 + 1, 64, none⟩ = some (.int .i64 0) := by rw [kl.cell]; simp [rowOf_zero ds hl 32 64]
      have f1 := kl.free
      have kl' := ((kl.set 66 (.int .i64 (S % 16))).set 65 (.int .i64 (S / 16 % 16))).set 64 (.int .i64 (S / 16 / 16 % 16))
      rw [List.setIfInBounds_toArray, List.setIfInBounds_toArray, List.setIfInBounds_toArray, ← List.map_set, ← List.map_set, ← List.map_set, HD2.out, ← HF.out] at kl'
      have kr' := ((kr.other ⟨w.heap.size + 1 + 1, 66, none⟩ (by simp) (.int .i64 (S % 16))).other ⟨w.heap.size + 1 + 1, 65, none⟩ (by simp) (.int .i64 (S / 16 % 16))).other ⟨w.heap.size + 1 + 1, 64, none⟩ (by simp) (.int .i64 (S / 16 / 16 % 16))
      have bel' := ((bel.setCell (p := ⟨w.heap.size + 1 + 1, 66, none⟩) (by simp; omega) (.int .i64 (S % 16))).setCell (p := ⟨w.heap.size + 1 + 1, 65, none⟩) (by simp; omega) (.int .i64 (S / 16 % 16))).setCell (p := ⟨w.heap.size + 1 + 1, 64, none⟩) (by simp; omega) (.int .i64 (S / 16 / 16 % 16))
      clear kl kr kd bel hla
      go_wp2_with fail
      have hz67 : (zeros IntKind.i64 67).size = 67 := by simp [zeros]
      have hd67 : (List.map (Value.int IntKind.i64) (digits ds)).toArray.size = 67 := by simp [digits_length ds hl]
      have Hz := hid hz67
      have Hd := hid hd67
      clear hz67 hd67
      refine wp_loop_rounds 4 ?_
      rw [rounds_succ]
      go_wp2
      rw [rounds_succ]
      go_wp2
      rw [rounds_succ]
      go_wp2
      rw [rounds_succ]
      go_wp2_with (first | (refine wpList_load_blk rfl 120 _ rfl (w.heap.size + 1 + 1) rfl _ 120 kl' _ Tryz.underlying120 rfl 67 size67 Hd.out ?_) | (refine wpList_store_blk rfl 120 _ _ rfl (w.heap.size + 1) _ rfl rfl _ 120 kr' 67 size67 Hz.out Hd.out (ints_one _ _) ?_; intro w2 hbut hk2))
      exact bodyPost_ret (v := .agg (List.map (Value.int IntKind.i64) (digits ds)).toArray) (results_blk Tryz.results59 _ (w.heap.size + 1) rfl _ 120 hk2 _ Tryz.underlying120 rfl 67 size67 Hd.out) rfl ⟨rfl, hbut.below bel' bel'.size (by omega)⟩
end Go.Proofs.YtjkfbeillmeomaaGreatDoor
namespace Go.Proofs.YtjkfbeillmeomaaGreatDoor
set_option maxRecDepth 100000
open Go.ChangeShapes Go.WideShapes Go.ChangeAt Go.RowKit
theorem infoInt : (Tryz.prog.info? 3).map (fun i => (i.zero, i.size, i.bytes)) = some (some (.int .i64 0), 1, 8) := by kernel_rfl
theorem dig_take (ds : List Int) (k : Nat) (h : k < ds.length) : dig (ds.take (k + 1)) = dig (ds.take k) ++ [ds.getD k 0 / 16, ds.getD k 0 % 16] := by
  rw [take_snoc ds k h, dig_append]; simp [dig]
theorem short_take (ds : List Int) (k : Nat) (h : k < ds.length) : short (dig (ds.take (k + 1))) = short (dig (ds.take k)) + 30 - ds.getD k 0 / 16 - ds.getD k 0 % 16 := by
  rw [dig_take ds k h, short_append]; simp [short]; omega
set_option maxHeartbeats 1000000 in
theorem refdigits_any (ds : List Int) (hl : ds.length = 32) (hb : ∀ x ∈ ds, 0 ≤ x ∧ x < 256) (w : World) :
    Calls Tryz.prog 46 #[ints .u8 ds] w fun e w' => ∃ g cap, e = .returned (.slice (some ⟨g, 0, none⟩) 67 cap) ∧ Below w.heap.size w w' ∧ w'.ownsRow (w.heap.size + 1) 3 1 (.slice (some ⟨g, 0, none⟩) 67 cap) 67 ((digits ds).map (Value.int .i64)) := by
  obtain ⟨i0, hi, hz0, hz1, hz2⟩ := info_parts infoInt
  unfold ints
  generalize hD : (List.map (Value.int IntKind.u8) ds).toArray = D
  have HD := hid hD; clear hD
  have kd : Blk (w.alloc (Obj.cells D 25)) w.heap.size D 25 := Blk.new rfl _ _
  have bel : Below w.heap.size w (w.alloc (Obj.cells D 25)) := by go_grown
  go_enter Tryz.func46, Tryz.ntmps46
  go_wp2_with fail
  generalize w.alloc (Obj.cells D 25) = w0 at kd bel ⊢
  go_loopw [3, 4, 5] (fun v s i wr => ∃ k : Nat, k ≤ 32 ∧ i = .int .i64 k ∧ s = .int .i64 (short (dig (ds.take k))) ∧ wr.ownsRow (w.heap.size + 1) 3 1 v (2 * k) ((dig (ds.take k)).map (Value.int .i64)) ∧ Blk wr w.heap.size D 25 ∧ Below w.heap.size w wr) (fun _ _ i _ => 32 - (intOf i).toNat)
  case atStart => exact ⟨0, by omega, rfl, by simp [short, dig], World.ownsRow_nil _ _ _ _, kd, bel⟩
  case round =>
    clear kd bel
    obtain ⟨k, hk, rfl, rfl, hown, kd, bel⟩ := hrel
    have hsb := short_bounds (dig (ds.take k)) (dig_small _ (fun x hx => hb x (List.mem_of_mem_take hx)))
    rw [dig_length, List.length_take, Nat.min_eq_left (by omega)] at hsb
    by_cases hlt : k < 32
    · have cd : wr.cell? ⟨w.heap.size, k, none⟩ = some (.int .u8 (ds.getD k 0)) := by
        rw [kd.cell, ← HD.out]; simp [show k < ds.length by omega]
      have hx := hb (ds.getD k 0) (by rw [show ds.getD k 0 = ds[k]'(by omega) by simp [show k < ds.length by omega]]; exact List.getElem_mem _)
      have H1 := hid (dig_take ds k (by omega))
      have H2 := hid (short_take ds k (by omega))
      generalize ds.getD k 0 = x at *
      generalize short (dig (ds.take k)) = S at *
      generalize dig (ds.take k) = L at *
      obtain ⟨hx0, hx1⟩ := hx
      obtain ⟨hs0, hs1⟩ := hsb
      have hbs := bel.size
      have hlw := kd.lt
      go_wp2_with (at_builtin; refine wpList_append_own _ rfl _ _ 93 rfl (w.heap.size + 1) 3 i0 (.int .i64 0) 1 8 Tryz.underlying93 hi hz0 hz1 hz2 rfl (by decide) u3 (2 * k) _ rfl (hown.alloc _) ⟨wr.heap.size, 0, none⟩ 2 2 [.int .i64 (x / 16), .int .i64 (x % 16)] rfl rfl ?c1 ?c2 ?c3 ?c4 ?c5 ?_)
      case c1 => exact news_new wr [.int .i64 (x / 16), .int .i64 (x % 16)] 3
      case c2 => simp [Value.oneCell']
      case c3 => unfold maxLen; omega
      case c4 => omega
      case c5 => simp; omega
      intro v' w1 hown' hgrow _
      have hlt1 := hown.lt
      have bel' := (bel.alloc hbs (Obj.cells #[.int .i64 (x / 16), .int .i64 (x % 16)] 3)).grown hgrow (by simp; omega) (fun q hq => by have := hlt1 q hq; omega)
      have kd' := (kd.old (Obj.cells #[.int .i64 (x / 16), .int .i64 (x % 16)] 3)).grown hgrow (fun q hq => by have := hlt1 q hq; omega)
      clear hown kd bel hgrow hlt1
      go_wp2
      refine ⟨⟨k + 1, by omega, by go_num, by rw [H2.out], by rw [H1.out, List.map_append, show 2 * (k + 1) = 2 * k + 2 by omega]; exact hown', kd', bel'⟩, by simp [intOf]; omega⟩
    · obtain rfl : k = 32 := by omega
      rw [List.take_of_length_le (by omega)] at hown hsb ⊢
      obtain ⟨hs0, hs1⟩ := hsb
      have hfin : digits ds = dig ds ++ [short (dig ds) / 256, short (dig ds) / 16 % 16, short (dig ds) % 16] := by
        unfold digits
        rw [show short (dig ds) / 16 / 16 % 16 = short (dig ds) / 256 by omega]
      have HF := hid hfin
      clear hfin
      generalize short (dig ds) = S at *
      generalize dig ds = L at *
      have hbs := bel.size
      have hlw := kd.lt
      go_wp2_with (at_builtin; refine wpList_append_own _ rfl _ _ 93 rfl (w.heap.size + 1) 3 i0 (.int .i64 0) 1 8 Tryz.underlying93 hi hz0 hz1 hz2 rfl (by decide) u3 64 _ rfl (hown.alloc _) ⟨wr.heap.size, 0, none⟩ 3 3 [.int .i64 (S / 256), .int .i64 (S / 16 % 16), .int .i64 (S % 16)] rfl rfl ?c1 ?c2 ?c3 ?c4 ?c5 ?_)
      case c1 => exact news_new wr [.int .i64 (S / 256), .int .i64 (S / 16 % 16), .int .i64 (S % 16)] 3
      case c2 => simp [Value.oneCell']
      case c3 => unfold maxLen; omega
      case c4 => omega
      case c5 => simp; omega
      intro v' w1 hown' hgrow hnil
      have hlt1 := hown.lt
      have bel' := (bel.alloc hbs (Obj.cells #[.int .i64 (S / 256), .int .i64 (S / 16 % 16), .int .i64 (S % 16)] 3)).grown hgrow (by simp; omega) (fun q hq => by have := hlt1 q hq; omega)
      have hv : ∃ g cap, v' = .slice (some ⟨g, 0, none⟩) 67 cap := by
        obtain ⟨_, h | ⟨g, cap, cur, h, _⟩⟩ := hown'
        · omega
        · exact ⟨g, cap, h⟩
      obtain ⟨g, cap, rfl⟩ := hv
      clear hown kd bel hgrow hlt1 hnil
      go_wp2
      go_ret
      exact ⟨g, cap, rfl, bel', by rw [HF.out, List.map_append]; exact hown'⟩
end Go.Proofs.YtjkfbeillmeomaaGreatDoor
