/-
  Contract of sha.schedule: the words of a block.
-/
import Derived.Test.YtkiaeepdpmcafaaDoorShaRot
import Derived.Test.YtkiaeepdpmcafaaDoorText
import Derived.Test.YtkiaeepdpmcafaaDoorFlow
namespace Go.Proofs.YtkiaeepdpmcafaaDoor
open Go.ChangeShapes Go.WideShapes Go.ChangeAt Go.RowKit

def natB (bs : List Int) : List Nat := bs.map Int.toNat
theorem natB_getD (bs : List Int) (hb : ∀ x ∈ bs, 0 ≤ x ∧ x < 256) (j : Nat) : bs.getD j 0 = (((natB bs).getD j 0 : Nat) : Int) ∧ (natB bs).getD j 0 < 256 := by
  unfold natB
  rcases Nat.lt_or_ge j bs.length with hj | hj
  · have := hb bs[j] (List.getElem_mem _)
    simp [hj]
    omega
  · simp [hj]

/-- words, then 0 *
-/
def wordCells (n : Nat) (ws : List Nat) : Array Value := (ws.map (fun x : Nat => Value.int .u32 x) ++ List.replicate (n - ws.length) (Value.int .u32 0)).toArray
theorem wordCells_size (n : Nat) (ws : List Nat) (h : ws.length ≤ n) : (wordCells n ws).size = n := by simp [wordCells]; omega
theorem wordCells_set (n : Nat) (ws : List Nat) (x : Nat) (h : ws.length < n) : (wordCells n ws).setIfInBounds ws.length (.int .u32 x) = wordCells n (ws ++ [x]) := by
  unfold wordCells
  rw [List.setIfInBounds_toArray, List.set_append_right _ _ (by simp)]
  simp only [List.length_map, Nat.sub_self, List.map_append, List.map_cons, List.map_nil, List.length_append, List.length_cons, List.length_nil, List.append_assoc, List.singleton_append]
  congr 2
  obtain ⟨m, hm⟩ : ∃ m, n - ws.length = m + 1 := ⟨n - ws.length - 1, by omega⟩
  rw [hm, show n - (ws.length + (0 + 1)) = m by omega, List.replicate_succ, List.set_cons_zero]
theorem wordCells_get (n : Nat) (ws : List Nat) (j : Nat) (h : j < ws.length) : (wordCells n ws)[j]? = some (.int .u32 (ws.getD j 0 : Nat)) := by
  simp [wordCells, h, List.getElem?_append_left]
theorem wordCells_zero (n : Nat) (ws : List Nat) (h : ws.length < n) : (wordCells n ws)[ws.length]? = some (.int .u32 0) := by
  unfold wordCells
  rw [List.getElem?_toArray, List.getElem?_append_right (by simp), List.length_map, Nat.sub_self, List.getElem?_replicate, if_pos (by omega)]
theorem sched_length (bl : List Nat) : ∀ t, (Sha.sched bl t).length = t
  | 0 => rfl
  | t + 1 => by simp [Sha.sched, sched_length bl t]

theorem or_low (x y n p : Nat) (hp : p = 2 ^ n) (hy : y < p) : x * p ||| y = x * p + y := by
  subst hp
  have := Nat.shiftLeft_add_eq_or_of_lt hy x
  rw [Nat.shiftLeft_eq] at this
  exact this.symm
theorem or_four (a b c d : Nat) (ha : a < 256) (hb : b < 256) (hc : c < 256) (hd : d < 256) :
    bits .or .u32 (bits .or .u32 (bits .or .u32 ((a : Int) * 16777216) ((b : Int) * 65536)) ((c : Int) * 256)) (d : Int) = ((a * 16777216 + b * 65536 + c * 256 + d : Nat) : Int) := by
  have e1 : (a : Int) * 16777216 = ((a * 16777216 : Nat) : Int) := by omega
  have e2 : (b : Int) * 65536 = ((b * 65536 : Nat) : Int) := by omega
  have e3 : (c : Int) * 256 = ((c * 256 : Nat) : Int) := by omega
  have o1 : a * 16777216 ||| b * 65536 = a * 16777216 + b * 65536 := or_low a (b * 65536) 24 16777216 rfl (by omega)
  have o2 : (a * 16777216 + b * 65536) ||| c * 256 = a * 16777216 + b * 65536 + c * 256 := by
    rw [show a * 16777216 + b * 65536 = (a * 256 + b) * 65536 by omega]
    exact or_low (a * 256 + b) (c * 256) 16 65536 rfl (by omega)
  have o3 : (a * 16777216 + b * 65536 + c * 256) ||| d = a * 16777216 + b * 65536 + c * 256 + d := by
    rw [show a * 16777216 + b * 65536 + c * 256 = (a * 65536 + b * 256 + c) * 256 by omega]
    exact or_low (a * 65536 + b * 256 + c) d 8 256 rfl (by omega)
  rw [e1, e2, e3, u32_or_nat _ _ (by omega) (by omega), o1, u32_or_nat _ _ (by omega) (by omega), o2, u32_or_nat _ _ (by omega) (by omega), o3]

theorem But.cell {b : Nat} {w w' : World} (h : But b w w') {x o : Nat} (hx : x < w.heap.size) (hne : x ≠ b) : w'.cell? ⟨x, o, none⟩ = w.cell? ⟨x, o, none⟩ :=
  World.cell?_of_block (h.block x hx hne)

theorem next_lt (ws : List Nat) (t : Nat) : Sha.next ws t < 4294967296 := Nat.mod_lt _ (by decide)
theorem sched_lt (bl : List Nat) (hb : ∀ j, bl.getD j 0 < 256) : ∀ (t j : Nat), (Sha.sched bl t).getD j 0 < 4294967296
  | 0, j => by simp [Sha.sched]
  | t + 1, j => by
    rw [Sha.sched, List.getD_eq_getElem?_getD]
    rcases Nat.lt_or_ge j (Sha.sched bl t).length with h | h
    · rw [List.getElem?_append_left h, ← List.getD_eq_getElem?_getD]
      exact sched_lt bl hb t j
    · rw [List.getElem?_append_right h]
      rcases Nat.eq_zero_or_pos (j - (Sha.sched bl t).length) with h0 | h0
      · rw [h0]
        simp only [List.getElem?_cons_zero, Option.getD_some]
        split
        · unfold Sha.word
          have h1 := hb (4 * t); have h2 := hb (4 * t + 1); have h3 := hb (4 * t + 2); have h4 := hb (4 * t + 3)
          omega
        · exact next_lt _ _
      · rw [List.getElem?_eq_none (by simp; omega)]
        simp

set_option maxHeartbeats 4000000 in
set_option maxRecDepth 100000 in
theorem schedule_any (pb : Nat) (T : TypeId) (a : Option Addr) (cap : Nat) (bl : List Int) (w : World) (hk : Blk w pb (wordCells 64 []) T) (hT : TextAt w a 64 cap bl) (hne : ∀ p : Addr, a = some p → p.block ≠ pb) :
    Calls Tryd.prog 59 #[.pointer (some ⟨pb, 0, none⟩), .slice a 64 cap] w fun e w' => e = .returned (.tuple #[]) ∧ But pb w w' ∧ Blk w' pb (wordCells 64 (Sha.sched (natB bl) 64)) T := by
  have hle := hT.le
  have hmx := hT.max
  obtain ⟨x, o, rfl, hx, hc⟩ := hT.at_ (by omega)
  have hxb : x ≠ pb := hne _ rfl
  have Hs := hid hT.small
  have Hc := hid hc
  have Hlen := hid hT.length
  clear hT hc hne
  go_enter Tryd.func59, Tryd.ntmps59
  go_wp2_with fail
  go_loopw [11] (fun i wr => ∃ k : Nat, k ≤ 16 ∧ i = .int .i64 k ∧ Blk wr pb (wordCells 64 (Sha.sched (natB bl) k)) T ∧ But pb w wr) (fun i _ => 16 - (intOf i).toNat)
  case atStart => exact ⟨0, by omega, rfl, hk, But.of (Below.refl _ _)⟩
  case round =>
    clear hk
    obtain ⟨k, hk, rfl, kW, but⟩ := hrel
    by_cases hlt : k < 16
    · have hl := sched_length (natB bl) k
      have h44 : 4 * k + 4 - 4 * k = 4 := by omega
      have q0 := Hc.out (4 * k) (by omega)
      have q1 := Hc.out (4 * k + 1) (by omega)
      have q2 := Hc.out (4 * k + 2) (by omega)
      have q3 := Hc.out (4 * k + 3) (by omega)
      obtain ⟨y0, b0⟩ := natB_getD bl Hs.out (4 * k)
      obtain ⟨y1, b1⟩ := natB_getD bl Hs.out (4 * k + 1)
      obtain ⟨y2, b2⟩ := natB_getD bl Hs.out (4 * k + 2)
      obtain ⟨y3, b3⟩ := natB_getD bl Hs.out (4 * k + 3)
      rw [y0] at q0; rw [y1] at q1; rw [y2] at q2; rw [y3] at q3
      have hz : wr.cell? ⟨pb, k, none⟩ = some (.int .u32 0) := by rw [kW.cell]; have := wordCells_zero 64 (Sha.sched (natB bl) k) (by omega); rwa [hl] at this
      have HSc := hid (show Sha.sched (natB bl) (k + 1) = Sha.sched (natB bl) k ++ [(natB bl).getD (4 * k) 0 * 16777216 + (natB bl).getD (4 * k + 1) 0 * 65536 + (natB bl).getD (4 * k + 2) 0 * 256 + (natB bl).getD (4 * k + 3) 0] by rw [Sha.sched, if_pos hlt]; rfl)
      clear y0 y1 y2 y3
      generalize (natB bl).getD (4 * k) 0 = y0 at *
      generalize (natB bl).getD (4 * k + 1) 0 = y1 at *
      generalize (natB bl).getD (4 * k + 2) 0 = y2 at *
      generalize (natB bl).getD (4 * k + 3) 0 = y3 at *
      go_wp2_with fail
      refine wp_region_flow 26 [0, 1, 2, 3, 4, 5, 6, 7, 8, 9, 10, 11, 12, 13, 14, 15, 16, 17, 18, 19, 20, 21, 22, 23, 24, 25] [] [] (by kernel_rfl) (by kernel_rfl) ?_
      apply Exists.intro
      refine ⟨fun w0 hb0 hF0 => ?_, ?_⟩
      · have key : ∀ (e : Ext w0) (j : Nat) (v : Value), w.cell? ⟨x, o + j, none⟩ = some v → e.at_.cell? ⟨x, o + j, none⟩ = some v := fun e j v h => by
          rw [(Below.on hb0 e.same).cell (p := ⟨x, o + j, none⟩) (Nat.lt_of_lt_of_le hx but.size), but.cell hx hxb]; exact h
        have k0 := fun e => key e _ _ q0
        have k1 := fun e => key e _ _ q1
        have k2 := fun e => key e _ _ q2
        have k3 := fun e => key e _ _ q3
        simp only [← Nat.add_assoc] at k0 k1 k2 k3
        clear key
        simp only [pick, List.getElem?_toArray, List.getElem?_cons_succ, List.getElem?_cons_zero, Option.toList_some, List.cons_append, List.nil_append]
        repeat (go_big_quiet_step (fail))
        exact wpQuiet_nil rfl
      refine AlChk.nil ?_
      refine Walk.fin fun w3 h3 _ _ => ?_
      simp only [List.drop_succ_cons, List.drop_zero]
      have kW3 := kW.below h3
      have but3 := but.ext h3
      have f1 := kW3.free
      have hz3 : w3.cell? ⟨pb, k, none⟩ = some (.int .u32 0) := by rw [kW3.cell, ← kW.cell]; exact hz
      have HO := hid (or_four y0 y1 y2 y3 b0 b1 b2 b3)
      have HS := hid (show Sha.sched (natB bl) (k + 1) = Sha.sched (natB bl) k ++ [y0 * 16777216 + y1 * 65536 + y2 * 256 + y3] from HSc.out)
      clear kW but hz h3
      go_wp2_with fail
      have kW4 := kW3.set k (.int .u32 (bits .or .u32 (bits .or .u32 (bits .or .u32 ((y0 : Int) * 16777216) ((y1 : Int) * 65536)) ((y2 : Int) * 256)) (y3 : Int)))
      rw [HO.out] at kW4
      rw [HO.out]
      have := wordCells_set 64 (Sha.sched (natB bl) k) (y0 * 16777216 + y1 * 65536 + y2 * 256 + y3) (by omega)
      rw [hl] at this
      rw [this, ← HS.out] at kW4
      exact ⟨⟨k + 1, by omega, by go_num, kW4, but3.set (.inl rfl) _⟩, by simp [intOf]; omega⟩
    · have h16 : 16 = k := by omega
      rw [← h16] at kW
      have H16 := hid h16
      clear h16
      go_wp2_with fail
      clear hk hlt
      go_loopw [6] (fun i wr => ∃ m : Nat, 16 ≤ m ∧ m ≤ 64 ∧ i = .int .i64 m ∧ Blk wr pb (wordCells 64 (Sha.sched (natB bl) m)) T ∧ But pb w wr) (fun i _ => 64 - (intOf i).toNat)
      case atStart => exact ⟨16, by omega, by omega, rfl, kW, but⟩
      case round =>
        clear kW but
        obtain ⟨m, hk0, hk, rfl, kW, but⟩ := hrel
        by_cases hlt : m < 64
        · have hl := sched_length (natB bl) m
          have HS := hid (show Sha.sched (natB bl) (m + 1) = Sha.sched (natB bl) m ++ [Sha.next (Sha.sched (natB bl) m) m] by rw [Sha.sched, if_neg (by omega)])
          have q15 := wordCells_get 64 (Sha.sched (natB bl) m) (m - 15) (by omega)
          have q2 := wordCells_get 64 (Sha.sched (natB bl) m) (m - 2) (by omega)
          have q7 := wordCells_get 64 (Sha.sched (natB bl) m) (m - 7) (by omega)
          have q16 := wordCells_get 64 (Sha.sched (natB bl) m) (m - 16) (by omega)
          rw [← kW.cell] at q15 q2 q7 q16
          have hz : wr.cell? ⟨pb, m, none⟩ = some (.int .u32 0) := by rw [kW.cell]; have := wordCells_zero 64 (Sha.sched (natB bl) m) (by omega); rwa [hl] at this
          have hbw := sched_lt (natB bl) (fun j => (natB_getD bl Hs.out j).2) m
          have l15 := hbw (m - 15)
          have l2 := hbw (m - 2)
          have l7 := hbw (m - 7)
          have l16 := hbw (m - 16)
          have HN : Hid (Sha.next (Sha.sched (natB bl) m) m = (Sha.s1 ((Sha.sched (natB bl) m).getD (m - 2) 0) + (Sha.sched (natB bl) m).getD (m - 7) 0 + Sha.s0 ((Sha.sched (natB bl) m).getD (m - 15) 0) + (Sha.sched (natB bl) m).getD (m - 16) 0) % 4294967296) := hid rfl
          generalize (Sha.sched (natB bl) m).getD (m - 15) 0 = x15 at *
          generalize (Sha.sched (natB bl) m).getD (m - 2) 0 = x2 at *
          generalize (Sha.sched (natB bl) m).getD (m - 7) 0 = x7 at *
          generalize (Sha.sched (natB bl) m).getD (m - 16) 0 = x16 at *
          have e1 : ((m : Int) - 15).toNat = m - 15 := by omega
          have e2 : ((m : Int) - 2).toNat = m - 2 := by omega
          have e3 : ((m : Int) - 7).toNat = m - 7 := by omega
          have e4 : ((m : Int) - 16).toNat = m - 16 := by omega
          clear hbw
          go_wp2_with fail
          refine wp_region_flow 14 [0, 1, 2, 3, 4, 5, 6, 7, 8, 9, 10, 11, 12, 13] [] [] (by kernel_rfl) (by kernel_rfl) ?_
          apply Exists.intro
          refine ⟨fun w0 hb0 hF0 => ?_, ?_⟩
          · have k1 : ∀ e : Ext w0, e.at_.cell? ⟨pb, m - 15, none⟩ = some (.int .u32 x15) := fun e => by rw [((kW.below hb0).below e.same).cell, ← kW.cell]; exact q15
            have k2 : ∀ e : Ext w0, e.at_.cell? ⟨pb, m - 2, none⟩ = some (.int .u32 x2) := fun e => by rw [((kW.below hb0).below e.same).cell, ← kW.cell]; exact q2
            simp only [pick, List.getElem?_toArray, List.getElem?_cons_succ, List.getElem?_cons_zero, Option.toList_some, List.cons_append, List.nil_append]
            repeat (go_big_quiet_step (fail))
            exact wpQuiet_nil rfl
          refine AlChk.nil ?_
          refine Walk.fin fun w3 h3 _ _ => ?_
          simp only [List.drop_succ_cons, List.drop_zero]
          have kW3 := kW.below h3
          have but3 := but.ext h3
          have p7 : w3.cell? ⟨pb, m - 7, none⟩ = some (.int .u32 x7) := by rw [kW3.cell, ← kW.cell]; exact q7
          have p16 : w3.cell? ⟨pb, m - 16, none⟩ = some (.int .u32 x16) := by rw [kW3.cell, ← kW.cell]; exact q16
          have hz3 : w3.cell? ⟨pb, m, none⟩ = some (.int .u32 0) := by rw [kW3.cell, ← kW.cell]; exact hz
          have bs0 := bits_s0 x15 l15
          have bs1 := bits_s1 x2 l2
          have m0 := s0_lt x15 l15
          have m1 := s1_lt x2 l2
          clear q15 q2 q7 q16 kW but hz h3
          go_wp2_with (first | (go_at_call 60; refine (rot_int _ 7 _ _ (by assumption) (by decide) (by decide) (by decide)).mono ?_; rintro e w5 ⟨rfl, rfl⟩) | (go_at_call 60; refine (rot_int _ 18 _ _ (by assumption) (by decide) (by decide) (by decide)).mono ?_; rintro e w5 ⟨rfl, rfl⟩) | (go_at_call 60; refine (rot_int _ 17 _ _ (by assumption) (by decide) (by decide) (by decide)).mono ?_; rintro e w5 ⟨rfl, rfl⟩) | (go_at_call 60; refine (rot_int _ 19 _ _ (by assumption) (by decide) (by decide) (by decide)).mono ?_; rintro e w5 ⟨rfl, rfl⟩))
          clear bs0 bs1
          generalize hs0 : Sha.s0 x15 = z0 at *
          generalize hs1 : Sha.s1 x2 = z1 at *
          have HN2 := hid HN.out
          clear hs0 hs1 HN
          refine wp_region_flow 21 [0, 1, 2, 3, 4, 5, 6, 7, 8, 9, 10, 11, 12, 13, 14, 15, 16, 17, 18, 19, 20] [] [] (by kernel_rfl) (by kernel_rfl) ?_
          apply Exists.intro
          refine ⟨fun w0 hb0 hF0 => ?_, ?_⟩
          · have k1 : ∀ e : Ext w0, e.at_.cell? ⟨pb, m - 7, none⟩ = some (.int .u32 x7) := fun e => by rw [((kW3.below hb0).below e.same).cell, ← kW3.cell]; exact p7
            have k2 : ∀ e : Ext w0, e.at_.cell? ⟨pb, m - 16, none⟩ = some (.int .u32 x16) := fun e => by rw [((kW3.below hb0).below e.same).cell, ← kW3.cell]; exact p16
            simp only [pick, List.getElem?_toArray, List.getElem?_cons_succ, List.getElem?_cons_zero, Option.toList_some, List.cons_append, List.nil_append]
            repeat (go_big_quiet_step (fail))
            exact wpQuiet_nil rfl
          refine AlChk.nil ?_
          refine Walk.fin fun w4 h4 _ _ => ?_
          simp only [List.drop_succ_cons, List.drop_zero]
          have kW4 := kW3.below h4
          have but4 := but3.ext h4
          have f1 := kW4.free
          have hz4 : w4.cell? ⟨pb, m, none⟩ = some (.int .u32 0) := by rw [kW4.cell, ← kW3.cell]; exact hz3
          clear p7 p16 kW3 but3 hz3 h4
          have hfin : ∀ V : Int, V = ((z1 + x7 + z0 + x16) % 4294967296 : Nat) → Blk (w4.setCell ⟨pb, m, none⟩ (.int .u32 V)) pb (wordCells 64 (Sha.sched (natB bl) (m + 1))) T := fun V hV => by
            subst hV
            have := wordCells_set 64 (Sha.sched (natB bl) m) ((z1 + x7 + z0 + x16) % 4294967296) (by omega)
            rw [hl] at this
            rw [HS.out, HN2.out, ← this]
            exact kW4.set m _
          have Hfin := hid hfin
          clear hfin
          go_wp2_with fail
          exact ⟨⟨m + 1, by omega, by omega, by go_num, Hfin.out _ (by omega), but4.set (.inl rfl) _⟩, by simp [intOf]; omega⟩
        · obtain rfl : m = 64 := by omega
          go_wp2_with fail
          go_returns
          exact ⟨rfl, but, kW⟩
end Go.Proofs.YtkiaeepdpmcafaaDoor
