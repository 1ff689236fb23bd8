/-
  Layer 12: a disk is switched on; a sector is read; a disk that is off.
-/
import Derived.Test.YtmpgnpkodapidaaDkD
namespace Go.Proofs.Ytmpgnpkodapidaa
open Go.ChangeShapes Go.WideShapes Go.ChangeAt Go.RowKit


set_option maxHeartbeats 4000000 in
set_option maxRecDepth 100000 in
theorem fail_none (w : World) (p z L bb : Nat) (wv : Value) (on set : Bool) (af : Int) (kv : Value) (hk : Blk w p (dkC z L bb wv on set af kv) 75) (k : Int) (hk0 : k < 0) (v : Value) :
    Calls Try.prog 23 #[.pointer (some ⟨p, 0, none⟩), .int .i64 k, v] w fun e w' => e = .returned (.tuple #[]) ∧ But p w w' ∧ Blk w' p (dkC z L bb wv on false 0 (.slice none 0 0)) 75 := by
  have hI : ¬ (0 ≤ k) := by omega
  have Kd := hid hk
  go_enter Try.func23, Try.ntmps23
  go_wp2_with (first
     | (
        refine wpList_store_cell rfl 4 _ _ rfl p 4 (.bool false) rfl rfl rfl rfl _ 75 Kd.out (by simp [dkC]) size_bool ?_
        intro w1 hb1 hk1
        have Hb1 := hid (hb1)
        have Kd1 := hid (show Blk w1 p (dkC z L bb wv on false af kv) 75 from hk1)
        clear hb1 hk1)
     | (
        refine wpList_store_cell rfl 3 _ _ rfl p 5 (.int .i64 0) rfl rfl rfl rfl _ 75 Kd1.out (by simp [dkC]) size_dint ?_
        intro w2 hb2 hk2
        have Hb2 := hid (But.trans Hb1.out hb2)
        have Kd2 := hid (show Blk w2 p (dkC z L bb wv on false 0 kv) 75 from hk2)
        clear hb2 hk2)
     | (
        refine wpList_store_cell rfl 32 _ _ rfl p 6 (.slice none 0 0) rfl rfl rfl rfl _ 75 Kd2.out (by simp [dkC]) size_ints ?_
        intro w3 hb3 hk3
        have Hb3 := hid (But.trans Hb2.out hb3)
        have Kd3 := hid (show Blk w3 p (dkC z L bb wv on false 0 (.slice none 0 0)) 75 from hk3)
        clear hb3 hk3))
  go_returns
  exact ⟨by first | rfl | simp, Hb3.out, Kd3.out⟩

set_option maxHeartbeats 4000000 in
set_option maxRecDepth 100000 in
theorem boot_any (w : World) (p bb z n : Nat) (B : List Int) (wv : Value) (on set : Bool) (af : Int) (kv : Value) (hd : DkAt w p bb z n B wv on set af kv) :
    Calls Try.prog 19 #[.pointer (some ⟨p, 0, none⟩)] w fun e w' => e = .returned (.tuple #[]) ∧ But p w w' ∧ DkAt w' p bb z n B wv true false 0 (.slice none 0 0) := by
  have Kd := hid hd.kp
  have CF := hid (fail_none w p z B.length bb wv on set af kv hd.kp (-1) (by omega) (.slice none 0 0))
  go_enter Try.func19, Try.ntmps19
  go_wp2_with fail
  refine CF.out.mono ?_
  rintro e w1 ⟨rfl, b1, k1⟩
  have Hb1 := hid b1
  have Kd1 := hid k1
  clear b1 k1
  go_wp2_with (
        refine wpList_store_cell rfl 4 _ _ rfl p 3 (.bool true) rfl rfl rfl rfl _ 75 Kd1.out (by simp [dkC]) size_bool ?_
        intro w2 hb2 hk2
        have Hb2 := hid (But.trans Hb1.out hb2)
        have Kd2 := hid (show Blk w2 p (dkC z B.length bb wv true false 0 (.slice none 0 0)) 75 from hk2)
        clear hb2 hk2)
  go_returns
  exact ⟨by first | rfl | simp, Hb2.out, Kd2.out, Hb2.out.blk hd.kb (Ne.symm hd.ne), hd.ne, hd.len, hd.z1, hd.z2, hd.n1, hd.n2, hd.small⟩

set_option maxHeartbeats 4000000 in
set_option maxRecDepth 100000 in
theorem size_any (w : World) (p bb z n : Nat) (B : List Int) (wv : Value) (on set : Bool) (af : Int) (kv : Value) (hd : DkAt w p bb z n B wv on set af kv) :
    Calls Try.prog 11 #[.pointer (some ⟨p, 0, none⟩)] w fun e w' => e = .returned (.int .i64 z) ∧ Below w.heap.size w w' := by
  have Kd := hid hd.kp
  have Hb := hid (Below.refl w.heap.size w)
  have cd0 : w.cell? ⟨p, 0, none⟩ = some (.int .i64 z) := by rw [Kd.out.cell]; rfl
  go_enter Try.func11, Try.ntmps11
  go_wp2_with fail
  go_returns
  exact ⟨rfl, Hb.out⟩

set_option maxHeartbeats 4000000 in
set_option maxRecDepth 100000 in
theorem image_any (w : World) (p bb z n : Nat) (B : List Int) (wv : Value) (on set : Bool) (af : Int) (kv : Value) (hd : DkAt w p bb z n B wv on set af kv) :
    Calls Try.prog 14 #[.pointer (some ⟨p, 0, none⟩)] w fun e w' => ∃ a c, e = .returned (.slice a B.length c) ∧ Below w.heap.size w w' ∧ TextAt w' a B.length c B := by
  have hB : B.length ≤ 32768 := by
    rw [hd.len]
    exact Nat.le_trans (Nat.mul_le_mul hd.n2 hd.z2) (by omega)
  have HT := hid (TextAt.of_ints hd.kb rfl (by omega) hd.small)
  have CC := hid (fun (W : World) (h : TextAt W (some ⟨bb, 0, none⟩) B.length B.length B) => clone_any h (by omega))
  have Kd := hid hd.kp
  have Hb := hid (Below.refl w.heap.size w)
  have cd1 : w.cell? ⟨p, 1, none⟩ = some (.slice (some ⟨bb, 0, none⟩) B.length B.length) := by rw [Kd.out.cell]; rfl
  go_enter Try.func14, Try.ntmps14
  go_wp2_with fail
  refine (CC.out _ (HT.out.below Hb.out)).mono ?_
  rintro e w1 ⟨a, c, rfl, b1, t1⟩
  have Hb1 := hid b1
  have Ht1 := hid t1
  clear b1 t1
  go_wp2_with fail
  go_returns
  exact ⟨_, _, rfl, Hb1.out, Ht1.out.1⟩

set_option maxHeartbeats 4000000 in
set_option maxRecDepth 100000 in
theorem write_off (w : World) (p bb z n : Nat) (B : List Int) (wv : Value) (set : Bool) (af : Int) (kv : Value) (hd : DkAt w p bb z n B wv false set af kv) (i : Int) (tv : Value) :
    Calls Try.prog 16 #[.pointer (some ⟨p, 0, none⟩), .int .i64 i, tv] w fun e w' => e = .returned (.int .i64 9) ∧ Below w.heap.size w w' := by
  have Kd := hid hd.kp
  have Hb := hid (Below.refl w.heap.size w)
  have cd3 : w.cell? ⟨p, 3, none⟩ = some (.bool false) := by rw [Kd.out.cell]; rfl
  go_enter Try.func16, Try.ntmps16
  go_wp2_with fail
  go_returns
  exact ⟨rfl, Hb.out⟩

set_option maxHeartbeats 4000000 in
set_option maxRecDepth 100000 in
theorem read_off (w : World) (p bb z n : Nat) (B : List Int) (wv : Value) (set : Bool) (af : Int) (kv : Value) (hd : DkAt w p bb z n B wv false set af kv) (i : Int) :
    Calls Try.prog 20 #[.pointer (some ⟨p, 0, none⟩), .int .i64 i] w fun e w' => e = .returned (.tuple #[.slice none 0 0, .int .i64 9]) ∧ Below w.heap.size w w' := by
  have Kd := hid hd.kp
  have Hb := hid (Below.refl w.heap.size w)
  have cd3 : w.cell? ⟨p, 3, none⟩ = some (.bool false) := by rw [Kd.out.cell]; rfl
  go_enter Try.func20, Try.ntmps20
  go_wp2_with fail
  go_returns
  exact ⟨rfl, Hb.out⟩

set_option maxHeartbeats 4000000 in
set_option maxRecDepth 100000 in
theorem write_nil (w : World) (i : Int) (tv : Value) :
    Calls Try.prog 16 #[.pointer none, .int .i64 i, tv] w fun e w' => e = .returned (.int .i64 9) ∧ Below w.heap.size w w' := by
  have Hb := hid (Below.refl w.heap.size w)
  go_enter Try.func16, Try.ntmps16
  go_wp2_with fail
  go_returns
  exact ⟨rfl, Hb.out⟩

set_option maxHeartbeats 4000000 in
set_option maxRecDepth 100000 in
theorem sectors_nil (w : World)  :
    Calls Try.prog 10 #[.pointer none] w fun e w' => e = .returned (.int .i64 0) ∧ Below w.heap.size w w' := by
  have Hb := hid (Below.refl w.heap.size w)
  go_enter Try.func10, Try.ntmps10
  go_wp2_with fail
  go_returns
  exact ⟨rfl, Hb.out⟩

theorem DkAt.sec {w : World} {p bb z n : Nat} {B : List Int} {wv : Value} {on set : Bool} {af : Int} {kv : Value} (hd : DkAt w p bb z n B wv on set af kv) (i : Nat) (hi : i < n) : TextAt w (some ⟨bb, i * z, none⟩) z (B.length - i * z) ((B.drop (i * z)).take z) := by
  have hB : B.length ≤ 32768 := by
    rw [hd.len]
    exact Nat.le_trans (Nat.mul_le_mul hd.n2 hd.z2) (by omega)
  have hf : i * z + z ≤ B.length := by
    rw [hd.len, ← Nat.succ_mul]
    exact Nat.mul_le_mul_right z hi
  have hz := hd.z1
  have h := (TextAt.of_ints hd.kb rfl (by omega) hd.small).cut (i * z) (i * z + z) (by omega) hf
  rw [show i * z + z - i * z = z by omega] at h
  unfold cutA at h
  rw [if_neg (by omega)] at h
  have he : (some (⟨bb, 0, none⟩ : Addr)).map (·.add (i * z)) = some ⟨bb, i * z, none⟩ := by
    simp [Addr.add]
    intro h
    exact h.symm
  rw [he] at h
  exact h

set_option maxHeartbeats 4000000 in
set_option maxRecDepth 100000 in
theorem read_any (w : World) (p bb z n : Nat) (B : List Int) (set : Bool) (af : Int) (kv : Value) (wa : Option Addr) (wc : Nat) (ws : List (Nat × List Int)) (hd : DkAt w p bb z n B (.slice wa ws.length wc) true set af kv) (hW : WaitAt w [p, bb] z wa wc ws) (hi : ∀ x ∈ ws, x.1 < n ∧ x.2.length = z) (hlw : ws.length ≤ 1000) (i : Nat) (hin : i < n) :
    Calls Try.prog 20 #[.pointer (some ⟨p, 0, none⟩), .int .i64 i] w fun e w' => ∃ g, e = .returned (.tuple #[.slice (some ⟨g, 0, none⟩) z z, .int .i64 0]) ∧ w.heap.size ≤ g ∧ Below w.heap.size w w' ∧ TextAt w' (some ⟨g, 0, none⟩) z z (readN z i ws B ws.length) := by
  have Kd := hid hd.kp
  have Hb := hid (Below.refl w.heap.size w)
  have HD := hid hd
  have cd0 : w.cell? ⟨p, 0, none⟩ = some (.int .i64 z) := by rw [Kd.out.cell]; rfl
  have cd2 : w.cell? ⟨p, 2, none⟩ = some ((.slice wa ws.length wc)) := by rw [Kd.out.cell]; rfl
  have cd3 : w.cell? ⟨p, 3, none⟩ = some (.bool true) := by rw [Kd.out.cell]; rfl
  go_enter Try.func20, Try.ntmps20
  go_wp2_with fail
  refine (has_in _ p bb z n B _ true set af kv (HD.out.below Hb.out) (i : Int) (by omega) (by omega)).mono ?_
  rintro e w1 ⟨rfl, bw1⟩
  have HBw1 := hid (Below.on Hb.out bw1)
  have hsw1 := HBw1.out.size
  have Kdw1 := hid (Kd.out.below bw1)
  clear bw1
  have cd0w1 : w1.cell? ⟨p, 0, none⟩ = some (.int .i64 z) := by rw [Kdw1.out.cell]; rfl
  have cd2w1 : w1.cell? ⟨p, 2, none⟩ = some (.slice wa ws.length wc) := by rw [Kdw1.out.cell]; rfl
  have cd3w1 : w1.cell? ⟨p, 3, none⟩ = some (.bool true) := by rw [Kdw1.out.cell]; rfl
  go_wp2_with fail
  refine (sector_any _ p bb z n B _ true set af kv (HD.out.below HBw1.out) i hin).mono ?_
  rintro e w2 ⟨rfl, bw2⟩
  have HBw2 := hid (Below.on HBw1.out bw2)
  have hsw2 := HBw2.out.size
  have Kdw2 := hid (Kdw1.out.below bw2)
  clear bw2
  have cd0w2 : w2.cell? ⟨p, 0, none⟩ = some (.int .i64 z) := by rw [Kdw2.out.cell]; rfl
  have cd2w2 : w2.cell? ⟨p, 2, none⟩ = some (.slice wa ws.length wc) := by rw [Kdw2.out.cell]; rfl
  have cd3w2 : w2.cell? ⟨p, 3, none⟩ = some (.bool true) := by rw [Kdw2.out.cell]; rfl
  go_wp2_with fail
  go_loopw [6, 33] (fun lv iv wr => ∃ (j : Nat) (la : Option Addr) (lc : Nat), j ≤ ws.length ∧ iv = .int .i64 j ∧ lv = .slice la z lc ∧ Below w.heap.size w wr ∧ TextAt wr la z lc (readN z i ws B j)) (fun _ iv _ => ws.length - (intOf iv).toNat)
  case atStart => exact ⟨0, _, _, Nat.zero_le _, rfl, rfl, HBw2.out, (HD.out.below HBw2.out).sec i hin⟩
  case round =>
    obtain ⟨j, la, lc, hj, rfl, rfl, hbi, htx⟩ := hrel
    have HBwr := hid hbi
    have HIwr := hid (ButIn.of_below (S := [p, bb]) hbi)
    have hswr := hbi.size
    have HLt := hid htx
    clear hbi htx
    by_cases hlt : j < ws.length
    · skip
      have hcI : (j : Int) < ws.length := by omega
      have HWr := hid (hW.butIn HIwr.out)
      have hwj0 := hi (ws.getD j (0, [])) (by rw [List.getD_eq_getElem?_getD, List.getElem?_eq_getElem hlt]; exact List.getElem_mem _)
      obtain ⟨hwle, hw0 | ⟨x, o, rfl, hx, hxl, hcell⟩⟩ := HWr.out
      · omega
      obtain ⟨hc0, ta, tc, hc1, hto⟩ := hcell j hlt
      obtain ⟨qi, qt, hX⟩ : ∃ qi qt, ws.getD j (0, []) = (qi, qt) := ⟨_, _, rfl⟩
      have Hyes := hid (fun (h : qi = i) => (show readN z i ws B (j + 1) = qt by rw [readN, hX, if_pos h]))
      have Hno := hid (fun (h : ¬ qi = i) => (show readN z i ws B (j + 1) = readN z i ws B j by rw [readN, hX, if_neg h]))
      have hwj : qi < n ∧ qt.length = z := by rw [hX] at hwj0; exact hwj0
      rw [hX] at hc0 hto
      have HTO := hid (show TextO wr [p, bb] ta z tc qt from hto)
      have hRg : Hid (wr.rangeAt x (o + j * 2) [.int .i64 (qi : Int), .slice ta z tc]) := hid (fun k v hv => by
        match k, hv with
        | 0, hv => rw [Nat.add_zero, hc0]; exact hv
        | 1, hv => rw [hc1]; exact hv)
      clear hcell hto hc0 hc1 hX hwj0
      have Kvw11 := hid (Blk.new (w := wr) rfl #[.int .i64 (qi : Int), .slice ta z tc] 85)
      have HBw11 := hid (HBwr.out.alloc HBwr.out.size (.cells #[.int .i64 (qi : Int), .slice ta z tc] 85 (0, 0)))
      have hsw11 := HBw11.out.size
      have hfw11 : w.heap.size ≤ wr.heap.size := HBwr.out.size
      have cv0 : (wr.alloc (.cells #[.int .i64 (qi : Int), .slice ta z tc] 85 (0, 0))).cell? ⟨wr.heap.size, 0, none⟩ = some (.int .i64 (qi : Int)) := by rw [Kvw11.out.cell]; rfl
      have cv1 : (wr.alloc (.cells #[.int .i64 (qi : Int), .slice ta z tc] 85 (0, 0))).cell? ⟨wr.heap.size, 1, none⟩ = some (.slice ta z tc) := by rw [Kvw11.out.cell]; rfl
      by_cases hqi : qi = i
      · subst hqi
        go_wp2_with (first
           | (refine wpList_index_s 2 rfl 73 _ _ rfl Try.underlying73 size_write x o ws.length wc rfl _ _ rfl j rfl hlt ?_)
           | (refine wpList_load_mid rfl 85 _ rfl x (o + j * 2) rfl _ _ hRg.out Try.underlying85 rfl size_write ?_))
        exact ⟨⟨j + 1, ta, tc, by omega, by first | rfl | simp, rfl, HBw11.out, by rw [Hyes.out rfl]; exact (HTO.out.text.below ((Below.refl _ _).alloc (Nat.le_refl _) _))⟩, by simp [intOf]; omega⟩
      · skip
        have hqI : ¬ ((qi : Int) = (i : Int)) := by omega
        have hqB : ((qi : Int) == (i : Int)) = false := by simp; omega
        go_wp2_with (first
           | (refine wpList_index_s 2 rfl 73 _ _ rfl Try.underlying73 size_write x o ws.length wc rfl _ _ rfl j rfl hlt ?_)
           | (refine wpList_load_mid rfl 85 _ rfl x (o + j * 2) rfl _ _ hRg.out Try.underlying85 rfl size_write ?_))
        exact ⟨⟨j + 1, la, lc, by omega, by first | rfl | simp, rfl, HBw11.out, by rw [Hno.out hqi]; exact (HLt.out.below ((Below.refl _ _).alloc (Nat.le_refl _) _))⟩, by simp [intOf]; omega⟩
    · skip
      have hjn : j = ws.length := by omega
      subst hjn
      have hcI : ¬ ((ws.length : Int) < ws.length) := by omega
      have cd0wr : wr.cell? ⟨p, 0, none⟩ = some (.int .i64 z) := by rw [(Kd.out.below HBwr.out).cell]; rfl
      have hmk := fun W => make_bytes z (by have := hd.z2; omega) W
      have Hk9 := hid (Blk.new (w := wr) rfl (Array.replicate z (Value.int .u8 0)) 5)
      have HLt9 := hid (HLt.out.below ((Below.refl wr.heap.size wr).alloc (Nat.le_refl _) (.cells (Array.replicate z (Value.int .u8 0)) 5 (0, 0))))
      have Hn0 := hid (show z = Nat.min z z from (Nat.min_self z).symm)
      have Hfit := hid (show 0 + z ≤ (Array.replicate z (Value.int .u8 0)).size by simp)
      have Hrep := hid (show Array.replicate z (Value.int .u8 0) = ((List.replicate z (0 : Int)).map (Value.int .u8)).toArray by simp)
      go_wp2_with (with_reducible refine wpList_copy_text rfl _ _ _ _ rfl 5 Try.underlying31 size_u8 (wr.heap.size) 0 z z rfl _ z _ rfl _ 5 Hk9.out _ HLt9.out Hfit.out z Hn0.out ?_)
      go_returns
      have hg := wr.heap.size
      have h9 := Hk9.out
      rw [Hrep.out] at h9
      have hb := putS_blk (i := 0) (z := z) (t := readN z i ws B ws.length) (m := z) (B := List.replicate z (0 : Int)) h9 (by rw [HLt.out.length]; exact Nat.le_refl _) (by simp)
      have hc := But.setCells ((readN z i ws B ws.length).take z |>.map (Value.int .u8)) (0 * z) _ (But.of (b := wr.heap.size) (Below.refl _ (wr.alloc (.cells ((List.replicate z (0 : Int)).map (Value.int .u8)).toArray 5 (0, 0)))))
      have he : putS z 0 (readN z i ws B ws.length) z (List.replicate z 0) = readN z i ws B ws.length := by
        unfold putS
        rw [Nat.zero_mul, List.take_zero, List.nil_append, Nat.zero_add, List.drop_eq_nil_of_le (by simp), List.append_nil, List.take_of_length_le (by rw [HLt.out.length]; exact Nat.le_refl _)]
      rw [he] at hb
      rw [Nat.zero_mul, List.map_take, ← Hrep.out] at hb hc
      refine ⟨_, rfl, HBwr.out.size, ?_, TextAt.of_ints hb HLt.out.length (by have := hd.z2; omega) HLt.out.small⟩
      exact hc.below (HBwr.out.alloc HBwr.out.size _) (by simp only [World.size_alloc]; have := HBwr.out.size; omega) HBwr.out.size
end Go.Proofs.Ytmpgnpkodapidaa
