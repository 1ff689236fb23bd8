/-
  Put together, as far as wanted: VhK VhL.
-/
import Derived.Test.YtkakoiaahgchmaaGreatDoorVA6
namespace Go.Proofs.YtkakoiaahgchmaaGreatDoor
set_option maxRecDepth 100000
open Go.ChangeShapes Go.WideShapes Go.ChangeAt Go.RowKit
def allK (p : Shn → Bool) (l : List Shn) : Nat → Bool
  | 0 => true
  | k + 1 => allK p l k && p (l.getD k Shn.zero)
def hisK (p : Shn → Bool) (l : List Shn) : Nat → Bool
  | 0 => true
  | k + 1 => (hisK p l k && p (l.getD k Shn.zero)) && decide ((l.getD k Shn.zero).v = (k : Int) + 1)
theorem allK_true {p : Shn → Bool} {l : List Shn} : ∀ {k : Nat}, allK p l k = true ↔ ∀ j, j < k → p (l.getD j Shn.zero) = true
  | 0 => ⟨fun _ j h => absurd h (by omega), fun _ => rfl⟩
  | k + 1 => by
    unfold allK
    rw [Bool.and_eq_true, allK_true (k := k)]
    constructor
    · rintro ⟨h1, h2⟩ j hj
      by_cases hjk : j = k
      · subst hjk; exact h2
      · exact h1 j (by omega)
    · intro h
      exact ⟨fun j hj => h j (by omega), h k (by omega)⟩
theorem allK_all (p : Shn → Bool) (l : List Shn) : allK p l l.length = l.all p := by
  cases h : l.all p with
  | true =>
    rw [allK_true]
    intro j hj
    rw [List.all_eq_true] at h
    rw [List.getD_eq_getElem?_getD, List.getElem?_eq_getElem hj]
    exact h _ (List.getElem_mem hj)
  | false =>
    cases h2 : allK p l l.length with
    | false => rfl
    | true => exact absurd (all_t (allK_true.1 h2)) (by rw [h]; simp)
theorem hisK_all (p : Shn → Bool) (l : List Shn) : ∀ k, hisK p l k = (allK p l k && decide (∀ j, j < k → (l.getD j Shn.zero).v = (j : Int) + 1))
  | 0 => by
    show true = (true && decide _)
    rw [decide_eq_true (fun j h => absurd h (by omega))]; rfl
  | k + 1 => by
    unfold hisK allK
    rw [hisK_all p l k]
    have e : decide (∀ j, j < k + 1 → (l.getD j Shn.zero).v = (j : Int) + 1) = (decide (∀ j, j < k → (l.getD j Shn.zero).v = (j : Int) + 1) && decide ((l.getD k Shn.zero).v = (k : Int) + 1)) := by
      rw [← Bool.decide_and, decide_eq_decide]
      constructor
      · intro h
        exact ⟨fun j hj => h j (by omega), h k (by omega)⟩
      · rintro ⟨h1, h2⟩ j hj
        by_cases hjk : j = k
        · subst hjk; exact h2
        · exact h1 j (by omega)
    rw [e]
    cases allK p l k <;> cases p (l.getD k Shn.zero) <;> cases decide (∀ j, j < k → (l.getD j Shn.zero).v = (j : Int) + 1) <;> simp
theorem hisK_full (p : Shn → Bool) (l : List Shn) : hisK p l l.length = (l.all p && cntB l) := by rw [hisK_all, allK_all]; rfl
theorem hist_eq (l : List Shn) (a : Bool) (g : Int → Bool) : (cntB l && (a && g (l.length : Int))) = ((a && cntB l) && g (lastV l l.length)) := by
  cases hc : cntB l with
  | false => simp
  | true =>
    have h : lastV l l.length = (l.length : Int) := by
      have hc := of_decide_eq_true hc
      cases hl : l.length with
      | zero => rfl
      | succ n =>
        have := hc n (by omega)
        show (l.getD n Shn.zero).v = _
        rw [this]; simp
    rw [h]
    simp
set_option maxHeartbeats 4000000 in
theorem answers_long (t name x d : List Int) (na sa pa : Option Addr) (nn nc sn sc pl pc : Nat) (l : List Shn) (ns : List (List Int)) (w : World) (_ht : Dg t) (_hx : Dg x) (_hd : Dg d) (_hT : TextAt w na nn nc name) (_hS : ShnsAt w sa sn sc l) (_hN : DigsAt w pa pl pc ns) (tab : ShaTab w) (h1 : 200 < nn) :
    Calls Tryz.prog 4 #[.agg (t.map (Value.int .u8)).toArray, .slice na nn nc, .agg (ansC (.slice sa sn sc) x d (.slice pa pl pc)).toArray] w fun e' w' => e' = .returned (.bool true) ∧ Below w.heap.size w w' := by
  have b1 := (Below.refl w.heap.size w).alloc (Nat.le_refl _) (.cells (t.map (Value.int .u8)).toArray 25 (0, 0))
  have b2 := b1.alloc b1.size (.cells (ansC (.slice sa sn sc) x d (.slice pa pl pc)).toArray 49 (0, 0))
  have Ko := hid ((Blk.new (w := w) (n := w.heap.size) rfl (t.map (Value.int .u8)).toArray 25).old (.cells (ansC (.slice sa sn sc) x d (.slice pa pl pc)).toArray 49 (0, 0)))
  have Ka := hid (Blk.new (w := (w.alloc (.cells (t.map (Value.int .u8)).toArray 25 (0, 0)))) (n := w.heap.size + 1) (by simp only [World.size_alloc]) (ansC (.slice sa sn sc) x d (.slice pa pl pc)).toArray 49)
  have Hb := hid b2
  have hbz := b2.size
  have Hbs := hid (show w.heap.size + 1 + 1 = ((w.alloc (.cells (t.map (Value.int .u8)).toArray 25 (0, 0))).alloc (.cells (ansC (.slice sa sn sc) x d (.slice pa pl pc)).toArray 49 (0, 0))).heap.size by simp only [World.size_alloc])
  have Htab := hid tab
  clear b1 b2 tab 
  have hca : (200 : Int) < (nn : Int) := by omega
  go_enter Tryz.func4, Tryz.ntmps4
  go_wp2_with fail
  refine (knows22 _ (Htab.out.below Hb.out)).mono ?_
  rintro e w1 ⟨rfl, bw1⟩
  have HBw1 := hid (Below.on Hb.out bw1)
  have hsw1 := HBw1.out.size
  have Kow1 := hid (Ko.out.below bw1)
  have Kaw1 := hid (Ka.out.below bw1)
  clear bw1
  go_wp2_with fail
  go_returns
  exact ⟨by first | rfl | simp, HBw1.out⟩
set_option maxHeartbeats 4000000 in
theorem answers_many (t name x d : List Int) (na sa pa : Option Addr) (nn nc sn sc pl pc : Nat) (l : List Shn) (ns : List (List Int)) (w : World) (_ht : Dg t) (hx : Dg x) (hd : Dg d) (_hT : TextAt w na nn nc name) (hS : ShnsAt w sa sn sc l) (_hN : DigsAt w pa pl pc ns) (tab : ShaTab w) (h1 : nn ≤ 200) (hf : fewA l pl = false) :
    Calls Tryz.prog 4 #[.agg (t.map (Value.int .u8)).toArray, .slice na nn nc, .agg (ansC (.slice sa sn sc) x d (.slice pa pl pc)).toArray] w fun e' w' => e' = .returned (.bool true) ∧ Below w.heap.size w w' := by
  have b1 := (Below.refl w.heap.size w).alloc (Nat.le_refl _) (.cells (t.map (Value.int .u8)).toArray 25 (0, 0))
  have b2 := b1.alloc b1.size (.cells (ansC (.slice sa sn sc) x d (.slice pa pl pc)).toArray 49 (0, 0))
  have Ko := hid ((Blk.new (w := w) (n := w.heap.size) rfl (t.map (Value.int .u8)).toArray 25).old (.cells (ansC (.slice sa sn sc) x d (.slice pa pl pc)).toArray 49 (0, 0)))
  have Ka := hid (Blk.new (w := (w.alloc (.cells (t.map (Value.int .u8)).toArray 25 (0, 0)))) (n := w.heap.size + 1) (by simp only [World.size_alloc]) (ansC (.slice sa sn sc) x d (.slice pa pl pc)).toArray 49)
  have Hb := hid b2
  have hbz := b2.size
  have Hbs := hid (show w.heap.size + 1 + 1 = ((w.alloc (.cells (t.map (Value.int .u8)).toArray 25 (0, 0))).alloc (.cells (ansC (.slice sa sn sc) x d (.slice pa pl pc)).toArray 49 (0, 0))).heap.size by simp only [World.size_alloc])
  have Htab := hid tab
  clear b1 b2 tab 
  have FE := hid (fun (W : World) (h : ShnsAt W sa sn sc l) => few22_any sa pa sn sc pl pc x d l W hx hd h)
  rw [hf] at FE
  have hca : ¬ (200 : Int) < (nn : Int) := by omega
  go_enter Tryz.func4, Tryz.ntmps4
  go_wp2_with (refine wpList_load_blk_if (by first | rfl | go_simp) 49 _ rfl (w.heap.size + 1) rfl _ 49 Ka.out _ Tryz.underlying49 rfl 66 size_answer (ansC_size hx hd) ?_)
  refine (FE.out _ (hS.below Hb.out)).mono ?_
  rintro e w1 ⟨rfl, bw1⟩
  have HBw1 := hid (Below.on Hb.out bw1)
  have hsw1 := HBw1.out.size
  have Kow1 := hid (Ko.out.below bw1)
  have Kaw1 := hid (Ka.out.below bw1)
  clear bw1
  go_wp2_with fail
  refine (knows22 _ (Htab.out.below HBw1.out)).mono ?_
  rintro e w2 ⟨rfl, bw2⟩
  have HBw2 := hid (Below.on HBw1.out bw2)
  have hsw2 := HBw2.out.size
  have Kow2 := hid (Kow1.out.below bw2)
  have Kaw2 := hid (Kaw1.out.below bw2)
  clear bw2
  go_wp2_with fail
  go_returns
  exact ⟨by first | rfl | simp, HBw2.out⟩
set_option maxHeartbeats 4000000 in
theorem answers_good (t name x d : List Int) (na sa pa : Option Addr) (nn nc sn sc pl pc : Nat) (l : List Shn) (ns : List (List Int)) (w : World) (ht : Dg t) (hx : Dg x) (hd : Dg d) (hT : TextAt w na nn nc name) (hS : ShnsAt w sa sn sc l) (hN : DigsAt w pa pl pc ns) (tab : ShaTab w) (h1 : nn ≤ 200) (hf : fewA l pl = true) :
    Calls Tryz.prog 4 #[.agg (t.map (Value.int .u8)).toArray, .slice na nn nc, .agg (ansC (.slice sa sn sc) x d (.slice pa pl pc)).toArray] w fun e' w' => e' = .returned (.bool true) ∧ Below w.heap.size w w' := by
  have b1 := (Below.refl w.heap.size w).alloc (Nat.le_refl _) (.cells (t.map (Value.int .u8)).toArray 25 (0, 0))
  have b2 := b1.alloc b1.size (.cells (ansC (.slice sa sn sc) x d (.slice pa pl pc)).toArray 49 (0, 0))
  have Ko := hid ((Blk.new (w := w) (n := w.heap.size) rfl (t.map (Value.int .u8)).toArray 25).old (.cells (ansC (.slice sa sn sc) x d (.slice pa pl pc)).toArray 49 (0, 0)))
  have Ka := hid (Blk.new (w := (w.alloc (.cells (t.map (Value.int .u8)).toArray 25 (0, 0)))) (n := w.heap.size + 1) (by simp only [World.size_alloc]) (ansC (.slice sa sn sc) x d (.slice pa pl pc)).toArray 49)
  have Hb := hid b2
  have hbz := b2.size
  have Hbs := hid (show w.heap.size + 1 + 1 = ((w.alloc (.cells (t.map (Value.int .u8)).toArray 25 (0, 0))).alloc (.cells (ansC (.slice sa sn sc) x d (.slice pa pl pc)).toArray 49 (0, 0))).heap.size by simp only [World.size_alloc])
  have Htab := hid tab
  clear b1 b2 tab 
  have FE := hid (fun (W : World) (h : ShnsAt W sa sn sc l) => few22_any sa pa sn sc pl pc x d l W hx hd h)
  rw [hf] at FE
  have hca : ¬ (200 : Int) < (nn : Int) := by omega
  have HS := hid hS
  have hlen := hS.length
  have hle := hS.le
  have hmx := hS.max
  have HT := hid hT
  have HNS := hid hN
  go_enter Tryz.func4, Tryz.ntmps4
  go_wp2_with (refine wpList_load_blk_if (by first | rfl | go_simp) 49 _ rfl (w.heap.size + 1) rfl _ 49 Ka.out _ Tryz.underlying49 rfl 66 size_answer (ansC_size hx hd) ?_)
  refine (FE.out _ (hS.below Hb.out)).mono ?_
  rintro e w1 ⟨rfl, bw1⟩
  have HBw1 := hid (Below.on Hb.out bw1)
  have hsw1 := HBw1.out.size
  have Kow1 := hid (Ko.out.below bw1)
  have Kaw1 := hid (Ka.out.below bw1)
  clear bw1
  have cas := ansC_shown Kaw1.out
  go_wp2_with fail
  clear cas
  go_loopw [7, 8, 9, 10] (fun lv hv vv iv wr => ∃ (k : Nat) (LB HB : Bool), k ≤ sn ∧ lv = .bool LB ∧ hv = .bool HB ∧ LB = (decide ((sn : Int) ≤ 1) && allK (shownB t name nn) l k) ∧ HB = hisK (shownB t name nn) l k ∧ vv = .int .i64 (lastV l k) ∧ iv = .int .i64 k ∧ Blk wr (w.heap.size) (t.map (Value.int .u8)).toArray 25 ∧ Blk wr (w.heap.size + 1) (ansC (.slice sa sn sc) x d (.slice pa pl pc)).toArray 49 ∧ Below w.heap.size w wr) (fun _ _ _ iv _ => sn - (intOf iv).toNat)
  case atStart => exact ⟨0, _, _, Nat.zero_le _, rfl, rfl, by rw [show allK (shownB t name nn) l 0 = true from rfl, Bool.and_true], rfl, rfl, rfl, Kow1.out, Kaw1.out, HBw1.out⟩
  case round =>
    obtain ⟨k, LB, HB, hk, rfl, rfl, hLB, hHB, rfl, rfl, ko, ka, bel⟩ := hrel
    have Kowr := hid ko
    have Kawr := hid ka
    have cas := ansC_shown ka
    have HBwr := hid bel
    have hswr := bel.size
    have HLB := hid hLB
    have HHB := hid hHB
    clear ko ka bel hLB hHB
    by_cases hlt : k < sn
    · have hc0 : (k : Int) < sn := by omega
      have hok := hid ((HS.out.below HBwr.out).ok hlt)
      obtain ⟨x, o, rfl, hx, hr⟩ := (HS.out.below HBwr.out).at_ hlt
      obtain ⟨q, hq⟩ : ∃ q, l.getD k Shn.zero = q := ⟨_, rfl⟩
      have Hq := hid hq
      rw [hq] at hr hok
      have HR := hid hr
      have hln := hid (shnC_len hok.out.nonce hok.out.salt hok.out.known)
      clear hr hq
      have CR := hid (fun (W : World) (hT : TextAt W na nn nc name) (h : ShnOk W q) => rshown_any t name na nn nc q W ht hT h)
      have CV := hid (fun (W : World) (hT : TextAt W na nn nc name) (h : ShnOk W q) (tb : ShaTab W) => vshown_any t name na nn nc q W ht hT h tb)
      have HLS := hid (show allK (shownB t name nn) l (k + 1) = (allK (shownB t name nn) l k && shownB t name nn q) by rw [← Hq.out]; rfl)
      have HHS := hid (show hisK (shownB t name nn) l (k + 1) = ((hisK (shownB t name nn) l k && shownB t name nn q) && decide (q.v = (k : Int) + 1)) by rw [← Hq.out]; rfl)
      have HVS := hid (show lastV l (k + 1) = q.v by rw [← Hq.out]; rfl)
      generalize shownB t name nn q = SB at *
      by_cases hv : q.v = (k : Int) + 1
      · skip
        have qv : (q.v == (k : Int) + 1) = true := by simp [hv]
        have Hv := hid hv
        clear hv
        cases SB <;> cases LB <;> cases HB
        · skip
          go_wp2_with (first
             | (with_reducible show wpList _ _ _ (⟨some 37, _, _, _, _, _⟩ :: _) _ _; refine wpList_index_s 99 (by first | rfl | go_simp) 45 _ _ rfl Tryz.underlying45 size_shn x o sn sc rfl _ _ rfl k (by omega) (by omega) ?_)
             | (with_reducible show wpList _ _ _ (⟨some 38, _, _, _, _, _⟩ :: _) _ _; refine wpList_load_mid rfl 52 _ rfl x (o + k * 99) rfl _ _ HR.out Tryz.underlying52 rfl (by rw [hln.out]; exact size_shn) ?_)
             | (
                refine wpList_store_blk rfl 52 _ _ rfl (wr.heap.size) (shnC q).toArray rfl rfl _ 52 (Blk.new rfl (shnC Shn.zero).toArray _) 99 size_shn zshn_size (shnC_size hok.out.nonce hok.out.salt hok.out.known) (shn_ones q) ?_
                intro w1 hbw1 hkw1
                have hw1 := hbw1.below ((Below.refl wr.heap.size wr).alloc (Nat.le_refl _) _) (by simp only [World.size_alloc]; omega) (Nat.le_refl _)
                have HBw1 := hid (Below.on HBwr.out hw1)
                have hsw1 := HBw1.out.size
                have Kow1 := hid (Kowr.out.below hw1)
                have hlow1 := Kowr.out.lt
                have Kaw1 := hid (Kawr.out.below hw1)
                have hlaw1 := Kawr.out.lt
                have Kxw1 := hid hkw1
                have OK2 := hid (hok.out.below hw1)
                have rx := Blk.rng hkw1
                have cx0 := shn_v rx
                have cx1 : w1.cell? ⟨wr.heap.size, 1, none⟩ = some (.slice q.va q.vl q.vc) := shn_val rx
                have cx2 : w1.cell? ⟨wr.heap.size, 66 + 32, none⟩ = some (.slice q.pa q.pl q.pc) := shn_nodes hok.out.nonce hok.out.salt hok.out.known rx
                clear rx
                have hfw1 : w.heap.size ≤ wr.heap.size := HBwr.out.size
                clear hbw1 hkw1 hw1)
             | (with_reducible show wpList _ _ _ (⟨some 39, _, _, _, _, _⟩ :: _) _ _; refine wpList_load_blk rfl 25 _ rfl (w.heap.size) rfl _ 25 Kow1.out _ Tryz.underlying25 rfl 32 size_digest ht.size ?_)
             | (with_reducible show wpList _ _ _ (⟨some 46, _, _, _, _, _⟩ :: _) _ _; refine wpList_load_mid rfl 25 _ rfl wr.heap.size 2 rfl _ _ (shn_nonce (Blk.rng Kxw1.out)) Tryz.underlying25 rfl (by rw [List.length_map, hok.out.nonce.len]; exact size_digest) ?_)
             | (with_reducible show wpList _ _ _ (⟨some 48, _, _, _, _, _⟩ :: _) _ _; refine wpList_load_mid rfl 25 _ rfl wr.heap.size 34 rfl _ _ (shn_salt hok.out.nonce (Blk.rng Kxw1.out)) Tryz.underlying25 rfl (by rw [List.length_map, hok.out.salt.len]; exact size_digest) ?_)
             | (with_reducible show wpList _ _ _ (⟨some 51, _, _, _, _, _⟩ :: _) _ _; refine wpList_load_mid rfl 25 _ rfl wr.heap.size 66 rfl _ _ (shn_known hok.out.nonce hok.out.salt (Blk.rng Kxw1.out)) Tryz.underlying25 rfl (by rw [List.length_map, hok.out.known.len]; exact size_digest) ?_))
          refine (CR.out _ (HT.out.below HBw1.out) OK2.out).mono ?_
          rintro e w2 ⟨rfl, bw2⟩
          have OK3 := hid (OK2.out.below bw2)
          have HBw2 := hid (Below.on HBw1.out bw2)
          have hsw2 := HBw2.out.size
          have Kow2 := hid (Kow1.out.below bw2)
          have Kaw2 := hid (Kaw1.out.below bw2)
          have Kxw2 := hid (Kxw1.out.below bw2)
          clear bw2
          go_wp2_with (first
             | (with_reducible show wpList _ _ _ (⟨some 56, _, _, _, _, _⟩ :: _) _ _; refine wpList_load_blk rfl 25 _ rfl (w.heap.size) rfl _ 25 Kow2.out _ Tryz.underlying25 rfl 32 size_digest ht.size ?_)
             | (with_reducible show wpList _ _ _ (⟨some 58, _, _, _, _, _⟩ :: _) _ _; refine wpList_load_blk rfl 52 _ rfl (wr.heap.size) rfl _ 52 Kxw2.out _ Tryz.underlying52 rfl 99 size_shn (shnC_size hok.out.nonce hok.out.salt hok.out.known) ?_))
          refine (CV.out _ (HT.out.below HBw2.out) OK3.out (Htab.out.below HBw2.out)).mono ?_
          rintro e w3 ⟨rfl, bw3⟩
          have HBw3 := hid (Below.on HBw2.out bw3)
          have hsw3 := HBw3.out.size
          have Kow3 := hid (Kow2.out.below bw3)
          have Kaw3 := hid (Kaw2.out.below bw3)
          have Kxw3 := hid (Kxw2.out.below bw3)
          clear bw3
          have cxv : w3.cell? ⟨wr.heap.size, 0, none⟩ = some (.int .i64 q.v) := by rw [Kxw3.out.cell]; rfl
          go_wp2_with fail
          exact ⟨⟨k + 1, _, _, by omega, rfl, rfl, by rw [HLS.out, ← Bool.and_assoc, ← HLB.out]; rfl, by rw [HHS.out, ← HHB.out, decide_eq_true Hv.out]; rfl, by rw [HVS.out], by first | rfl | simp, Kow3.out, Kaw3.out, HBw3.out⟩, by simp [intOf]; omega⟩
        · skip
          go_wp2_with (first
             | (with_reducible show wpList _ _ _ (⟨some 37, _, _, _, _, _⟩ :: _) _ _; refine wpList_index_s 99 (by first | rfl | go_simp) 45 _ _ rfl Tryz.underlying45 size_shn x o sn sc rfl _ _ rfl k (by omega) (by omega) ?_)
             | (with_reducible show wpList _ _ _ (⟨some 38, _, _, _, _, _⟩ :: _) _ _; refine wpList_load_mid rfl 52 _ rfl x (o + k * 99) rfl _ _ HR.out Tryz.underlying52 rfl (by rw [hln.out]; exact size_shn) ?_)
             | (
                refine wpList_store_blk rfl 52 _ _ rfl (wr.heap.size) (shnC q).toArray rfl rfl _ 52 (Blk.new rfl (shnC Shn.zero).toArray _) 99 size_shn zshn_size (shnC_size hok.out.nonce hok.out.salt hok.out.known) (shn_ones q) ?_
                intro w1 hbw1 hkw1
                have hw1 := hbw1.below ((Below.refl wr.heap.size wr).alloc (Nat.le_refl _) _) (by simp only [World.size_alloc]; omega) (Nat.le_refl _)
                have HBw1 := hid (Below.on HBwr.out hw1)
                have hsw1 := HBw1.out.size
                have Kow1 := hid (Kowr.out.below hw1)
                have hlow1 := Kowr.out.lt
                have Kaw1 := hid (Kawr.out.below hw1)
                have hlaw1 := Kawr.out.lt
                have Kxw1 := hid hkw1
                have OK2 := hid (hok.out.below hw1)
                have rx := Blk.rng hkw1
                have cx0 := shn_v rx
                have cx1 : w1.cell? ⟨wr.heap.size, 1, none⟩ = some (.slice q.va q.vl q.vc) := shn_val rx
                have cx2 : w1.cell? ⟨wr.heap.size, 66 + 32, none⟩ = some (.slice q.pa q.pl q.pc) := shn_nodes hok.out.nonce hok.out.salt hok.out.known rx
                clear rx
                have hfw1 : w.heap.size ≤ wr.heap.size := HBwr.out.size
                clear hbw1 hkw1 hw1)
             | (with_reducible show wpList _ _ _ (⟨some 39, _, _, _, _, _⟩ :: _) _ _; refine wpList_load_blk rfl 25 _ rfl (w.heap.size) rfl _ 25 Kow1.out _ Tryz.underlying25 rfl 32 size_digest ht.size ?_)
             | (with_reducible show wpList _ _ _ (⟨some 46, _, _, _, _, _⟩ :: _) _ _; refine wpList_load_mid rfl 25 _ rfl wr.heap.size 2 rfl _ _ (shn_nonce (Blk.rng Kxw1.out)) Tryz.underlying25 rfl (by rw [List.length_map, hok.out.nonce.len]; exact size_digest) ?_)
             | (with_reducible show wpList _ _ _ (⟨some 48, _, _, _, _, _⟩ :: _) _ _; refine wpList_load_mid rfl 25 _ rfl wr.heap.size 34 rfl _ _ (shn_salt hok.out.nonce (Blk.rng Kxw1.out)) Tryz.underlying25 rfl (by rw [List.length_map, hok.out.salt.len]; exact size_digest) ?_)
             | (with_reducible show wpList _ _ _ (⟨some 51, _, _, _, _, _⟩ :: _) _ _; refine wpList_load_mid rfl 25 _ rfl wr.heap.size 66 rfl _ _ (shn_known hok.out.nonce hok.out.salt (Blk.rng Kxw1.out)) Tryz.underlying25 rfl (by rw [List.length_map, hok.out.known.len]; exact size_digest) ?_))
          refine (CR.out _ (HT.out.below HBw1.out) OK2.out).mono ?_
          rintro e w2 ⟨rfl, bw2⟩
          have OK3 := hid (OK2.out.below bw2)
          have HBw2 := hid (Below.on HBw1.out bw2)
          have hsw2 := HBw2.out.size
          have Kow2 := hid (Kow1.out.below bw2)
          have Kaw2 := hid (Kaw1.out.below bw2)
          have Kxw2 := hid (Kxw1.out.below bw2)
          clear bw2
          go_wp2_with (first
             | (with_reducible show wpList _ _ _ (⟨some 56, _, _, _, _, _⟩ :: _) _ _; refine wpList_load_blk rfl 25 _ rfl (w.heap.size) rfl _ 25 Kow2.out _ Tryz.underlying25 rfl 32 size_digest ht.size ?_)
             | (with_reducible show wpList _ _ _ (⟨some 58, _, _, _, _, _⟩ :: _) _ _; refine wpList_load_blk rfl 52 _ rfl (wr.heap.size) rfl _ 52 Kxw2.out _ Tryz.underlying52 rfl 99 size_shn (shnC_size hok.out.nonce hok.out.salt hok.out.known) ?_))
          refine (CV.out _ (HT.out.below HBw2.out) OK3.out (Htab.out.below HBw2.out)).mono ?_
          rintro e w3 ⟨rfl, bw3⟩
          have HBw3 := hid (Below.on HBw2.out bw3)
          have hsw3 := HBw3.out.size
          have Kow3 := hid (Kow2.out.below bw3)
          have Kaw3 := hid (Kaw2.out.below bw3)
          have Kxw3 := hid (Kxw2.out.below bw3)
          clear bw3
          have cxv : w3.cell? ⟨wr.heap.size, 0, none⟩ = some (.int .i64 q.v) := by rw [Kxw3.out.cell]; rfl
          go_wp2_with fail
          exact ⟨⟨k + 1, _, _, by omega, rfl, rfl, by rw [HLS.out, ← Bool.and_assoc, ← HLB.out]; rfl, by rw [HHS.out, ← HHB.out, decide_eq_true Hv.out]; rfl, by rw [HVS.out], by first | rfl | simp, Kow3.out, Kaw3.out, HBw3.out⟩, by simp [intOf]; omega⟩
        · skip
          go_wp2_with (first
             | (with_reducible show wpList _ _ _ (⟨some 37, _, _, _, _, _⟩ :: _) _ _; refine wpList_index_s 99 (by first | rfl | go_simp) 45 _ _ rfl Tryz.underlying45 size_shn x o sn sc rfl _ _ rfl k (by omega) (by omega) ?_)
             | (with_reducible show wpList _ _ _ (⟨some 38, _, _, _, _, _⟩ :: _) _ _; refine wpList_load_mid rfl 52 _ rfl x (o + k * 99) rfl _ _ HR.out Tryz.underlying52 rfl (by rw [hln.out]; exact size_shn) ?_)
             | (
                refine wpList_store_blk rfl 52 _ _ rfl (wr.heap.size) (shnC q).toArray rfl rfl _ 52 (Blk.new rfl (shnC Shn.zero).toArray _) 99 size_shn zshn_size (shnC_size hok.out.nonce hok.out.salt hok.out.known) (shn_ones q) ?_
                intro w1 hbw1 hkw1
                have hw1 := hbw1.below ((Below.refl wr.heap.size wr).alloc (Nat.le_refl _) _) (by simp only [World.size_alloc]; omega) (Nat.le_refl _)
                have HBw1 := hid (Below.on HBwr.out hw1)
                have hsw1 := HBw1.out.size
                have Kow1 := hid (Kowr.out.below hw1)
                have hlow1 := Kowr.out.lt
                have Kaw1 := hid (Kawr.out.below hw1)
                have hlaw1 := Kawr.out.lt
                have Kxw1 := hid hkw1
                have OK2 := hid (hok.out.below hw1)
                have rx := Blk.rng hkw1
                have cx0 := shn_v rx
                have cx1 : w1.cell? ⟨wr.heap.size, 1, none⟩ = some (.slice q.va q.vl q.vc) := shn_val rx
                have cx2 : w1.cell? ⟨wr.heap.size, 66 + 32, none⟩ = some (.slice q.pa q.pl q.pc) := shn_nodes hok.out.nonce hok.out.salt hok.out.known rx
                clear rx
                have hfw1 : w.heap.size ≤ wr.heap.size := HBwr.out.size
                clear hbw1 hkw1 hw1)
             | (with_reducible show wpList _ _ _ (⟨some 39, _, _, _, _, _⟩ :: _) _ _; refine wpList_load_blk rfl 25 _ rfl (w.heap.size) rfl _ 25 Kow1.out _ Tryz.underlying25 rfl 32 size_digest ht.size ?_)
             | (with_reducible show wpList _ _ _ (⟨some 46, _, _, _, _, _⟩ :: _) _ _; refine wpList_load_mid rfl 25 _ rfl wr.heap.size 2 rfl _ _ (shn_nonce (Blk.rng Kxw1.out)) Tryz.underlying25 rfl (by rw [List.length_map, hok.out.nonce.len]; exact size_digest) ?_)
             | (with_reducible show wpList _ _ _ (⟨some 48, _, _, _, _, _⟩ :: _) _ _; refine wpList_load_mid rfl 25 _ rfl wr.heap.size 34 rfl _ _ (shn_salt hok.out.nonce (Blk.rng Kxw1.out)) Tryz.underlying25 rfl (by rw [List.length_map, hok.out.salt.len]; exact size_digest) ?_)
             | (with_reducible show wpList _ _ _ (⟨some 51, _, _, _, _, _⟩ :: _) _ _; refine wpList_load_mid rfl 25 _ rfl wr.heap.size 66 rfl _ _ (shn_known hok.out.nonce hok.out.salt (Blk.rng Kxw1.out)) Tryz.underlying25 rfl (by rw [List.length_map, hok.out.known.len]; exact size_digest) ?_))
          refine (CR.out _ (HT.out.below HBw1.out) OK2.out).mono ?_
          rintro e w2 ⟨rfl, bw2⟩
          have OK3 := hid (OK2.out.below bw2)
          have HBw2 := hid (Below.on HBw1.out bw2)
          have hsw2 := HBw2.out.size
          have Kow2 := hid (Kow1.out.below bw2)
          have Kaw2 := hid (Kaw1.out.below bw2)
          have Kxw2 := hid (Kxw1.out.below bw2)
          clear bw2
          go_wp2_with (first
             | (with_reducible show wpList _ _ _ (⟨some 56, _, _, _, _, _⟩ :: _) _ _; refine wpList_load_blk rfl 25 _ rfl (w.heap.size) rfl _ 25 Kow2.out _ Tryz.underlying25 rfl 32 size_digest ht.size ?_)
             | (with_reducible show wpList _ _ _ (⟨some 58, _, _, _, _, _⟩ :: _) _ _; refine wpList_load_blk rfl 52 _ rfl (wr.heap.size) rfl _ 52 Kxw2.out _ Tryz.underlying52 rfl 99 size_shn (shnC_size hok.out.nonce hok.out.salt hok.out.known) ?_))
          refine (CV.out _ (HT.out.below HBw2.out) OK3.out (Htab.out.below HBw2.out)).mono ?_
          rintro e w3 ⟨rfl, bw3⟩
          have HBw3 := hid (Below.on HBw2.out bw3)
          have hsw3 := HBw3.out.size
          have Kow3 := hid (Kow2.out.below bw3)
          have Kaw3 := hid (Kaw2.out.below bw3)
          have Kxw3 := hid (Kxw2.out.below bw3)
          clear bw3
          have cxv : w3.cell? ⟨wr.heap.size, 0, none⟩ = some (.int .i64 q.v) := by rw [Kxw3.out.cell]; rfl
          go_wp2_with fail
          exact ⟨⟨k + 1, _, _, by omega, rfl, rfl, by rw [HLS.out, ← Bool.and_assoc, ← HLB.out]; rfl, by rw [HHS.out, ← HHB.out, decide_eq_true Hv.out]; rfl, by rw [HVS.out], by first | rfl | simp, Kow3.out, Kaw3.out, HBw3.out⟩, by simp [intOf]; omega⟩
        · skip
          go_wp2_with (first
             | (with_reducible show wpList _ _ _ (⟨some 37, _, _, _, _, _⟩ :: _) _ _; refine wpList_index_s 99 (by first | rfl | go_simp) 45 _ _ rfl Tryz.underlying45 size_shn x o sn sc rfl _ _ rfl k (by omega) (by omega) ?_)
             | (with_reducible show wpList _ _ _ (⟨some 38, _, _, _, _, _⟩ :: _) _ _; refine wpList_load_mid rfl 52 _ rfl x (o + k * 99) rfl _ _ HR.out Tryz.underlying52 rfl (by rw [hln.out]; exact size_shn) ?_)
             | (
                refine wpList_store_blk rfl 52 _ _ rfl (wr.heap.size) (shnC q).toArray rfl rfl _ 52 (Blk.new rfl (shnC Shn.zero).toArray _) 99 size_shn zshn_size (shnC_size hok.out.nonce hok.out.salt hok.out.known) (shn_ones q) ?_
                intro w1 hbw1 hkw1
                have hw1 := hbw1.below ((Below.refl wr.heap.size wr).alloc (Nat.le_refl _) _) (by simp only [World.size_alloc]; omega) (Nat.le_refl _)
                have HBw1 := hid (Below.on HBwr.out hw1)
                have hsw1 := HBw1.out.size
                have Kow1 := hid (Kowr.out.below hw1)
                have hlow1 := Kowr.out.lt
                have Kaw1 := hid (Kawr.out.below hw1)
                have hlaw1 := Kawr.out.lt
                have Kxw1 := hid hkw1
                have OK2 := hid (hok.out.below hw1)
                have rx := Blk.rng hkw1
                have cx0 := shn_v rx
                have cx1 : w1.cell? ⟨wr.heap.size, 1, none⟩ = some (.slice q.va q.vl q.vc) := shn_val rx
                have cx2 : w1.cell? ⟨wr.heap.size, 66 + 32, none⟩ = some (.slice q.pa q.pl q.pc) := shn_nodes hok.out.nonce hok.out.salt hok.out.known rx
                clear rx
                have hfw1 : w.heap.size ≤ wr.heap.size := HBwr.out.size
                clear hbw1 hkw1 hw1)
             | (with_reducible show wpList _ _ _ (⟨some 39, _, _, _, _, _⟩ :: _) _ _; refine wpList_load_blk rfl 25 _ rfl (w.heap.size) rfl _ 25 Kow1.out _ Tryz.underlying25 rfl 32 size_digest ht.size ?_)
             | (with_reducible show wpList _ _ _ (⟨some 46, _, _, _, _, _⟩ :: _) _ _; refine wpList_load_mid rfl 25 _ rfl wr.heap.size 2 rfl _ _ (shn_nonce (Blk.rng Kxw1.out)) Tryz.underlying25 rfl (by rw [List.length_map, hok.out.nonce.len]; exact size_digest) ?_)
             | (with_reducible show wpList _ _ _ (⟨some 48, _, _, _, _, _⟩ :: _) _ _; refine wpList_load_mid rfl 25 _ rfl wr.heap.size 34 rfl _ _ (shn_salt hok.out.nonce (Blk.rng Kxw1.out)) Tryz.underlying25 rfl (by rw [List.length_map, hok.out.salt.len]; exact size_digest) ?_)
             | (with_reducible show wpList _ _ _ (⟨some 51, _, _, _, _, _⟩ :: _) _ _; refine wpList_load_mid rfl 25 _ rfl wr.heap.size 66 rfl _ _ (shn_known hok.out.nonce hok.out.salt (Blk.rng Kxw1.out)) Tryz.underlying25 rfl (by rw [List.length_map, hok.out.known.len]; exact size_digest) ?_))
          refine (CR.out _ (HT.out.below HBw1.out) OK2.out).mono ?_
          rintro e w2 ⟨rfl, bw2⟩
          have OK3 := hid (OK2.out.below bw2)
          have HBw2 := hid (Below.on HBw1.out bw2)
          have hsw2 := HBw2.out.size
          have Kow2 := hid (Kow1.out.below bw2)
          have Kaw2 := hid (Kaw1.out.below bw2)
          have Kxw2 := hid (Kxw1.out.below bw2)
          clear bw2
          go_wp2_with (first
             | (with_reducible show wpList _ _ _ (⟨some 56, _, _, _, _, _⟩ :: _) _ _; refine wpList_load_blk rfl 25 _ rfl (w.heap.size) rfl _ 25 Kow2.out _ Tryz.underlying25 rfl 32 size_digest ht.size ?_)
             | (with_reducible show wpList _ _ _ (⟨some 58, _, _, _, _, _⟩ :: _) _ _; refine wpList_load_blk rfl 52 _ rfl (wr.heap.size) rfl _ 52 Kxw2.out _ Tryz.underlying52 rfl 99 size_shn (shnC_size hok.out.nonce hok.out.salt hok.out.known) ?_))
          refine (CV.out _ (HT.out.below HBw2.out) OK3.out (Htab.out.below HBw2.out)).mono ?_
          rintro e w3 ⟨rfl, bw3⟩
          have HBw3 := hid (Below.on HBw2.out bw3)
          have hsw3 := HBw3.out.size
          have Kow3 := hid (Kow2.out.below bw3)
          have Kaw3 := hid (Kaw2.out.below bw3)
          have Kxw3 := hid (Kxw2.out.below bw3)
          clear bw3
          have cxv : w3.cell? ⟨wr.heap.size, 0, none⟩ = some (.int .i64 q.v) := by rw [Kxw3.out.cell]; rfl
          go_wp2_with fail
          exact ⟨⟨k + 1, _, _, by omega, rfl, rfl, by rw [HLS.out, ← Bool.and_assoc, ← HLB.out]; rfl, by rw [HHS.out, ← HHB.out, decide_eq_true Hv.out]; rfl, by rw [HVS.out], by first | rfl | simp, Kow3.out, Kaw3.out, HBw3.out⟩, by simp [intOf]; omega⟩
        · skip
          go_wp2_with (first
             | (with_reducible show wpList _ _ _ (⟨some 37, _, _, _, _, _⟩ :: _) _ _; refine wpList_index_s 99 (by first | rfl | go_simp) 45 _ _ rfl Tryz.underlying45 size_shn x o sn sc rfl _ _ rfl k (by omega) (by omega) ?_)
             | (with_reducible show wpList _ _ _ (⟨some 38, _, _, _, _, _⟩ :: _) _ _; refine wpList_load_mid rfl 52 _ rfl x (o + k * 99) rfl _ _ HR.out Tryz.underlying52 rfl (by rw [hln.out]; exact size_shn) ?_)
             | (
                refine wpList_store_blk rfl 52 _ _ rfl (wr.heap.size) (shnC q).toArray rfl rfl _ 52 (Blk.new rfl (shnC Shn.zero).toArray _) 99 size_shn zshn_size (shnC_size hok.out.nonce hok.out.salt hok.out.known) (shn_ones q) ?_
                intro w1 hbw1 hkw1
                have hw1 := hbw1.below ((Below.refl wr.heap.size wr).alloc (Nat.le_refl _) _) (by simp only [World.size_alloc]; omega) (Nat.le_refl _)
                have HBw1 := hid (Below.on HBwr.out hw1)
                have hsw1 := HBw1.out.size
                have Kow1 := hid (Kowr.out.below hw1)
                have hlow1 := Kowr.out.lt
                have Kaw1 := hid (Kawr.out.below hw1)
                have hlaw1 := Kawr.out.lt
                have Kxw1 := hid hkw1
                have OK2 := hid (hok.out.below hw1)
                have rx := Blk.rng hkw1
                have cx0 := shn_v rx
                have cx1 : w1.cell? ⟨wr.heap.size, 1, none⟩ = some (.slice q.va q.vl q.vc) := shn_val rx
                have cx2 : w1.cell? ⟨wr.heap.size, 66 + 32, none⟩ = some (.slice q.pa q.pl q.pc) := shn_nodes hok.out.nonce hok.out.salt hok.out.known rx
                clear rx
                have hfw1 : w.heap.size ≤ wr.heap.size := HBwr.out.size
                clear hbw1 hkw1 hw1)
             | (with_reducible show wpList _ _ _ (⟨some 39, _, _, _, _, _⟩ :: _) _ _; refine wpList_load_blk rfl 25 _ rfl (w.heap.size) rfl _ 25 Kow1.out _ Tryz.underlying25 rfl 32 size_digest ht.size ?_)
             | (with_reducible show wpList _ _ _ (⟨some 46, _, _, _, _, _⟩ :: _) _ _; refine wpList_load_mid rfl 25 _ rfl wr.heap.size 2 rfl _ _ (shn_nonce (Blk.rng Kxw1.out)) Tryz.underlying25 rfl (by rw [List.length_map, hok.out.nonce.len]; exact size_digest) ?_)
             | (with_reducible show wpList _ _ _ (⟨some 48, _, _, _, _, _⟩ :: _) _ _; refine wpList_load_mid rfl 25 _ rfl wr.heap.size 34 rfl _ _ (shn_salt hok.out.nonce (Blk.rng Kxw1.out)) Tryz.underlying25 rfl (by rw [List.length_map, hok.out.salt.len]; exact size_digest) ?_)
             | (with_reducible show wpList _ _ _ (⟨some 51, _, _, _, _, _⟩ :: _) _ _; refine wpList_load_mid rfl 25 _ rfl wr.heap.size 66 rfl _ _ (shn_known hok.out.nonce hok.out.salt (Blk.rng Kxw1.out)) Tryz.underlying25 rfl (by rw [List.length_map, hok.out.known.len]; exact size_digest) ?_))
          refine (CR.out _ (HT.out.below HBw1.out) OK2.out).mono ?_
          rintro e w2 ⟨rfl, bw2⟩
          have OK3 := hid (OK2.out.below bw2)
          have HBw2 := hid (Below.on HBw1.out bw2)
          have hsw2 := HBw2.out.size
          have Kow2 := hid (Kow1.out.below bw2)
          have Kaw2 := hid (Kaw1.out.below bw2)
          have Kxw2 := hid (Kxw1.out.below bw2)
          clear bw2
          go_wp2_with (first
             | (with_reducible show wpList _ _ _ (⟨some 56, _, _, _, _, _⟩ :: _) _ _; refine wpList_load_blk rfl 25 _ rfl (w.heap.size) rfl _ 25 Kow2.out _ Tryz.underlying25 rfl 32 size_digest ht.size ?_)
             | (with_reducible show wpList _ _ _ (⟨some 58, _, _, _, _, _⟩ :: _) _ _; refine wpList_load_blk rfl 52 _ rfl (wr.heap.size) rfl _ 52 Kxw2.out _ Tryz.underlying52 rfl 99 size_shn (shnC_size hok.out.nonce hok.out.salt hok.out.known) ?_))
          refine (CV.out _ (HT.out.below HBw2.out) OK3.out (Htab.out.below HBw2.out)).mono ?_
          rintro e w3 ⟨rfl, bw3⟩
          have HBw3 := hid (Below.on HBw2.out bw3)
          have hsw3 := HBw3.out.size
          have Kow3 := hid (Kow2.out.below bw3)
          have Kaw3 := hid (Kaw2.out.below bw3)
          have Kxw3 := hid (Kxw2.out.below bw3)
          clear bw3
          have cxv : w3.cell? ⟨wr.heap.size, 0, none⟩ = some (.int .i64 q.v) := by rw [Kxw3.out.cell]; rfl
          go_wp2_with fail
          exact ⟨⟨k + 1, _, _, by omega, rfl, rfl, by rw [HLS.out, ← Bool.and_assoc, ← HLB.out]; rfl, by rw [HHS.out, ← HHB.out, decide_eq_true Hv.out]; rfl, by rw [HVS.out], by first | rfl | simp, Kow3.out, Kaw3.out, HBw3.out⟩, by simp [intOf]; omega⟩
        · skip
          go_wp2_with (first
             | (with_reducible show wpList _ _ _ (⟨some 37, _, _, _, _, _⟩ :: _) _ _; refine wpList_index_s 99 (by first | rfl | go_simp) 45 _ _ rfl Tryz.underlying45 size_shn x o sn sc rfl _ _ rfl k (by omega) (by omega) ?_)
             | (with_reducible show wpList _ _ _ (⟨some 38, _, _, _, _, _⟩ :: _) _ _; refine wpList_load_mid rfl 52 _ rfl x (o + k * 99) rfl _ _ HR.out Tryz.underlying52 rfl (by rw [hln.out]; exact size_shn) ?_)
             | (
                refine wpList_store_blk rfl 52 _ _ rfl (wr.heap.size) (shnC q).toArray rfl rfl _ 52 (Blk.new rfl (shnC Shn.zero).toArray _) 99 size_shn zshn_size (shnC_size hok.out.nonce hok.out.salt hok.out.known) (shn_ones q) ?_
                intro w1 hbw1 hkw1
                have hw1 := hbw1.below ((Below.refl wr.heap.size wr).alloc (Nat.le_refl _) _) (by simp only [World.size_alloc]; omega) (Nat.le_refl _)
                have HBw1 := hid (Below.on HBwr.out hw1)
                have hsw1 := HBw1.out.size
                have Kow1 := hid (Kowr.out.below hw1)
                have hlow1 := Kowr.out.lt
                have Kaw1 := hid (Kawr.out.below hw1)
                have hlaw1 := Kawr.out.lt
                have Kxw1 := hid hkw1
                have OK2 := hid (hok.out.below hw1)
                have rx := Blk.rng hkw1
                have cx0 := shn_v rx
                have cx1 : w1.cell? ⟨wr.heap.size, 1, none⟩ = some (.slice q.va q.vl q.vc) := shn_val rx
                have cx2 : w1.cell? ⟨wr.heap.size, 66 + 32, none⟩ = some (.slice q.pa q.pl q.pc) := shn_nodes hok.out.nonce hok.out.salt hok.out.known rx
                clear rx
                have hfw1 : w.heap.size ≤ wr.heap.size := HBwr.out.size
                clear hbw1 hkw1 hw1)
             | (with_reducible show wpList _ _ _ (⟨some 39, _, _, _, _, _⟩ :: _) _ _; refine wpList_load_blk rfl 25 _ rfl (w.heap.size) rfl _ 25 Kow1.out _ Tryz.underlying25 rfl 32 size_digest ht.size ?_)
             | (with_reducible show wpList _ _ _ (⟨some 46, _, _, _, _, _⟩ :: _) _ _; refine wpList_load_mid rfl 25 _ rfl wr.heap.size 2 rfl _ _ (shn_nonce (Blk.rng Kxw1.out)) Tryz.underlying25 rfl (by rw [List.length_map, hok.out.nonce.len]; exact size_digest) ?_)
             | (with_reducible show wpList _ _ _ (⟨some 48, _, _, _, _, _⟩ :: _) _ _; refine wpList_load_mid rfl 25 _ rfl wr.heap.size 34 rfl _ _ (shn_salt hok.out.nonce (Blk.rng Kxw1.out)) Tryz.underlying25 rfl (by rw [List.length_map, hok.out.salt.len]; exact size_digest) ?_)
             | (with_reducible show wpList _ _ _ (⟨some 51, _, _, _, _, _⟩ :: _) _ _; refine wpList_load_mid rfl 25 _ rfl wr.heap.size 66 rfl _ _ (shn_known hok.out.nonce hok.out.salt (Blk.rng Kxw1.out)) Tryz.underlying25 rfl (by rw [List.length_map, hok.out.known.len]; exact size_digest) ?_))
          refine (CR.out _ (HT.out.below HBw1.out) OK2.out).mono ?_
          rintro e w2 ⟨rfl, bw2⟩
          have OK3 := hid (OK2.out.below bw2)
          have HBw2 := hid (Below.on HBw1.out bw2)
          have hsw2 := HBw2.out.size
          have Kow2 := hid (Kow1.out.below bw2)
          have Kaw2 := hid (Kaw1.out.below bw2)
          have Kxw2 := hid (Kxw1.out.below bw2)
          clear bw2
          go_wp2_with (first
             | (with_reducible show wpList _ _ _ (⟨some 56, _, _, _, _, _⟩ :: _) _ _; refine wpList_load_blk rfl 25 _ rfl (w.heap.size) rfl _ 25 Kow2.out _ Tryz.underlying25 rfl 32 size_digest ht.size ?_)
             | (with_reducible show wpList _ _ _ (⟨some 58, _, _, _, _, _⟩ :: _) _ _; refine wpList_load_blk rfl 52 _ rfl (wr.heap.size) rfl _ 52 Kxw2.out _ Tryz.underlying52 rfl 99 size_shn (shnC_size hok.out.nonce hok.out.salt hok.out.known) ?_))
          refine (CV.out _ (HT.out.below HBw2.out) OK3.out (Htab.out.below HBw2.out)).mono ?_
          rintro e w3 ⟨rfl, bw3⟩
          have HBw3 := hid (Below.on HBw2.out bw3)
          have hsw3 := HBw3.out.size
          have Kow3 := hid (Kow2.out.below bw3)
          have Kaw3 := hid (Kaw2.out.below bw3)
          have Kxw3 := hid (Kxw2.out.below bw3)
          clear bw3
          have cxv : w3.cell? ⟨wr.heap.size, 0, none⟩ = some (.int .i64 q.v) := by rw [Kxw3.out.cell]; rfl
          go_wp2_with fail
          exact ⟨⟨k + 1, _, _, by omega, rfl, rfl, by rw [HLS.out, ← Bool.and_assoc, ← HLB.out]; rfl, by rw [HHS.out, ← HHB.out, decide_eq_true Hv.out]; rfl, by rw [HVS.out], by first | rfl | simp, Kow3.out, Kaw3.out, HBw3.out⟩, by simp [intOf]; omega⟩
        · skip
          go_wp2_with (first
             | (with_reducible show wpList _ _ _ (⟨some 37, _, _, _, _, _⟩ :: _) _ _; refine wpList_index_s 99 (by first | rfl | go_simp) 45 _ _ rfl Tryz.underlying45 size_shn x o sn sc rfl _ _ rfl k (by omega) (by omega) ?_)
             | (with_reducible show wpList _ _ _ (⟨some 38, _, _, _, _, _⟩ :: _) _ _; refine wpList_load_mid rfl 52 _ rfl x (o + k * 99) rfl _ _ HR.out Tryz.underlying52 rfl (by rw [hln.out]; exact size_shn) ?_)
             | (
                refine wpList_store_blk rfl 52 _ _ rfl (wr.heap.size) (shnC q).toArray rfl rfl _ 52 (Blk.new rfl (shnC Shn.zero).toArray _) 99 size_shn zshn_size (shnC_size hok.out.nonce hok.out.salt hok.out.known) (shn_ones q) ?_
                intro w1 hbw1 hkw1
                have hw1 := hbw1.below ((Below.refl wr.heap.size wr).alloc (Nat.le_refl _) _) (by simp only [World.size_alloc]; omega) (Nat.le_refl _)
                have HBw1 := hid (Below.on HBwr.out hw1)
                have hsw1 := HBw1.out.size
                have Kow1 := hid (Kowr.out.below hw1)
                have hlow1 := Kowr.out.lt
                have Kaw1 := hid (Kawr.out.below hw1)
                have hlaw1 := Kawr.out.lt
                have Kxw1 := hid hkw1
                have OK2 := hid (hok.out.below hw1)
                have rx := Blk.rng hkw1
                have cx0 := shn_v rx
                have cx1 : w1.cell? ⟨wr.heap.size, 1, none⟩ = some (.slice q.va q.vl q.vc) := shn_val rx
                have cx2 : w1.cell? ⟨wr.heap.size, 66 + 32, none⟩ = some (.slice q.pa q.pl q.pc) := shn_nodes hok.out.nonce hok.out.salt hok.out.known rx
                clear rx
                have hfw1 : w.heap.size ≤ wr.heap.size := HBwr.out.size
                clear hbw1 hkw1 hw1)
             | (with_reducible show wpList _ _ _ (⟨some 39, _, _, _, _, _⟩ :: _) _ _; refine wpList_load_blk rfl 25 _ rfl (w.heap.size) rfl _ 25 Kow1.out _ Tryz.underlying25 rfl 32 size_digest ht.size ?_)
             | (with_reducible show wpList _ _ _ (⟨some 46, _, _, _, _, _⟩ :: _) _ _; refine wpList_load_mid rfl 25 _ rfl wr.heap.size 2 rfl _ _ (shn_nonce (Blk.rng Kxw1.out)) Tryz.underlying25 rfl (by rw [List.length_map, hok.out.nonce.len]; exact size_digest) ?_)
             | (with_reducible show wpList _ _ _ (⟨some 48, _, _, _, _, _⟩ :: _) _ _; refine wpList_load_mid rfl 25 _ rfl wr.heap.size 34 rfl _ _ (shn_salt hok.out.nonce (Blk.rng Kxw1.out)) Tryz.underlying25 rfl (by rw [List.length_map, hok.out.salt.len]; exact size_digest) ?_)
             | (with_reducible show wpList _ _ _ (⟨some 51, _, _, _, _, _⟩ :: _) _ _; refine wpList_load_mid rfl 25 _ rfl wr.heap.size 66 rfl _ _ (shn_known hok.out.nonce hok.out.salt (Blk.rng Kxw1.out)) Tryz.underlying25 rfl (by rw [List.length_map, hok.out.known.len]; exact size_digest) ?_))
          refine (CR.out _ (HT.out.below HBw1.out) OK2.out).mono ?_
          rintro e w2 ⟨rfl, bw2⟩
          have OK3 := hid (OK2.out.below bw2)
          have HBw2 := hid (Below.on HBw1.out bw2)
          have hsw2 := HBw2.out.size
          have Kow2 := hid (Kow1.out.below bw2)
          have Kaw2 := hid (Kaw1.out.below bw2)
          have Kxw2 := hid (Kxw1.out.below bw2)
          clear bw2
          go_wp2_with (first
             | (with_reducible show wpList _ _ _ (⟨some 56, _, _, _, _, _⟩ :: _) _ _; refine wpList_load_blk rfl 25 _ rfl (w.heap.size) rfl _ 25 Kow2.out _ Tryz.underlying25 rfl 32 size_digest ht.size ?_)
             | (with_reducible show wpList _ _ _ (⟨some 58, _, _, _, _, _⟩ :: _) _ _; refine wpList_load_blk rfl 52 _ rfl (wr.heap.size) rfl _ 52 Kxw2.out _ Tryz.underlying52 rfl 99 size_shn (shnC_size hok.out.nonce hok.out.salt hok.out.known) ?_))
          refine (CV.out _ (HT.out.below HBw2.out) OK3.out (Htab.out.below HBw2.out)).mono ?_
          rintro e w3 ⟨rfl, bw3⟩
          have HBw3 := hid (Below.on HBw2.out bw3)
          have hsw3 := HBw3.out.size
          have Kow3 := hid (Kow2.out.below bw3)
          have Kaw3 := hid (Kaw2.out.below bw3)
          have Kxw3 := hid (Kxw2.out.below bw3)
          clear bw3
          have cxv : w3.cell? ⟨wr.heap.size, 0, none⟩ = some (.int .i64 q.v) := by rw [Kxw3.out.cell]; rfl
          go_wp2_with fail
          exact ⟨⟨k + 1, _, _, by omega, rfl, rfl, by rw [HLS.out, ← Bool.and_assoc, ← HLB.out]; rfl, by rw [HHS.out, ← HHB.out, decide_eq_true Hv.out]; rfl, by rw [HVS.out], by first | rfl | simp, Kow3.out, Kaw3.out, HBw3.out⟩, by simp [intOf]; omega⟩
        · skip
          go_wp2_with (first
             | (with_reducible show wpList _ _ _ (⟨some 37, _, _, _, _, _⟩ :: _) _ _; refine wpList_index_s 99 (by first | rfl | go_simp) 45 _ _ rfl Tryz.underlying45 size_shn x o sn sc rfl _ _ rfl k (by omega) (by omega) ?_)
             | (with_reducible show wpList _ _ _ (⟨some 38, _, _, _, _, _⟩ :: _) _ _; refine wpList_load_mid rfl 52 _ rfl x (o + k * 99) rfl _ _ HR.out Tryz.underlying52 rfl (by rw [hln.out]; exact size_shn) ?_)
             | (
                refine wpList_store_blk rfl 52 _ _ rfl (wr.heap.size) (shnC q).toArray rfl rfl _ 52 (Blk.new rfl (shnC Shn.zero).toArray _) 99 size_shn zshn_size (shnC_size hok.out.nonce hok.out.salt hok.out.known) (shn_ones q) ?_
                intro w1 hbw1 hkw1
                have hw1 := hbw1.below ((Below.refl wr.heap.size wr).alloc (Nat.le_refl _) _) (by simp only [World.size_alloc]; omega) (Nat.le_refl _)
                have HBw1 := hid (Below.on HBwr.out hw1)
                have hsw1 := HBw1.out.size
                have Kow1 := hid (Kowr.out.below hw1)
                have hlow1 := Kowr.out.lt
                have Kaw1 := hid (Kawr.out.below hw1)
                have hlaw1 := Kawr.out.lt
                have Kxw1 := hid hkw1
                have OK2 := hid (hok.out.below hw1)
                have rx := Blk.rng hkw1
                have cx0 := shn_v rx
                have cx1 : w1.cell? ⟨wr.heap.size, 1, none⟩ = some (.slice q.va q.vl q.vc) := shn_val rx
                have cx2 : w1.cell? ⟨wr.heap.size, 66 + 32, none⟩ = some (.slice q.pa q.pl q.pc) := shn_nodes hok.out.nonce hok.out.salt hok.out.known rx
                clear rx
                have hfw1 : w.heap.size ≤ wr.heap.size := HBwr.out.size
                clear hbw1 hkw1 hw1)
             | (with_reducible show wpList _ _ _ (⟨some 39, _, _, _, _, _⟩ :: _) _ _; refine wpList_load_blk rfl 25 _ rfl (w.heap.size) rfl _ 25 Kow1.out _ Tryz.underlying25 rfl 32 size_digest ht.size ?_)
             | (with_reducible show wpList _ _ _ (⟨some 46, _, _, _, _, _⟩ :: _) _ _; refine wpList_load_mid rfl 25 _ rfl wr.heap.size 2 rfl _ _ (shn_nonce (Blk.rng Kxw1.out)) Tryz.underlying25 rfl (by rw [List.length_map, hok.out.nonce.len]; exact size_digest) ?_)
             | (with_reducible show wpList _ _ _ (⟨some 48, _, _, _, _, _⟩ :: _) _ _; refine wpList_load_mid rfl 25 _ rfl wr.heap.size 34 rfl _ _ (shn_salt hok.out.nonce (Blk.rng Kxw1.out)) Tryz.underlying25 rfl (by rw [List.length_map, hok.out.salt.len]; exact size_digest) ?_)
             | (with_reducible show wpList _ _ _ (⟨some 51, _, _, _, _, _⟩ :: _) _ _; refine wpList_load_mid rfl 25 _ rfl wr.heap.size 66 rfl _ _ (shn_known hok.out.nonce hok.out.salt (Blk.rng Kxw1.out)) Tryz.underlying25 rfl (by rw [List.length_map, hok.out.known.len]; exact size_digest) ?_))
          refine (CR.out _ (HT.out.below HBw1.out) OK2.out).mono ?_
          rintro e w2 ⟨rfl, bw2⟩
          have OK3 := hid (OK2.out.below bw2)
          have HBw2 := hid (Below.on HBw1.out bw2)
          have hsw2 := HBw2.out.size
          have Kow2 := hid (Kow1.out.below bw2)
          have Kaw2 := hid (Kaw1.out.below bw2)
          have Kxw2 := hid (Kxw1.out.below bw2)
          clear bw2
          go_wp2_with (first
             | (with_reducible show wpList _ _ _ (⟨some 56, _, _, _, _, _⟩ :: _) _ _; refine wpList_load_blk rfl 25 _ rfl (w.heap.size) rfl _ 25 Kow2.out _ Tryz.underlying25 rfl 32 size_digest ht.size ?_)
             | (with_reducible show wpList _ _ _ (⟨some 58, _, _, _, _, _⟩ :: _) _ _; refine wpList_load_blk rfl 52 _ rfl (wr.heap.size) rfl _ 52 Kxw2.out _ Tryz.underlying52 rfl 99 size_shn (shnC_size hok.out.nonce hok.out.salt hok.out.known) ?_))
          refine (CV.out _ (HT.out.below HBw2.out) OK3.out (Htab.out.below HBw2.out)).mono ?_
          rintro e w3 ⟨rfl, bw3⟩
          have HBw3 := hid (Below.on HBw2.out bw3)
          have hsw3 := HBw3.out.size
          have Kow3 := hid (Kow2.out.below bw3)
          have Kaw3 := hid (Kaw2.out.below bw3)
          have Kxw3 := hid (Kxw2.out.below bw3)
          clear bw3
          have cxv : w3.cell? ⟨wr.heap.size, 0, none⟩ = some (.int .i64 q.v) := by rw [Kxw3.out.cell]; rfl
          go_wp2_with fail
          exact ⟨⟨k + 1, _, _, by omega, rfl, rfl, by rw [HLS.out, ← Bool.and_assoc, ← HLB.out]; rfl, by rw [HHS.out, ← HHB.out, decide_eq_true Hv.out]; rfl, by rw [HVS.out], by first | rfl | simp, Kow3.out, Kaw3.out, HBw3.out⟩, by simp [intOf]; omega⟩
      · skip
        have qv : (q.v == (k : Int) + 1) = false := by simp [hv]
        have Hv := hid hv
        clear hv
        cases SB <;> cases LB <;> cases HB
        · skip
          go_wp2_with (first
             | (with_reducible show wpList _ _ _ (⟨some 37, _, _, _, _, _⟩ :: _) _ _; refine wpList_index_s 99 (by first | rfl | go_simp) 45 _ _ rfl Tryz.underlying45 size_shn x o sn sc rfl _ _ rfl k (by omega) (by omega) ?_)
             | (with_reducible show wpList _ _ _ (⟨some 38, _, _, _, _, _⟩ :: _) _ _; refine wpList_load_mid rfl 52 _ rfl x (o + k * 99) rfl _ _ HR.out Tryz.underlying52 rfl (by rw [hln.out]; exact size_shn) ?_)
             | (
                refine wpList_store_blk rfl 52 _ _ rfl (wr.heap.size) (shnC q).toArray rfl rfl _ 52 (Blk.new rfl (shnC Shn.zero).toArray _) 99 size_shn zshn_size (shnC_size hok.out.nonce hok.out.salt hok.out.known) (shn_ones q) ?_
                intro w1 hbw1 hkw1
                have hw1 := hbw1.below ((Below.refl wr.heap.size wr).alloc (Nat.le_refl _) _) (by simp only [World.size_alloc]; omega) (Nat.le_refl _)
                have HBw1 := hid (Below.on HBwr.out hw1)
                have hsw1 := HBw1.out.size
                have Kow1 := hid (Kowr.out.below hw1)
                have hlow1 := Kowr.out.lt
                have Kaw1 := hid (Kawr.out.below hw1)
                have hlaw1 := Kawr.out.lt
                have Kxw1 := hid hkw1
                have OK2 := hid (hok.out.below hw1)
                have rx := Blk.rng hkw1
                have cx0 := shn_v rx
                have cx1 : w1.cell? ⟨wr.heap.size, 1, none⟩ = some (.slice q.va q.vl q.vc) := shn_val rx
                have cx2 : w1.cell? ⟨wr.heap.size, 66 + 32, none⟩ = some (.slice q.pa q.pl q.pc) := shn_nodes hok.out.nonce hok.out.salt hok.out.known rx
                clear rx
                have hfw1 : w.heap.size ≤ wr.heap.size := HBwr.out.size
                clear hbw1 hkw1 hw1)
             | (with_reducible show wpList _ _ _ (⟨some 39, _, _, _, _, _⟩ :: _) _ _; refine wpList_load_blk rfl 25 _ rfl (w.heap.size) rfl _ 25 Kow1.out _ Tryz.underlying25 rfl 32 size_digest ht.size ?_)
             | (with_reducible show wpList _ _ _ (⟨some 46, _, _, _, _, _⟩ :: _) _ _; refine wpList_load_mid rfl 25 _ rfl wr.heap.size 2 rfl _ _ (shn_nonce (Blk.rng Kxw1.out)) Tryz.underlying25 rfl (by rw [List.length_map, hok.out.nonce.len]; exact size_digest) ?_)
             | (with_reducible show wpList _ _ _ (⟨some 48, _, _, _, _, _⟩ :: _) _ _; refine wpList_load_mid rfl 25 _ rfl wr.heap.size 34 rfl _ _ (shn_salt hok.out.nonce (Blk.rng Kxw1.out)) Tryz.underlying25 rfl (by rw [List.length_map, hok.out.salt.len]; exact size_digest) ?_)
             | (with_reducible show wpList _ _ _ (⟨some 51, _, _, _, _, _⟩ :: _) _ _; refine wpList_load_mid rfl 25 _ rfl wr.heap.size 66 rfl _ _ (shn_known hok.out.nonce hok.out.salt (Blk.rng Kxw1.out)) Tryz.underlying25 rfl (by rw [List.length_map, hok.out.known.len]; exact size_digest) ?_))
          refine (CR.out _ (HT.out.below HBw1.out) OK2.out).mono ?_
          rintro e w2 ⟨rfl, bw2⟩
          have OK3 := hid (OK2.out.below bw2)
          have HBw2 := hid (Below.on HBw1.out bw2)
          have hsw2 := HBw2.out.size
          have Kow2 := hid (Kow1.out.below bw2)
          have Kaw2 := hid (Kaw1.out.below bw2)
          have Kxw2 := hid (Kxw1.out.below bw2)
          clear bw2
          go_wp2_with (first
             | (with_reducible show wpList _ _ _ (⟨some 56, _, _, _, _, _⟩ :: _) _ _; refine wpList_load_blk rfl 25 _ rfl (w.heap.size) rfl _ 25 Kow2.out _ Tryz.underlying25 rfl 32 size_digest ht.size ?_)
             | (with_reducible show wpList _ _ _ (⟨some 58, _, _, _, _, _⟩ :: _) _ _; refine wpList_load_blk rfl 52 _ rfl (wr.heap.size) rfl _ 52 Kxw2.out _ Tryz.underlying52 rfl 99 size_shn (shnC_size hok.out.nonce hok.out.salt hok.out.known) ?_))
          refine (CV.out _ (HT.out.below HBw2.out) OK3.out (Htab.out.below HBw2.out)).mono ?_
          rintro e w3 ⟨rfl, bw3⟩
          have HBw3 := hid (Below.on HBw2.out bw3)
          have hsw3 := HBw3.out.size
          have Kow3 := hid (Kow2.out.below bw3)
          have Kaw3 := hid (Kaw2.out.below bw3)
          have Kxw3 := hid (Kxw2.out.below bw3)
          clear bw3
          have cxv : w3.cell? ⟨wr.heap.size, 0, none⟩ = some (.int .i64 q.v) := by rw [Kxw3.out.cell]; rfl
          go_wp2_with fail
          exact ⟨⟨k + 1, _, _, by omega, rfl, rfl, by rw [HLS.out, ← Bool.and_assoc, ← HLB.out]; rfl, by rw [HHS.out, ← HHB.out, decide_eq_false Hv.out]; rfl, by rw [HVS.out], by first | rfl | simp, Kow3.out, Kaw3.out, HBw3.out⟩, by simp [intOf]; omega⟩
        · skip
          go_wp2_with (first
             | (with_reducible show wpList _ _ _ (⟨some 37, _, _, _, _, _⟩ :: _) _ _; refine wpList_index_s 99 (by first | rfl | go_simp) 45 _ _ rfl Tryz.underlying45 size_shn x o sn sc rfl _ _ rfl k (by omega) (by omega) ?_)
             | (with_reducible show wpList _ _ _ (⟨some 38, _, _, _, _, _⟩ :: _) _ _; refine wpList_load_mid rfl 52 _ rfl x (o + k * 99) rfl _ _ HR.out Tryz.underlying52 rfl (by rw [hln.out]; exact size_shn) ?_)
             | (
                refine wpList_store_blk rfl 52 _ _ rfl (wr.heap.size) (shnC q).toArray rfl rfl _ 52 (Blk.new rfl (shnC Shn.zero).toArray _) 99 size_shn zshn_size (shnC_size hok.out.nonce hok.out.salt hok.out.known) (shn_ones q) ?_
                intro w1 hbw1 hkw1
                have hw1 := hbw1.below ((Below.refl wr.heap.size wr).alloc (Nat.le_refl _) _) (by simp only [World.size_alloc]; omega) (Nat.le_refl _)
                have HBw1 := hid (Below.on HBwr.out hw1)
                have hsw1 := HBw1.out.size
                have Kow1 := hid (Kowr.out.below hw1)
                have hlow1 := Kowr.out.lt
                have Kaw1 := hid (Kawr.out.below hw1)
                have hlaw1 := Kawr.out.lt
                have Kxw1 := hid hkw1
                have OK2 := hid (hok.out.below hw1)
                have rx := Blk.rng hkw1
                have cx0 := shn_v rx
                have cx1 : w1.cell? ⟨wr.heap.size, 1, none⟩ = some (.slice q.va q.vl q.vc) := shn_val rx
                have cx2 : w1.cell? ⟨wr.heap.size, 66 + 32, none⟩ = some (.slice q.pa q.pl q.pc) := shn_nodes hok.out.nonce hok.out.salt hok.out.known rx
                clear rx
                have hfw1 : w.heap.size ≤ wr.heap.size := HBwr.out.size
                clear hbw1 hkw1 hw1)
             | (with_reducible show wpList _ _ _ (⟨some 39, _, _, _, _, _⟩ :: _) _ _; refine wpList_load_blk rfl 25 _ rfl (w.heap.size) rfl _ 25 Kow1.out _ Tryz.underlying25 rfl 32 size_digest ht.size ?_)
             | (with_reducible show wpList _ _ _ (⟨some 46, _, _, _, _, _⟩ :: _) _ _; refine wpList_load_mid rfl 25 _ rfl wr.heap.size 2 rfl _ _ (shn_nonce (Blk.rng Kxw1.out)) Tryz.underlying25 rfl (by rw [List.length_map, hok.out.nonce.len]; exact size_digest) ?_)
             | (with_reducible show wpList _ _ _ (⟨some 48, _, _, _, _, _⟩ :: _) _ _; refine wpList_load_mid rfl 25 _ rfl wr.heap.size 34 rfl _ _ (shn_salt hok.out.nonce (Blk.rng Kxw1.out)) Tryz.underlying25 rfl (by rw [List.length_map, hok.out.salt.len]; exact size_digest) ?_)
             | (with_reducible show wpList _ _ _ (⟨some 51, _, _, _, _, _⟩ :: _) _ _; refine wpList_load_mid rfl 25 _ rfl wr.heap.size 66 rfl _ _ (shn_known hok.out.nonce hok.out.salt (Blk.rng Kxw1.out)) Tryz.underlying25 rfl (by rw [List.length_map, hok.out.known.len]; exact size_digest) ?_))
          refine (CR.out _ (HT.out.below HBw1.out) OK2.out).mono ?_
          rintro e w2 ⟨rfl, bw2⟩
          have OK3 := hid (OK2.out.below bw2)
          have HBw2 := hid (Below.on HBw1.out bw2)
          have hsw2 := HBw2.out.size
          have Kow2 := hid (Kow1.out.below bw2)
          have Kaw2 := hid (Kaw1.out.below bw2)
          have Kxw2 := hid (Kxw1.out.below bw2)
          clear bw2
          go_wp2_with (first
             | (with_reducible show wpList _ _ _ (⟨some 56, _, _, _, _, _⟩ :: _) _ _; refine wpList_load_blk rfl 25 _ rfl (w.heap.size) rfl _ 25 Kow2.out _ Tryz.underlying25 rfl 32 size_digest ht.size ?_)
             | (with_reducible show wpList _ _ _ (⟨some 58, _, _, _, _, _⟩ :: _) _ _; refine wpList_load_blk rfl 52 _ rfl (wr.heap.size) rfl _ 52 Kxw2.out _ Tryz.underlying52 rfl 99 size_shn (shnC_size hok.out.nonce hok.out.salt hok.out.known) ?_))
          refine (CV.out _ (HT.out.below HBw2.out) OK3.out (Htab.out.below HBw2.out)).mono ?_
          rintro e w3 ⟨rfl, bw3⟩
          have HBw3 := hid (Below.on HBw2.out bw3)
          have hsw3 := HBw3.out.size
          have Kow3 := hid (Kow2.out.below bw3)
          have Kaw3 := hid (Kaw2.out.below bw3)
          have Kxw3 := hid (Kxw2.out.below bw3)
          clear bw3
          have cxv : w3.cell? ⟨wr.heap.size, 0, none⟩ = some (.int .i64 q.v) := by rw [Kxw3.out.cell]; rfl
          go_wp2_with fail
          exact ⟨⟨k + 1, _, _, by omega, rfl, rfl, by rw [HLS.out, ← Bool.and_assoc, ← HLB.out]; rfl, by rw [HHS.out, ← HHB.out, decide_eq_false Hv.out]; rfl, by rw [HVS.out], by first | rfl | simp, Kow3.out, Kaw3.out, HBw3.out⟩, by simp [intOf]; omega⟩
        · skip
          go_wp2_with (first
             | (with_reducible show wpList _ _ _ (⟨some 37, _, _, _, _, _⟩ :: _) _ _; refine wpList_index_s 99 (by first | rfl | go_simp) 45 _ _ rfl Tryz.underlying45 size_shn x o sn sc rfl _ _ rfl k (by omega) (by omega) ?_)
             | (with_reducible show wpList _ _ _ (⟨some 38, _, _, _, _, _⟩ :: _) _ _; refine wpList_load_mid rfl 52 _ rfl x (o + k * 99) rfl _ _ HR.out Tryz.underlying52 rfl (by rw [hln.out]; exact size_shn) ?_)
             | (
                refine wpList_store_blk rfl 52 _ _ rfl (wr.heap.size) (shnC q).toArray rfl rfl _ 52 (Blk.new rfl (shnC Shn.zero).toArray _) 99 size_shn zshn_size (shnC_size hok.out.nonce hok.out.salt hok.out.known) (shn_ones q) ?_
                intro w1 hbw1 hkw1
                have hw1 := hbw1.below ((Below.refl wr.heap.size wr).alloc (Nat.le_refl _) _) (by simp only [World.size_alloc]; omega) (Nat.le_refl _)
                have HBw1 := hid (Below.on HBwr.out hw1)
                have hsw1 := HBw1.out.size
                have Kow1 := hid (Kowr.out.below hw1)
                have hlow1 := Kowr.out.lt
                have Kaw1 := hid (Kawr.out.below hw1)
                have hlaw1 := Kawr.out.lt
                have Kxw1 := hid hkw1
                have OK2 := hid (hok.out.below hw1)
                have rx := Blk.rng hkw1
                have cx0 := shn_v rx
                have cx1 : w1.cell? ⟨wr.heap.size, 1, none⟩ = some (.slice q.va q.vl q.vc) := shn_val rx
                have cx2 : w1.cell? ⟨wr.heap.size, 66 + 32, none⟩ = some (.slice q.pa q.pl q.pc) := shn_nodes hok.out.nonce hok.out.salt hok.out.known rx
                clear rx
                have hfw1 : w.heap.size ≤ wr.heap.size := HBwr.out.size
                clear hbw1 hkw1 hw1)
             | (with_reducible show wpList _ _ _ (⟨some 39, _, _, _, _, _⟩ :: _) _ _; refine wpList_load_blk rfl 25 _ rfl (w.heap.size) rfl _ 25 Kow1.out _ Tryz.underlying25 rfl 32 size_digest ht.size ?_)
             | (with_reducible show wpList _ _ _ (⟨some 46, _, _, _, _, _⟩ :: _) _ _; refine wpList_load_mid rfl 25 _ rfl wr.heap.size 2 rfl _ _ (shn_nonce (Blk.rng Kxw1.out)) Tryz.underlying25 rfl (by rw [List.length_map, hok.out.nonce.len]; exact size_digest) ?_)
             | (with_reducible show wpList _ _ _ (⟨some 48, _, _, _, _, _⟩ :: _) _ _; refine wpList_load_mid rfl 25 _ rfl wr.heap.size 34 rfl _ _ (shn_salt hok.out.nonce (Blk.rng Kxw1.out)) Tryz.underlying25 rfl (by rw [List.length_map, hok.out.salt.len]; exact size_digest) ?_)
             | (with_reducible show wpList _ _ _ (⟨some 51, _, _, _, _, _⟩ :: _) _ _; refine wpList_load_mid rfl 25 _ rfl wr.heap.size 66 rfl _ _ (shn_known hok.out.nonce hok.out.salt (Blk.rng Kxw1.out)) Tryz.underlying25 rfl (by rw [List.length_map, hok.out.known.len]; exact size_digest) ?_))
          refine (CR.out _ (HT.out.below HBw1.out) OK2.out).mono ?_
          rintro e w2 ⟨rfl, bw2⟩
          have OK3 := hid (OK2.out.below bw2)
          have HBw2 := hid (Below.on HBw1.out bw2)
          have hsw2 := HBw2.out.size
          have Kow2 := hid (Kow1.out.below bw2)
          have Kaw2 := hid (Kaw1.out.below bw2)
          have Kxw2 := hid (Kxw1.out.below bw2)
          clear bw2
          go_wp2_with (first
             | (with_reducible show wpList _ _ _ (⟨some 56, _, _, _, _, _⟩ :: _) _ _; refine wpList_load_blk rfl 25 _ rfl (w.heap.size) rfl _ 25 Kow2.out _ Tryz.underlying25 rfl 32 size_digest ht.size ?_)
             | (with_reducible show wpList _ _ _ (⟨some 58, _, _, _, _, _⟩ :: _) _ _; refine wpList_load_blk rfl 52 _ rfl (wr.heap.size) rfl _ 52 Kxw2.out _ Tryz.underlying52 rfl 99 size_shn (shnC_size hok.out.nonce hok.out.salt hok.out.known) ?_))
          refine (CV.out _ (HT.out.below HBw2.out) OK3.out (Htab.out.below HBw2.out)).mono ?_
          rintro e w3 ⟨rfl, bw3⟩
          have HBw3 := hid (Below.on HBw2.out bw3)
          have hsw3 := HBw3.out.size
          have Kow3 := hid (Kow2.out.below bw3)
          have Kaw3 := hid (Kaw2.out.below bw3)
          have Kxw3 := hid (Kxw2.out.below bw3)
          clear bw3
          have cxv : w3.cell? ⟨wr.heap.size, 0, none⟩ = some (.int .i64 q.v) := by rw [Kxw3.out.cell]; rfl
          go_wp2_with fail
          exact ⟨⟨k + 1, _, _, by omega, rfl, rfl, by rw [HLS.out, ← Bool.and_assoc, ← HLB.out]; rfl, by rw [HHS.out, ← HHB.out, decide_eq_false Hv.out]; rfl, by rw [HVS.out], by first | rfl | simp, Kow3.out, Kaw3.out, HBw3.out⟩, by simp [intOf]; omega⟩
        · skip
          go_wp2_with (first
             | (with_reducible show wpList _ _ _ (⟨some 37, _, _, _, _, _⟩ :: _) _ _; refine wpList_index_s 99 (by first | rfl | go_simp) 45 _ _ rfl Tryz.underlying45 size_shn x o sn sc rfl _ _ rfl k (by omega) (by omega) ?_)
             | (with_reducible show wpList _ _ _ (⟨some 38, _, _, _, _, _⟩ :: _) _ _; refine wpList_load_mid rfl 52 _ rfl x (o + k * 99) rfl _ _ HR.out Tryz.underlying52 rfl (by rw [hln.out]; exact size_shn) ?_)
             | (
                refine wpList_store_blk rfl 52 _ _ rfl (wr.heap.size) (shnC q).toArray rfl rfl _ 52 (Blk.new rfl (shnC Shn.zero).toArray _) 99 size_shn zshn_size (shnC_size hok.out.nonce hok.out.salt hok.out.known) (shn_ones q) ?_
                intro w1 hbw1 hkw1
                have hw1 := hbw1.below ((Below.refl wr.heap.size wr).alloc (Nat.le_refl _) _) (by simp only [World.size_alloc]; omega) (Nat.le_refl _)
                have HBw1 := hid (Below.on HBwr.out hw1)
                have hsw1 := HBw1.out.size
                have Kow1 := hid (Kowr.out.below hw1)
                have hlow1 := Kowr.out.lt
                have Kaw1 := hid (Kawr.out.below hw1)
                have hlaw1 := Kawr.out.lt
                have Kxw1 := hid hkw1
                have OK2 := hid (hok.out.below hw1)
                have rx := Blk.rng hkw1
                have cx0 := shn_v rx
                have cx1 : w1.cell? ⟨wr.heap.size, 1, none⟩ = some (.slice q.va q.vl q.vc) := shn_val rx
                have cx2 : w1.cell? ⟨wr.heap.size, 66 + 32, none⟩ = some (.slice q.pa q.pl q.pc) := shn_nodes hok.out.nonce hok.out.salt hok.out.known rx
                clear rx
                have hfw1 : w.heap.size ≤ wr.heap.size := HBwr.out.size
                clear hbw1 hkw1 hw1)
             | (with_reducible show wpList _ _ _ (⟨some 39, _, _, _, _, _⟩ :: _) _ _; refine wpList_load_blk rfl 25 _ rfl (w.heap.size) rfl _ 25 Kow1.out _ Tryz.underlying25 rfl 32 size_digest ht.size ?_)
             | (with_reducible show wpList _ _ _ (⟨some 46, _, _, _, _, _⟩ :: _) _ _; refine wpList_load_mid rfl 25 _ rfl wr.heap.size 2 rfl _ _ (shn_nonce (Blk.rng Kxw1.out)) Tryz.underlying25 rfl (by rw [List.length_map, hok.out.nonce.len]; exact size_digest) ?_)
             | (with_reducible show wpList _ _ _ (⟨some 48, _, _, _, _, _⟩ :: _) _ _; refine wpList_load_mid rfl 25 _ rfl wr.heap.size 34 rfl _ _ (shn_salt hok.out.nonce (Blk.rng Kxw1.out)) Tryz.underlying25 rfl (by rw [List.length_map, hok.out.salt.len]; exact size_digest) ?_)
             | (with_reducible show wpList _ _ _ (⟨some 51, _, _, _, _, _⟩ :: _) _ _; refine wpList_load_mid rfl 25 _ rfl wr.heap.size 66 rfl _ _ (shn_known hok.out.nonce hok.out.salt (Blk.rng Kxw1.out)) Tryz.underlying25 rfl (by rw [List.length_map, hok.out.known.len]; exact size_digest) ?_))
          refine (CR.out _ (HT.out.below HBw1.out) OK2.out).mono ?_
          rintro e w2 ⟨rfl, bw2⟩
          have OK3 := hid (OK2.out.below bw2)
          have HBw2 := hid (Below.on HBw1.out bw2)
          have hsw2 := HBw2.out.size
          have Kow2 := hid (Kow1.out.below bw2)
          have Kaw2 := hid (Kaw1.out.below bw2)
          have Kxw2 := hid (Kxw1.out.below bw2)
          clear bw2
          go_wp2_with (first
             | (with_reducible show wpList _ _ _ (⟨some 56, _, _, _, _, _⟩ :: _) _ _; refine wpList_load_blk rfl 25 _ rfl (w.heap.size) rfl _ 25 Kow2.out _ Tryz.underlying25 rfl 32 size_digest ht.size ?_)
             | (with_reducible show wpList _ _ _ (⟨some 58, _, _, _, _, _⟩ :: _) _ _; refine wpList_load_blk rfl 52 _ rfl (wr.heap.size) rfl _ 52 Kxw2.out _ Tryz.underlying52 rfl 99 size_shn (shnC_size hok.out.nonce hok.out.salt hok.out.known) ?_))
          refine (CV.out _ (HT.out.below HBw2.out) OK3.out (Htab.out.below HBw2.out)).mono ?_
          rintro e w3 ⟨rfl, bw3⟩
          have HBw3 := hid (Below.on HBw2.out bw3)
          have hsw3 := HBw3.out.size
          have Kow3 := hid (Kow2.out.below bw3)
          have Kaw3 := hid (Kaw2.out.below bw3)
          have Kxw3 := hid (Kxw2.out.below bw3)
          clear bw3
          have cxv : w3.cell? ⟨wr.heap.size, 0, none⟩ = some (.int .i64 q.v) := by rw [Kxw3.out.cell]; rfl
          go_wp2_with fail
          exact ⟨⟨k + 1, _, _, by omega, rfl, rfl, by rw [HLS.out, ← Bool.and_assoc, ← HLB.out]; rfl, by rw [HHS.out, ← HHB.out, decide_eq_false Hv.out]; rfl, by rw [HVS.out], by first | rfl | simp, Kow3.out, Kaw3.out, HBw3.out⟩, by simp [intOf]; omega⟩
        · skip
          go_wp2_with (first
             | (with_reducible show wpList _ _ _ (⟨some 37, _, _, _, _, _⟩ :: _) _ _; refine wpList_index_s 99 (by first | rfl | go_simp) 45 _ _ rfl Tryz.underlying45 size_shn x o sn sc rfl _ _ rfl k (by omega) (by omega) ?_)
             | (with_reducible show wpList _ _ _ (⟨some 38, _, _, _, _, _⟩ :: _) _ _; refine wpList_load_mid rfl 52 _ rfl x (o + k * 99) rfl _ _ HR.out Tryz.underlying52 rfl (by rw [hln.out]; exact size_shn) ?_)
             | (
                refine wpList_store_blk rfl 52 _ _ rfl (wr.heap.size) (shnC q).toArray rfl rfl _ 52 (Blk.new rfl (shnC Shn.zero).toArray _) 99 size_shn zshn_size (shnC_size hok.out.nonce hok.out.salt hok.out.known) (shn_ones q) ?_
                intro w1 hbw1 hkw1
                have hw1 := hbw1.below ((Below.refl wr.heap.size wr).alloc (Nat.le_refl _) _) (by simp only [World.size_alloc]; omega) (Nat.le_refl _)
                have HBw1 := hid (Below.on HBwr.out hw1)
                have hsw1 := HBw1.out.size
                have Kow1 := hid (Kowr.out.below hw1)
                have hlow1 := Kowr.out.lt
                have Kaw1 := hid (Kawr.out.below hw1)
                have hlaw1 := Kawr.out.lt
                have Kxw1 := hid hkw1
                have OK2 := hid (hok.out.below hw1)
                have rx := Blk.rng hkw1
                have cx0 := shn_v rx
                have cx1 : w1.cell? ⟨wr.heap.size, 1, none⟩ = some (.slice q.va q.vl q.vc) := shn_val rx
                have cx2 : w1.cell? ⟨wr.heap.size, 66 + 32, none⟩ = some (.slice q.pa q.pl q.pc) := shn_nodes hok.out.nonce hok.out.salt hok.out.known rx
                clear rx
                have hfw1 : w.heap.size ≤ wr.heap.size := HBwr.out.size
                clear hbw1 hkw1 hw1)
             | (with_reducible show wpList _ _ _ (⟨some 39, _, _, _, _, _⟩ :: _) _ _; refine wpList_load_blk rfl 25 _ rfl (w.heap.size) rfl _ 25 Kow1.out _ Tryz.underlying25 rfl 32 size_digest ht.size ?_)
             | (with_reducible show wpList _ _ _ (⟨some 46, _, _, _, _, _⟩ :: _) _ _; refine wpList_load_mid rfl 25 _ rfl wr.heap.size 2 rfl _ _ (shn_nonce (Blk.rng Kxw1.out)) Tryz.underlying25 rfl (by rw [List.length_map, hok.out.nonce.len]; exact size_digest) ?_)
             | (with_reducible show wpList _ _ _ (⟨some 48, _, _, _, _, _⟩ :: _) _ _; refine wpList_load_mid rfl 25 _ rfl wr.heap.size 34 rfl _ _ (shn_salt hok.out.nonce (Blk.rng Kxw1.out)) Tryz.underlying25 rfl (by rw [List.length_map, hok.out.salt.len]; exact size_digest) ?_)
             | (with_reducible show wpList _ _ _ (⟨some 51, _, _, _, _, _⟩ :: _) _ _; refine wpList_load_mid rfl 25 _ rfl wr.heap.size 66 rfl _ _ (shn_known hok.out.nonce hok.out.salt (Blk.rng Kxw1.out)) Tryz.underlying25 rfl (by rw [List.length_map, hok.out.known.len]; exact size_digest) ?_))
          refine (CR.out _ (HT.out.below HBw1.out) OK2.out).mono ?_
          rintro e w2 ⟨rfl, bw2⟩
          have OK3 := hid (OK2.out.below bw2)
          have HBw2 := hid (Below.on HBw1.out bw2)
          have hsw2 := HBw2.out.size
          have Kow2 := hid (Kow1.out.below bw2)
          have Kaw2 := hid (Kaw1.out.below bw2)
          have Kxw2 := hid (Kxw1.out.below bw2)
          clear bw2
          go_wp2_with (first
             | (with_reducible show wpList _ _ _ (⟨some 56, _, _, _, _, _⟩ :: _) _ _; refine wpList_load_blk rfl 25 _ rfl (w.heap.size) rfl _ 25 Kow2.out _ Tryz.underlying25 rfl 32 size_digest ht.size ?_)
             | (with_reducible show wpList _ _ _ (⟨some 58, _, _, _, _, _⟩ :: _) _ _; refine wpList_load_blk rfl 52 _ rfl (wr.heap.size) rfl _ 52 Kxw2.out _ Tryz.underlying52 rfl 99 size_shn (shnC_size hok.out.nonce hok.out.salt hok.out.known) ?_))
          refine (CV.out _ (HT.out.below HBw2.out) OK3.out (Htab.out.below HBw2.out)).mono ?_
          rintro e w3 ⟨rfl, bw3⟩
          have HBw3 := hid (Below.on HBw2.out bw3)
          have hsw3 := HBw3.out.size
          have Kow3 := hid (Kow2.out.below bw3)
          have Kaw3 := hid (Kaw2.out.below bw3)
          have Kxw3 := hid (Kxw2.out.below bw3)
          clear bw3
          have cxv : w3.cell? ⟨wr.heap.size, 0, none⟩ = some (.int .i64 q.v) := by rw [Kxw3.out.cell]; rfl
          go_wp2_with fail
          exact ⟨⟨k + 1, _, _, by omega, rfl, rfl, by rw [HLS.out, ← Bool.and_assoc, ← HLB.out]; rfl, by rw [HHS.out, ← HHB.out, decide_eq_false Hv.out]; rfl, by rw [HVS.out], by first | rfl | simp, Kow3.out, Kaw3.out, HBw3.out⟩, by simp [intOf]; omega⟩
        · skip
          go_wp2_with (first
             | (with_reducible show wpList _ _ _ (⟨some 37, _, _, _, _, _⟩ :: _) _ _; refine wpList_index_s 99 (by first | rfl | go_simp) 45 _ _ rfl Tryz.underlying45 size_shn x o sn sc rfl _ _ rfl k (by omega) (by omega) ?_)
             | (with_reducible show wpList _ _ _ (⟨some 38, _, _, _, _, _⟩ :: _) _ _; refine wpList_load_mid rfl 52 _ rfl x (o + k * 99) rfl _ _ HR.out Tryz.underlying52 rfl (by rw [hln.out]; exact size_shn) ?_)
             | (
                refine wpList_store_blk rfl 52 _ _ rfl (wr.heap.size) (shnC q).toArray rfl rfl _ 52 (Blk.new rfl (shnC Shn.zero).toArray _) 99 size_shn zshn_size (shnC_size hok.out.nonce hok.out.salt hok.out.known) (shn_ones q) ?_
                intro w1 hbw1 hkw1
                have hw1 := hbw1.below ((Below.refl wr.heap.size wr).alloc (Nat.le_refl _) _) (by simp only [World.size_alloc]; omega) (Nat.le_refl _)
                have HBw1 := hid (Below.on HBwr.out hw1)
                have hsw1 := HBw1.out.size
                have Kow1 := hid (Kowr.out.below hw1)
                have hlow1 := Kowr.out.lt
                have Kaw1 := hid (Kawr.out.below hw1)
                have hlaw1 := Kawr.out.lt
                have Kxw1 := hid hkw1
                have OK2 := hid (hok.out.below hw1)
                have rx := Blk.rng hkw1
                have cx0 := shn_v rx
                have cx1 : w1.cell? ⟨wr.heap.size, 1, none⟩ = some (.slice q.va q.vl q.vc) := shn_val rx
                have cx2 : w1.cell? ⟨wr.heap.size, 66 + 32, none⟩ = some (.slice q.pa q.pl q.pc) := shn_nodes hok.out.nonce hok.out.salt hok.out.known rx
                clear rx
                have hfw1 : w.heap.size ≤ wr.heap.size := HBwr.out.size
                clear hbw1 hkw1 hw1)
             | (with_reducible show wpList _ _ _ (⟨some 39, _, _, _, _, _⟩ :: _) _ _; refine wpList_load_blk rfl 25 _ rfl (w.heap.size) rfl _ 25 Kow1.out _ Tryz.underlying25 rfl 32 size_digest ht.size ?_)
             | (with_reducible show wpList _ _ _ (⟨some 46, _, _, _, _, _⟩ :: _) _ _; refine wpList_load_mid rfl 25 _ rfl wr.heap.size 2 rfl _ _ (shn_nonce (Blk.rng Kxw1.out)) Tryz.underlying25 rfl (by rw [List.length_map, hok.out.nonce.len]; exact size_digest) ?_)
             | (with_reducible show wpList _ _ _ (⟨some 48, _, _, _, _, _⟩ :: _) _ _; refine wpList_load_mid rfl 25 _ rfl wr.heap.size 34 rfl _ _ (shn_salt hok.out.nonce (Blk.rng Kxw1.out)) Tryz.underlying25 rfl (by rw [List.length_map, hok.out.salt.len]; exact size_digest) ?_)
             | (with_reducible show wpList _ _ _ (⟨some 51, _, _, _, _, _⟩ :: _) _ _; refine wpList_load_mid rfl 25 _ rfl wr.heap.size 66 rfl _ _ (shn_known hok.out.nonce hok.out.salt (Blk.rng Kxw1.out)) Tryz.underlying25 rfl (by rw [List.length_map, hok.out.known.len]; exact size_digest) ?_))
          refine (CR.out _ (HT.out.below HBw1.out) OK2.out).mono ?_
          rintro e w2 ⟨rfl, bw2⟩
          have OK3 := hid (OK2.out.below bw2)
          have HBw2 := hid (Below.on HBw1.out bw2)
          have hsw2 := HBw2.out.size
          have Kow2 := hid (Kow1.out.below bw2)
          have Kaw2 := hid (Kaw1.out.below bw2)
          have Kxw2 := hid (Kxw1.out.below bw2)
          clear bw2
          go_wp2_with (first
             | (with_reducible show wpList _ _ _ (⟨some 56, _, _, _, _, _⟩ :: _) _ _; refine wpList_load_blk rfl 25 _ rfl (w.heap.size) rfl _ 25 Kow2.out _ Tryz.underlying25 rfl 32 size_digest ht.size ?_)
             | (with_reducible show wpList _ _ _ (⟨some 58, _, _, _, _, _⟩ :: _) _ _; refine wpList_load_blk rfl 52 _ rfl (wr.heap.size) rfl _ 52 Kxw2.out _ Tryz.underlying52 rfl 99 size_shn (shnC_size hok.out.nonce hok.out.salt hok.out.known) ?_))
          refine (CV.out _ (HT.out.below HBw2.out) OK3.out (Htab.out.below HBw2.out)).mono ?_
          rintro e w3 ⟨rfl, bw3⟩
          have HBw3 := hid (Below.on HBw2.out bw3)
          have hsw3 := HBw3.out.size
          have Kow3 := hid (Kow2.out.below bw3)
          have Kaw3 := hid (Kaw2.out.below bw3)
          have Kxw3 := hid (Kxw2.out.below bw3)
          clear bw3
          have cxv : w3.cell? ⟨wr.heap.size, 0, none⟩ = some (.int .i64 q.v) := by rw [Kxw3.out.cell]; rfl
          go_wp2_with fail
          exact ⟨⟨k + 1, _, _, by omega, rfl, rfl, by rw [HLS.out, ← Bool.and_assoc, ← HLB.out]; rfl, by rw [HHS.out, ← HHB.out, decide_eq_false Hv.out]; rfl, by rw [HVS.out], by first | rfl | simp, Kow3.out, Kaw3.out, HBw3.out⟩, by simp [intOf]; omega⟩
        · skip
          go_wp2_with (first
             | (with_reducible show wpList _ _ _ (⟨some 37, _, _, _, _, _⟩ :: _) _ _; refine wpList_index_s 99 (by first | rfl | go_simp) 45 _ _ rfl Tryz.underlying45 size_shn x o sn sc rfl _ _ rfl k (by omega) (by omega) ?_)
             | (with_reducible show wpList _ _ _ (⟨some 38, _, _, _, _, _⟩ :: _) _ _; refine wpList_load_mid rfl 52 _ rfl x (o + k * 99) rfl _ _ HR.out Tryz.underlying52 rfl (by rw [hln.out]; exact size_shn) ?_)
             | (
                refine wpList_store_blk rfl 52 _ _ rfl (wr.heap.size) (shnC q).toArray rfl rfl _ 52 (Blk.new rfl (shnC Shn.zero).toArray _) 99 size_shn zshn_size (shnC_size hok.out.nonce hok.out.salt hok.out.known) (shn_ones q) ?_
                intro w1 hbw1 hkw1
                have hw1 := hbw1.below ((Below.refl wr.heap.size wr).alloc (Nat.le_refl _) _) (by simp only [World.size_alloc]; omega) (Nat.le_refl _)
                have HBw1 := hid (Below.on HBwr.out hw1)
                have hsw1 := HBw1.out.size
                have Kow1 := hid (Kowr.out.below hw1)
                have hlow1 := Kowr.out.lt
                have Kaw1 := hid (Kawr.out.below hw1)
                have hlaw1 := Kawr.out.lt
                have Kxw1 := hid hkw1
                have OK2 := hid (hok.out.below hw1)
                have rx := Blk.rng hkw1
                have cx0 := shn_v rx
                have cx1 : w1.cell? ⟨wr.heap.size, 1, none⟩ = some (.slice q.va q.vl q.vc) := shn_val rx
                have cx2 : w1.cell? ⟨wr.heap.size, 66 + 32, none⟩ = some (.slice q.pa q.pl q.pc) := shn_nodes hok.out.nonce hok.out.salt hok.out.known rx
                clear rx
                have hfw1 : w.heap.size ≤ wr.heap.size := HBwr.out.size
                clear hbw1 hkw1 hw1)
             | (with_reducible show wpList _ _ _ (⟨some 39, _, _, _, _, _⟩ :: _) _ _; refine wpList_load_blk rfl 25 _ rfl (w.heap.size) rfl _ 25 Kow1.out _ Tryz.underlying25 rfl 32 size_digest ht.size ?_)
             | (with_reducible show wpList _ _ _ (⟨some 46, _, _, _, _, _⟩ :: _) _ _; refine wpList_load_mid rfl 25 _ rfl wr.heap.size 2 rfl _ _ (shn_nonce (Blk.rng Kxw1.out)) Tryz.underlying25 rfl (by rw [List.length_map, hok.out.nonce.len]; exact size_digest) ?_)
             | (with_reducible show wpList _ _ _ (⟨some 48, _, _, _, _, _⟩ :: _) _ _; refine wpList_load_mid rfl 25 _ rfl wr.heap.size 34 rfl _ _ (shn_salt hok.out.nonce (Blk.rng Kxw1.out)) Tryz.underlying25 rfl (by rw [List.length_map, hok.out.salt.len]; exact size_digest) ?_)
             | (with_reducible show wpList _ _ _ (⟨some 51, _, _, _, _, _⟩ :: _) _ _; refine wpList_load_mid rfl 25 _ rfl wr.heap.size 66 rfl _ _ (shn_known hok.out.nonce hok.out.salt (Blk.rng Kxw1.out)) Tryz.underlying25 rfl (by rw [List.length_map, hok.out.known.len]; exact size_digest) ?_))
          refine (CR.out _ (HT.out.below HBw1.out) OK2.out).mono ?_
          rintro e w2 ⟨rfl, bw2⟩
          have OK3 := hid (OK2.out.below bw2)
          have HBw2 := hid (Below.on HBw1.out bw2)
          have hsw2 := HBw2.out.size
          have Kow2 := hid (Kow1.out.below bw2)
          have Kaw2 := hid (Kaw1.out.below bw2)
          have Kxw2 := hid (Kxw1.out.below bw2)
          clear bw2
          go_wp2_with (first
             | (with_reducible show wpList _ _ _ (⟨some 56, _, _, _, _, _⟩ :: _) _ _; refine wpList_load_blk rfl 25 _ rfl (w.heap.size) rfl _ 25 Kow2.out _ Tryz.underlying25 rfl 32 size_digest ht.size ?_)
             | (with_reducible show wpList _ _ _ (⟨some 58, _, _, _, _, _⟩ :: _) _ _; refine wpList_load_blk rfl 52 _ rfl (wr.heap.size) rfl _ 52 Kxw2.out _ Tryz.underlying52 rfl 99 size_shn (shnC_size hok.out.nonce hok.out.salt hok.out.known) ?_))
          refine (CV.out _ (HT.out.below HBw2.out) OK3.out (Htab.out.below HBw2.out)).mono ?_
          rintro e w3 ⟨rfl, bw3⟩
          have HBw3 := hid (Below.on HBw2.out bw3)
          have hsw3 := HBw3.out.size
          have Kow3 := hid (Kow2.out.below bw3)
          have Kaw3 := hid (Kaw2.out.below bw3)
          have Kxw3 := hid (Kxw2.out.below bw3)
          clear bw3
          have cxv : w3.cell? ⟨wr.heap.size, 0, none⟩ = some (.int .i64 q.v) := by rw [Kxw3.out.cell]; rfl
          go_wp2_with fail
          exact ⟨⟨k + 1, _, _, by omega, rfl, rfl, by rw [HLS.out, ← Bool.and_assoc, ← HLB.out]; rfl, by rw [HHS.out, ← HHB.out, decide_eq_false Hv.out]; rfl, by rw [HVS.out], by first | rfl | simp, Kow3.out, Kaw3.out, HBw3.out⟩, by simp [intOf]; omega⟩
        · skip
          go_wp2_with (first
             | (with_reducible show wpList _ _ _ (⟨some 37, _, _, _, _, _⟩ :: _) _ _; refine wpList_index_s 99 (by first | rfl | go_simp) 45 _ _ rfl Tryz.underlying45 size_shn x o sn sc rfl _ _ rfl k (by omega) (by omega) ?_)
             | (with_reducible show wpList _ _ _ (⟨some 38, _, _, _, _, _⟩ :: _) _ _; refine wpList_load_mid rfl 52 _ rfl x (o + k * 99) rfl _ _ HR.out Tryz.underlying52 rfl (by rw [hln.out]; exact size_shn) ?_)
             | (
                refine wpList_store_blk rfl 52 _ _ rfl (wr.heap.size) (shnC q).toArray rfl rfl _ 52 (Blk.new rfl (shnC Shn.zero).toArray _) 99 size_shn zshn_size (shnC_size hok.out.nonce hok.out.salt hok.out.known) (shn_ones q) ?_
                intro w1 hbw1 hkw1
                have hw1 := hbw1.below ((Below.refl wr.heap.size wr).alloc (Nat.le_refl _) _) (by simp only [World.size_alloc]; omega) (Nat.le_refl _)
                have HBw1 := hid (Below.on HBwr.out hw1)
                have hsw1 := HBw1.out.size
                have Kow1 := hid (Kowr.out.below hw1)
                have hlow1 := Kowr.out.lt
                have Kaw1 := hid (Kawr.out.below hw1)
                have hlaw1 := Kawr.out.lt
                have Kxw1 := hid hkw1
                have OK2 := hid (hok.out.below hw1)
                have rx := Blk.rng hkw1
                have cx0 := shn_v rx
                have cx1 : w1.cell? ⟨wr.heap.size, 1, none⟩ = some (.slice q.va q.vl q.vc) := shn_val rx
                have cx2 : w1.cell? ⟨wr.heap.size, 66 + 32, none⟩ = some (.slice q.pa q.pl q.pc) := shn_nodes hok.out.nonce hok.out.salt hok.out.known rx
                clear rx
                have hfw1 : w.heap.size ≤ wr.heap.size := HBwr.out.size
                clear hbw1 hkw1 hw1)
             | (with_reducible show wpList _ _ _ (⟨some 39, _, _, _, _, _⟩ :: _) _ _; refine wpList_load_blk rfl 25 _ rfl (w.heap.size) rfl _ 25 Kow1.out _ Tryz.underlying25 rfl 32 size_digest ht.size ?_)
             | (with_reducible show wpList _ _ _ (⟨some 46, _, _, _, _, _⟩ :: _) _ _; refine wpList_load_mid rfl 25 _ rfl wr.heap.size 2 rfl _ _ (shn_nonce (Blk.rng Kxw1.out)) Tryz.underlying25 rfl (by rw [List.length_map, hok.out.nonce.len]; exact size_digest) ?_)
             | (with_reducible show wpList _ _ _ (⟨some 48, _, _, _, _, _⟩ :: _) _ _; refine wpList_load_mid rfl 25 _ rfl wr.heap.size 34 rfl _ _ (shn_salt hok.out.nonce (Blk.rng Kxw1.out)) Tryz.underlying25 rfl (by rw [List.length_map, hok.out.salt.len]; exact size_digest) ?_)
             | (with_reducible show wpList _ _ _ (⟨some 51, _, _, _, _, _⟩ :: _) _ _; refine wpList_load_mid rfl 25 _ rfl wr.heap.size 66 rfl _ _ (shn_known hok.out.nonce hok.out.salt (Blk.rng Kxw1.out)) Tryz.underlying25 rfl (by rw [List.length_map, hok.out.known.len]; exact size_digest) ?_))
          refine (CR.out _ (HT.out.below HBw1.out) OK2.out).mono ?_
          rintro e w2 ⟨rfl, bw2⟩
          have OK3 := hid (OK2.out.below bw2)
          have HBw2 := hid (Below.on HBw1.out bw2)
          have hsw2 := HBw2.out.size
          have Kow2 := hid (Kow1.out.below bw2)
          have Kaw2 := hid (Kaw1.out.below bw2)
          have Kxw2 := hid (Kxw1.out.below bw2)
          clear bw2
          go_wp2_with (first
             | (with_reducible show wpList _ _ _ (⟨some 56, _, _, _, _, _⟩ :: _) _ _; refine wpList_load_blk rfl 25 _ rfl (w.heap.size) rfl _ 25 Kow2.out _ Tryz.underlying25 rfl 32 size_digest ht.size ?_)
             | (with_reducible show wpList _ _ _ (⟨some 58, _, _, _, _, _⟩ :: _) _ _; refine wpList_load_blk rfl 52 _ rfl (wr.heap.size) rfl _ 52 Kxw2.out _ Tryz.underlying52 rfl 99 size_shn (shnC_size hok.out.nonce hok.out.salt hok.out.known) ?_))
          refine (CV.out _ (HT.out.below HBw2.out) OK3.out (Htab.out.below HBw2.out)).mono ?_
          rintro e w3 ⟨rfl, bw3⟩
          have HBw3 := hid (Below.on HBw2.out bw3)
          have hsw3 := HBw3.out.size
          have Kow3 := hid (Kow2.out.below bw3)
          have Kaw3 := hid (Kaw2.out.below bw3)
          have Kxw3 := hid (Kxw2.out.below bw3)
          clear bw3
          have cxv : w3.cell? ⟨wr.heap.size, 0, none⟩ = some (.int .i64 q.v) := by rw [Kxw3.out.cell]; rfl
          go_wp2_with fail
          exact ⟨⟨k + 1, _, _, by omega, rfl, rfl, by rw [HLS.out, ← Bool.and_assoc, ← HLB.out]; rfl, by rw [HHS.out, ← HHB.out, decide_eq_false Hv.out]; rfl, by rw [HVS.out], by first | rfl | simp, Kow3.out, Kaw3.out, HBw3.out⟩, by simp [intOf]; omega⟩
    · obtain rfl : k = sn := by omega
      have hc0 : ¬ ((k : Int) < k) := by omega
      obtain ⟨G, hG⟩ : ∃ G, goneB t name nn (wrap64 (lastV l k + 1)) x d ns = G := ⟨_, rfl⟩
      have EQ1 : (decide ((k : Int) ≤ 1) && (l.all (shownB t name nn) && goneB t name nn (wrap64 (lastV l k + 1)) x d ns)) = (LB && G) := by
        rw [HLB.out, hG, ← hlen, allK_all, Bool.and_assoc]
      have EQ2 : (cntB l && (l.all (shownB t name nn) && goneB t name nn (wrap64 ((k : Int) + 1)) x d ns)) = (HB && G) := by
        have := hist_eq l (l.all (shownB t name nn)) (fun v => goneB t name nn (wrap64 (v + 1)) x d ns)
        rw [hlen] at this
        rw [this, HHB.out, ← hlen, hisK_full, ← hG, hlen]
      have CG := hid (fun (W : World) (hT : TextAt W na nn nc name) (hN : DigsAt W pa pl pc ns) => rgone_any t name x d na pa nn nc pl pc (wrap64 (lastV l k + 1)) ns W ht hx hd hT hN (wrap64_hi _))
      rw [hG] at CG
      have CL := hid (fun (W : World) (hT : TextAt W na nn nc name) (hS : ShnsAt W sa k sc l) (hN : DigsAt W pa pl pc ns) (tb : ShaTab W) => vlookup_any t name x d na sa pa nn nc k sc pl pc l ns W ht hx hd hT hS hN tb)
      rw [EQ1] at CL
      have CH := hid (fun (W : World) (hT : TextAt W na nn nc name) (hS : ShnsAt W sa k sc l) (hN : DigsAt W pa pl pc ns) (tb : ShaTab W) => vhistory_any t name x d na sa pa nn nc k sc pl pc l ns W ht hx hd hT hS hN tb)
      rw [EQ2] at CH
      have c65 := ansC_nodes hx hd Kawr.out
      generalize lastV l k = last at *
      clear EQ1 EQ2 hG HLB HHB
      cases G <;> cases LB <;> cases HB
      · skip
        go_wp2_with (first
           | (with_reducible show wpList _ _ _ (⟨some 79, _, _, _, _, _⟩ :: _) _ _; refine wpList_load_blk rfl 25 _ rfl (w.heap.size) rfl _ 25 Kowr.out _ Tryz.underlying25 rfl 32 size_digest ht.size ?_)
           | (with_reducible show wpList _ _ _ (⟨some 84, _, _, _, _, _⟩ :: _) _ _; refine wpList_load_mid rfl 25 _ rfl (w.heap.size + 1) 1 rfl _ _ (ansC_next Kawr.out) Tryz.underlying25 rfl (by rw [List.length_map, hx.len]; exact size_digest) ?_)
           | (with_reducible show wpList _ _ _ (⟨some 87, _, _, _, _, _⟩ :: _) _ _; refine wpList_load_mid rfl 25 _ rfl (w.heap.size + 1) 33 rfl _ _ (ansC_known hx Kawr.out) Tryz.underlying25 rfl (by rw [List.length_map, hd.len]; exact size_digest) ?_))
        refine (CG.out _ (HT.out.below HBwr.out) (HNS.out.below HBwr.out)).mono ?_
        rintro e w1 ⟨rfl, bw1⟩
        have HBw1 := hid (Below.on HBwr.out bw1)
        have hsw1 := HBw1.out.size
        have Kow1 := hid (Kowr.out.below bw1)
        have Kaw1 := hid (Kawr.out.below bw1)
        clear bw1
        go_wp2_with (first
           | (with_reducible show wpList _ _ _ (⟨some 92, _, _, _, _, _⟩ :: _) _ _; refine wpList_load_blk rfl 25 _ rfl (w.heap.size) rfl _ 25 Kow1.out _ Tryz.underlying25 rfl 32 size_digest ht.size ?_)
           | (with_reducible show wpList _ _ _ (⟨some 94, _, _, _, _, _⟩ :: _) _ _; refine wpList_load_blk rfl 49 _ rfl (w.heap.size + 1) rfl _ 49 Kaw1.out _ Tryz.underlying49 rfl 66 size_answer (ansC_size hx hd) ?_))
        refine (CL.out _ (HT.out.below HBw1.out) (HS.out.below HBw1.out) (HNS.out.below HBw1.out) (Htab.out.below HBw1.out)).mono ?_
        rintro e w2 ⟨rfl, bw2⟩
        have HBw2 := hid (Below.on HBw1.out bw2)
        have hsw2 := HBw2.out.size
        have Kow2 := hid (Kow1.out.below bw2)
        have Kaw2 := hid (Kaw1.out.below bw2)
        clear bw2
        go_wp2_with (first
           | (with_reducible show wpList _ _ _ (⟨some 102, _, _, _, _, _⟩ :: _) _ _; refine wpList_load_blk_if (by first | rfl | go_simp) 25 _ rfl (w.heap.size) rfl _ 25 Kow2.out _ Tryz.underlying25 rfl 32 size_digest ht.size ?_)
           | (with_reducible show wpList _ _ _ (⟨some 104, _, _, _, _, _⟩ :: _) _ _; refine wpList_load_blk_if (by first | rfl | go_simp) 49 _ rfl (w.heap.size + 1) rfl _ 49 Kaw2.out _ Tryz.underlying49 rfl 66 size_answer (ansC_size hx hd) ?_))
        refine (CH.out _ (HT.out.below HBw2.out) (HS.out.below HBw2.out) (HNS.out.below HBw2.out) (Htab.out.below HBw2.out)).mono ?_
        rintro e w3 ⟨rfl, bw3⟩
        have HBw3 := hid (Below.on HBw2.out bw3)
        have hsw3 := HBw3.out.size
        have Kow3 := hid (Kow2.out.below bw3)
        have Kaw3 := hid (Kaw2.out.below bw3)
        clear bw3
        go_wp2_with fail
        refine (knows22 _ (Htab.out.below HBw3.out)).mono ?_
        rintro e w4 ⟨rfl, bw4⟩
        have HBw4 := hid (Below.on HBw3.out bw4)
        have hsw4 := HBw4.out.size
        have Kow4 := hid (Kow3.out.below bw4)
        have Kaw4 := hid (Kaw3.out.below bw4)
        clear bw4
        go_wp2_with fail
        go_returns
        exact ⟨by first | rfl | simp, HBw4.out⟩
      · skip
        go_wp2_with (first
           | (with_reducible show wpList _ _ _ (⟨some 79, _, _, _, _, _⟩ :: _) _ _; refine wpList_load_blk rfl 25 _ rfl (w.heap.size) rfl _ 25 Kowr.out _ Tryz.underlying25 rfl 32 size_digest ht.size ?_)
           | (with_reducible show wpList _ _ _ (⟨some 84, _, _, _, _, _⟩ :: _) _ _; refine wpList_load_mid rfl 25 _ rfl (w.heap.size + 1) 1 rfl _ _ (ansC_next Kawr.out) Tryz.underlying25 rfl (by rw [List.length_map, hx.len]; exact size_digest) ?_)
           | (with_reducible show wpList _ _ _ (⟨some 87, _, _, _, _, _⟩ :: _) _ _; refine wpList_load_mid rfl 25 _ rfl (w.heap.size + 1) 33 rfl _ _ (ansC_known hx Kawr.out) Tryz.underlying25 rfl (by rw [List.length_map, hd.len]; exact size_digest) ?_))
        refine (CG.out _ (HT.out.below HBwr.out) (HNS.out.below HBwr.out)).mono ?_
        rintro e w1 ⟨rfl, bw1⟩
        have HBw1 := hid (Below.on HBwr.out bw1)
        have hsw1 := HBw1.out.size
        have Kow1 := hid (Kowr.out.below bw1)
        have Kaw1 := hid (Kawr.out.below bw1)
        clear bw1
        go_wp2_with (first
           | (with_reducible show wpList _ _ _ (⟨some 92, _, _, _, _, _⟩ :: _) _ _; refine wpList_load_blk rfl 25 _ rfl (w.heap.size) rfl _ 25 Kow1.out _ Tryz.underlying25 rfl 32 size_digest ht.size ?_)
           | (with_reducible show wpList _ _ _ (⟨some 94, _, _, _, _, _⟩ :: _) _ _; refine wpList_load_blk rfl 49 _ rfl (w.heap.size + 1) rfl _ 49 Kaw1.out _ Tryz.underlying49 rfl 66 size_answer (ansC_size hx hd) ?_))
        refine (CL.out _ (HT.out.below HBw1.out) (HS.out.below HBw1.out) (HNS.out.below HBw1.out) (Htab.out.below HBw1.out)).mono ?_
        rintro e w2 ⟨rfl, bw2⟩
        have HBw2 := hid (Below.on HBw1.out bw2)
        have hsw2 := HBw2.out.size
        have Kow2 := hid (Kow1.out.below bw2)
        have Kaw2 := hid (Kaw1.out.below bw2)
        clear bw2
        go_wp2_with (first
           | (with_reducible show wpList _ _ _ (⟨some 102, _, _, _, _, _⟩ :: _) _ _; refine wpList_load_blk_if (by first | rfl | go_simp) 25 _ rfl (w.heap.size) rfl _ 25 Kow2.out _ Tryz.underlying25 rfl 32 size_digest ht.size ?_)
           | (with_reducible show wpList _ _ _ (⟨some 104, _, _, _, _, _⟩ :: _) _ _; refine wpList_load_blk_if (by first | rfl | go_simp) 49 _ rfl (w.heap.size + 1) rfl _ 49 Kaw2.out _ Tryz.underlying49 rfl 66 size_answer (ansC_size hx hd) ?_))
        refine (CH.out _ (HT.out.below HBw2.out) (HS.out.below HBw2.out) (HNS.out.below HBw2.out) (Htab.out.below HBw2.out)).mono ?_
        rintro e w3 ⟨rfl, bw3⟩
        have HBw3 := hid (Below.on HBw2.out bw3)
        have hsw3 := HBw3.out.size
        have Kow3 := hid (Kow2.out.below bw3)
        have Kaw3 := hid (Kaw2.out.below bw3)
        clear bw3
        go_wp2_with fail
        refine (knows22 _ (Htab.out.below HBw3.out)).mono ?_
        rintro e w4 ⟨rfl, bw4⟩
        have HBw4 := hid (Below.on HBw3.out bw4)
        have hsw4 := HBw4.out.size
        have Kow4 := hid (Kow3.out.below bw4)
        have Kaw4 := hid (Kaw3.out.below bw4)
        clear bw4
        go_wp2_with fail
        go_returns
        exact ⟨by first | rfl | simp, HBw4.out⟩
      · skip
        go_wp2_with (first
           | (with_reducible show wpList _ _ _ (⟨some 79, _, _, _, _, _⟩ :: _) _ _; refine wpList_load_blk rfl 25 _ rfl (w.heap.size) rfl _ 25 Kowr.out _ Tryz.underlying25 rfl 32 size_digest ht.size ?_)
           | (with_reducible show wpList _ _ _ (⟨some 84, _, _, _, _, _⟩ :: _) _ _; refine wpList_load_mid rfl 25 _ rfl (w.heap.size + 1) 1 rfl _ _ (ansC_next Kawr.out) Tryz.underlying25 rfl (by rw [List.length_map, hx.len]; exact size_digest) ?_)
           | (with_reducible show wpList _ _ _ (⟨some 87, _, _, _, _, _⟩ :: _) _ _; refine wpList_load_mid rfl 25 _ rfl (w.heap.size + 1) 33 rfl _ _ (ansC_known hx Kawr.out) Tryz.underlying25 rfl (by rw [List.length_map, hd.len]; exact size_digest) ?_))
        refine (CG.out _ (HT.out.below HBwr.out) (HNS.out.below HBwr.out)).mono ?_
        rintro e w1 ⟨rfl, bw1⟩
        have HBw1 := hid (Below.on HBwr.out bw1)
        have hsw1 := HBw1.out.size
        have Kow1 := hid (Kowr.out.below bw1)
        have Kaw1 := hid (Kawr.out.below bw1)
        clear bw1
        go_wp2_with (first
           | (with_reducible show wpList _ _ _ (⟨some 92, _, _, _, _, _⟩ :: _) _ _; refine wpList_load_blk rfl 25 _ rfl (w.heap.size) rfl _ 25 Kow1.out _ Tryz.underlying25 rfl 32 size_digest ht.size ?_)
           | (with_reducible show wpList _ _ _ (⟨some 94, _, _, _, _, _⟩ :: _) _ _; refine wpList_load_blk rfl 49 _ rfl (w.heap.size + 1) rfl _ 49 Kaw1.out _ Tryz.underlying49 rfl 66 size_answer (ansC_size hx hd) ?_))
        refine (CL.out _ (HT.out.below HBw1.out) (HS.out.below HBw1.out) (HNS.out.below HBw1.out) (Htab.out.below HBw1.out)).mono ?_
        rintro e w2 ⟨rfl, bw2⟩
        have HBw2 := hid (Below.on HBw1.out bw2)
        have hsw2 := HBw2.out.size
        have Kow2 := hid (Kow1.out.below bw2)
        have Kaw2 := hid (Kaw1.out.below bw2)
        clear bw2
        go_wp2_with (first
           | (with_reducible show wpList _ _ _ (⟨some 102, _, _, _, _, _⟩ :: _) _ _; refine wpList_load_blk_if (by first | rfl | go_simp) 25 _ rfl (w.heap.size) rfl _ 25 Kow2.out _ Tryz.underlying25 rfl 32 size_digest ht.size ?_)
           | (with_reducible show wpList _ _ _ (⟨some 104, _, _, _, _, _⟩ :: _) _ _; refine wpList_load_blk_if (by first | rfl | go_simp) 49 _ rfl (w.heap.size + 1) rfl _ 49 Kaw2.out _ Tryz.underlying49 rfl 66 size_answer (ansC_size hx hd) ?_))
        refine (CH.out _ (HT.out.below HBw2.out) (HS.out.below HBw2.out) (HNS.out.below HBw2.out) (Htab.out.below HBw2.out)).mono ?_
        rintro e w3 ⟨rfl, bw3⟩
        have HBw3 := hid (Below.on HBw2.out bw3)
        have hsw3 := HBw3.out.size
        have Kow3 := hid (Kow2.out.below bw3)
        have Kaw3 := hid (Kaw2.out.below bw3)
        clear bw3
        go_wp2_with fail
        refine (knows22 _ (Htab.out.below HBw3.out)).mono ?_
        rintro e w4 ⟨rfl, bw4⟩
        have HBw4 := hid (Below.on HBw3.out bw4)
        have hsw4 := HBw4.out.size
        have Kow4 := hid (Kow3.out.below bw4)
        have Kaw4 := hid (Kaw3.out.below bw4)
        clear bw4
        go_wp2_with fail
        go_returns
        exact ⟨by first | rfl | simp, HBw4.out⟩
      · skip
        go_wp2_with (first
           | (with_reducible show wpList _ _ _ (⟨some 79, _, _, _, _, _⟩ :: _) _ _; refine wpList_load_blk rfl 25 _ rfl (w.heap.size) rfl _ 25 Kowr.out _ Tryz.underlying25 rfl 32 size_digest ht.size ?_)
           | (with_reducible show wpList _ _ _ (⟨some 84, _, _, _, _, _⟩ :: _) _ _; refine wpList_load_mid rfl 25 _ rfl (w.heap.size + 1) 1 rfl _ _ (ansC_next Kawr.out) Tryz.underlying25 rfl (by rw [List.length_map, hx.len]; exact size_digest) ?_)
           | (with_reducible show wpList _ _ _ (⟨some 87, _, _, _, _, _⟩ :: _) _ _; refine wpList_load_mid rfl 25 _ rfl (w.heap.size + 1) 33 rfl _ _ (ansC_known hx Kawr.out) Tryz.underlying25 rfl (by rw [List.length_map, hd.len]; exact size_digest) ?_))
        refine (CG.out _ (HT.out.below HBwr.out) (HNS.out.below HBwr.out)).mono ?_
        rintro e w1 ⟨rfl, bw1⟩
        have HBw1 := hid (Below.on HBwr.out bw1)
        have hsw1 := HBw1.out.size
        have Kow1 := hid (Kowr.out.below bw1)
        have Kaw1 := hid (Kawr.out.below bw1)
        clear bw1
        go_wp2_with (first
           | (with_reducible show wpList _ _ _ (⟨some 92, _, _, _, _, _⟩ :: _) _ _; refine wpList_load_blk rfl 25 _ rfl (w.heap.size) rfl _ 25 Kow1.out _ Tryz.underlying25 rfl 32 size_digest ht.size ?_)
           | (with_reducible show wpList _ _ _ (⟨some 94, _, _, _, _, _⟩ :: _) _ _; refine wpList_load_blk rfl 49 _ rfl (w.heap.size + 1) rfl _ 49 Kaw1.out _ Tryz.underlying49 rfl 66 size_answer (ansC_size hx hd) ?_))
        refine (CL.out _ (HT.out.below HBw1.out) (HS.out.below HBw1.out) (HNS.out.below HBw1.out) (Htab.out.below HBw1.out)).mono ?_
        rintro e w2 ⟨rfl, bw2⟩
        have HBw2 := hid (Below.on HBw1.out bw2)
        have hsw2 := HBw2.out.size
        have Kow2 := hid (Kow1.out.below bw2)
        have Kaw2 := hid (Kaw1.out.below bw2)
        clear bw2
        go_wp2_with (first
           | (with_reducible show wpList _ _ _ (⟨some 102, _, _, _, _, _⟩ :: _) _ _; refine wpList_load_blk_if (by first | rfl | go_simp) 25 _ rfl (w.heap.size) rfl _ 25 Kow2.out _ Tryz.underlying25 rfl 32 size_digest ht.size ?_)
           | (with_reducible show wpList _ _ _ (⟨some 104, _, _, _, _, _⟩ :: _) _ _; refine wpList_load_blk_if (by first | rfl | go_simp) 49 _ rfl (w.heap.size + 1) rfl _ 49 Kaw2.out _ Tryz.underlying49 rfl 66 size_answer (ansC_size hx hd) ?_))
        refine (CH.out _ (HT.out.below HBw2.out) (HS.out.below HBw2.out) (HNS.out.below HBw2.out) (Htab.out.below HBw2.out)).mono ?_
        rintro e w3 ⟨rfl, bw3⟩
        have HBw3 := hid (Below.on HBw2.out bw3)
        have hsw3 := HBw3.out.size
        have Kow3 := hid (Kow2.out.below bw3)
        have Kaw3 := hid (Kaw2.out.below bw3)
        clear bw3
        go_wp2_with fail
        refine (knows22 _ (Htab.out.below HBw3.out)).mono ?_
        rintro e w4 ⟨rfl, bw4⟩
        have HBw4 := hid (Below.on HBw3.out bw4)
        have hsw4 := HBw4.out.size
        have Kow4 := hid (Kow3.out.below bw4)
        have Kaw4 := hid (Kaw3.out.below bw4)
        clear bw4
        go_wp2_with fail
        go_returns
        exact ⟨by first | rfl | simp, HBw4.out⟩
      · skip
        go_wp2_with (first
           | (with_reducible show wpList _ _ _ (⟨some 79, _, _, _, _, _⟩ :: _) _ _; refine wpList_load_blk rfl 25 _ rfl (w.heap.size) rfl _ 25 Kowr.out _ Tryz.underlying25 rfl 32 size_digest ht.size ?_)
           | (with_reducible show wpList _ _ _ (⟨some 84, _, _, _, _, _⟩ :: _) _ _; refine wpList_load_mid rfl 25 _ rfl (w.heap.size + 1) 1 rfl _ _ (ansC_next Kawr.out) Tryz.underlying25 rfl (by rw [List.length_map, hx.len]; exact size_digest) ?_)
           | (with_reducible show wpList _ _ _ (⟨some 87, _, _, _, _, _⟩ :: _) _ _; refine wpList_load_mid rfl 25 _ rfl (w.heap.size + 1) 33 rfl _ _ (ansC_known hx Kawr.out) Tryz.underlying25 rfl (by rw [List.length_map, hd.len]; exact size_digest) ?_))
        refine (CG.out _ (HT.out.below HBwr.out) (HNS.out.below HBwr.out)).mono ?_
        rintro e w1 ⟨rfl, bw1⟩
        have HBw1 := hid (Below.on HBwr.out bw1)
        have hsw1 := HBw1.out.size
        have Kow1 := hid (Kowr.out.below bw1)
        have Kaw1 := hid (Kawr.out.below bw1)
        clear bw1
        go_wp2_with (first
           | (with_reducible show wpList _ _ _ (⟨some 92, _, _, _, _, _⟩ :: _) _ _; refine wpList_load_blk rfl 25 _ rfl (w.heap.size) rfl _ 25 Kow1.out _ Tryz.underlying25 rfl 32 size_digest ht.size ?_)
           | (with_reducible show wpList _ _ _ (⟨some 94, _, _, _, _, _⟩ :: _) _ _; refine wpList_load_blk rfl 49 _ rfl (w.heap.size + 1) rfl _ 49 Kaw1.out _ Tryz.underlying49 rfl 66 size_answer (ansC_size hx hd) ?_))
        refine (CL.out _ (HT.out.below HBw1.out) (HS.out.below HBw1.out) (HNS.out.below HBw1.out) (Htab.out.below HBw1.out)).mono ?_
        rintro e w2 ⟨rfl, bw2⟩
        have HBw2 := hid (Below.on HBw1.out bw2)
        have hsw2 := HBw2.out.size
        have Kow2 := hid (Kow1.out.below bw2)
        have Kaw2 := hid (Kaw1.out.below bw2)
        clear bw2
        go_wp2_with (first
           | (with_reducible show wpList _ _ _ (⟨some 102, _, _, _, _, _⟩ :: _) _ _; refine wpList_load_blk_if (by first | rfl | go_simp) 25 _ rfl (w.heap.size) rfl _ 25 Kow2.out _ Tryz.underlying25 rfl 32 size_digest ht.size ?_)
           | (with_reducible show wpList _ _ _ (⟨some 104, _, _, _, _, _⟩ :: _) _ _; refine wpList_load_blk_if (by first | rfl | go_simp) 49 _ rfl (w.heap.size + 1) rfl _ 49 Kaw2.out _ Tryz.underlying49 rfl 66 size_answer (ansC_size hx hd) ?_))
        refine (CH.out _ (HT.out.below HBw2.out) (HS.out.below HBw2.out) (HNS.out.below HBw2.out) (Htab.out.below HBw2.out)).mono ?_
        rintro e w3 ⟨rfl, bw3⟩
        have HBw3 := hid (Below.on HBw2.out bw3)
        have hsw3 := HBw3.out.size
        have Kow3 := hid (Kow2.out.below bw3)
        have Kaw3 := hid (Kaw2.out.below bw3)
        clear bw3
        go_wp2_with fail
        refine (knows22 _ (Htab.out.below HBw3.out)).mono ?_
        rintro e w4 ⟨rfl, bw4⟩
        have HBw4 := hid (Below.on HBw3.out bw4)
        have hsw4 := HBw4.out.size
        have Kow4 := hid (Kow3.out.below bw4)
        have Kaw4 := hid (Kaw3.out.below bw4)
        clear bw4
        go_wp2_with fail
        go_returns
        exact ⟨by first | rfl | simp, HBw4.out⟩
      · skip
        go_wp2_with (first
           | (with_reducible show wpList _ _ _ (⟨some 79, _, _, _, _, _⟩ :: _) _ _; refine wpList_load_blk rfl 25 _ rfl (w.heap.size) rfl _ 25 Kowr.out _ Tryz.underlying25 rfl 32 size_digest ht.size ?_)
           | (with_reducible show wpList _ _ _ (⟨some 84, _, _, _, _, _⟩ :: _) _ _; refine wpList_load_mid rfl 25 _ rfl (w.heap.size + 1) 1 rfl _ _ (ansC_next Kawr.out) Tryz.underlying25 rfl (by rw [List.length_map, hx.len]; exact size_digest) ?_)
           | (with_reducible show wpList _ _ _ (⟨some 87, _, _, _, _, _⟩ :: _) _ _; refine wpList_load_mid rfl 25 _ rfl (w.heap.size + 1) 33 rfl _ _ (ansC_known hx Kawr.out) Tryz.underlying25 rfl (by rw [List.length_map, hd.len]; exact size_digest) ?_))
        refine (CG.out _ (HT.out.below HBwr.out) (HNS.out.below HBwr.out)).mono ?_
        rintro e w1 ⟨rfl, bw1⟩
        have HBw1 := hid (Below.on HBwr.out bw1)
        have hsw1 := HBw1.out.size
        have Kow1 := hid (Kowr.out.below bw1)
        have Kaw1 := hid (Kawr.out.below bw1)
        clear bw1
        go_wp2_with (first
           | (with_reducible show wpList _ _ _ (⟨some 92, _, _, _, _, _⟩ :: _) _ _; refine wpList_load_blk rfl 25 _ rfl (w.heap.size) rfl _ 25 Kow1.out _ Tryz.underlying25 rfl 32 size_digest ht.size ?_)
           | (with_reducible show wpList _ _ _ (⟨some 94, _, _, _, _, _⟩ :: _) _ _; refine wpList_load_blk rfl 49 _ rfl (w.heap.size + 1) rfl _ 49 Kaw1.out _ Tryz.underlying49 rfl 66 size_answer (ansC_size hx hd) ?_))
        refine (CL.out _ (HT.out.below HBw1.out) (HS.out.below HBw1.out) (HNS.out.below HBw1.out) (Htab.out.below HBw1.out)).mono ?_
        rintro e w2 ⟨rfl, bw2⟩
        have HBw2 := hid (Below.on HBw1.out bw2)
        have hsw2 := HBw2.out.size
        have Kow2 := hid (Kow1.out.below bw2)
        have Kaw2 := hid (Kaw1.out.below bw2)
        clear bw2
        go_wp2_with (first
           | (with_reducible show wpList _ _ _ (⟨some 102, _, _, _, _, _⟩ :: _) _ _; refine wpList_load_blk_if (by first | rfl | go_simp) 25 _ rfl (w.heap.size) rfl _ 25 Kow2.out _ Tryz.underlying25 rfl 32 size_digest ht.size ?_)
           | (with_reducible show wpList _ _ _ (⟨some 104, _, _, _, _, _⟩ :: _) _ _; refine wpList_load_blk_if (by first | rfl | go_simp) 49 _ rfl (w.heap.size + 1) rfl _ 49 Kaw2.out _ Tryz.underlying49 rfl 66 size_answer (ansC_size hx hd) ?_))
        refine (CH.out _ (HT.out.below HBw2.out) (HS.out.below HBw2.out) (HNS.out.below HBw2.out) (Htab.out.below HBw2.out)).mono ?_
        rintro e w3 ⟨rfl, bw3⟩
        have HBw3 := hid (Below.on HBw2.out bw3)
        have hsw3 := HBw3.out.size
        have Kow3 := hid (Kow2.out.below bw3)
        have Kaw3 := hid (Kaw2.out.below bw3)
        clear bw3
        go_wp2_with fail
        refine (knows22 _ (Htab.out.below HBw3.out)).mono ?_
        rintro e w4 ⟨rfl, bw4⟩
        have HBw4 := hid (Below.on HBw3.out bw4)
        have hsw4 := HBw4.out.size
        have Kow4 := hid (Kow3.out.below bw4)
        have Kaw4 := hid (Kaw3.out.below bw4)
        clear bw4
        go_wp2_with fail
        go_returns
        exact ⟨by first | rfl | simp, HBw4.out⟩
      · skip
        go_wp2_with (first
           | (with_reducible show wpList _ _ _ (⟨some 79, _, _, _, _, _⟩ :: _) _ _; refine wpList_load_blk rfl 25 _ rfl (w.heap.size) rfl _ 25 Kowr.out _ Tryz.underlying25 rfl 32 size_digest ht.size ?_)
           | (with_reducible show wpList _ _ _ (⟨some 84, _, _, _, _, _⟩ :: _) _ _; refine wpList_load_mid rfl 25 _ rfl (w.heap.size + 1) 1 rfl _ _ (ansC_next Kawr.out) Tryz.underlying25 rfl (by rw [List.length_map, hx.len]; exact size_digest) ?_)
           | (with_reducible show wpList _ _ _ (⟨some 87, _, _, _, _, _⟩ :: _) _ _; refine wpList_load_mid rfl 25 _ rfl (w.heap.size + 1) 33 rfl _ _ (ansC_known hx Kawr.out) Tryz.underlying25 rfl (by rw [List.length_map, hd.len]; exact size_digest) ?_))
        refine (CG.out _ (HT.out.below HBwr.out) (HNS.out.below HBwr.out)).mono ?_
        rintro e w1 ⟨rfl, bw1⟩
        have HBw1 := hid (Below.on HBwr.out bw1)
        have hsw1 := HBw1.out.size
        have Kow1 := hid (Kowr.out.below bw1)
        have Kaw1 := hid (Kawr.out.below bw1)
        clear bw1
        go_wp2_with (first
           | (with_reducible show wpList _ _ _ (⟨some 92, _, _, _, _, _⟩ :: _) _ _; refine wpList_load_blk rfl 25 _ rfl (w.heap.size) rfl _ 25 Kow1.out _ Tryz.underlying25 rfl 32 size_digest ht.size ?_)
           | (with_reducible show wpList _ _ _ (⟨some 94, _, _, _, _, _⟩ :: _) _ _; refine wpList_load_blk rfl 49 _ rfl (w.heap.size + 1) rfl _ 49 Kaw1.out _ Tryz.underlying49 rfl 66 size_answer (ansC_size hx hd) ?_))
        refine (CL.out _ (HT.out.below HBw1.out) (HS.out.below HBw1.out) (HNS.out.below HBw1.out) (Htab.out.below HBw1.out)).mono ?_
        rintro e w2 ⟨rfl, bw2⟩
        have HBw2 := hid (Below.on HBw1.out bw2)
        have hsw2 := HBw2.out.size
        have Kow2 := hid (Kow1.out.below bw2)
        have Kaw2 := hid (Kaw1.out.below bw2)
        clear bw2
        go_wp2_with (first
           | (with_reducible show wpList _ _ _ (⟨some 102, _, _, _, _, _⟩ :: _) _ _; refine wpList_load_blk_if (by first | rfl | go_simp) 25 _ rfl (w.heap.size) rfl _ 25 Kow2.out _ Tryz.underlying25 rfl 32 size_digest ht.size ?_)
           | (with_reducible show wpList _ _ _ (⟨some 104, _, _, _, _, _⟩ :: _) _ _; refine wpList_load_blk_if (by first | rfl | go_simp) 49 _ rfl (w.heap.size + 1) rfl _ 49 Kaw2.out _ Tryz.underlying49 rfl 66 size_answer (ansC_size hx hd) ?_))
        refine (CH.out _ (HT.out.below HBw2.out) (HS.out.below HBw2.out) (HNS.out.below HBw2.out) (Htab.out.below HBw2.out)).mono ?_
        rintro e w3 ⟨rfl, bw3⟩
        have HBw3 := hid (Below.on HBw2.out bw3)
        have hsw3 := HBw3.out.size
        have Kow3 := hid (Kow2.out.below bw3)
        have Kaw3 := hid (Kaw2.out.below bw3)
        clear bw3
        go_wp2_with fail
        refine (knows22 _ (Htab.out.below HBw3.out)).mono ?_
        rintro e w4 ⟨rfl, bw4⟩
        have HBw4 := hid (Below.on HBw3.out bw4)
        have hsw4 := HBw4.out.size
        have Kow4 := hid (Kow3.out.below bw4)
        have Kaw4 := hid (Kaw3.out.below bw4)
        clear bw4
        go_wp2_with fail
        go_returns
        exact ⟨by first | rfl | simp, HBw4.out⟩
      · skip
        go_wp2_with (first
           | (with_reducible show wpList _ _ _ (⟨some 79, _, _, _, _, _⟩ :: _) _ _; refine wpList_load_blk rfl 25 _ rfl (w.heap.size) rfl _ 25 Kowr.out _ Tryz.underlying25 rfl 32 size_digest ht.size ?_)
           | (with_reducible show wpList _ _ _ (⟨some 84, _, _, _, _, _⟩ :: _) _ _; refine wpList_load_mid rfl 25 _ rfl (w.heap.size + 1) 1 rfl _ _ (ansC_next Kawr.out) Tryz.underlying25 rfl (by rw [List.length_map, hx.len]; exact size_digest) ?_)
           | (with_reducible show wpList _ _ _ (⟨some 87, _, _, _, _, _⟩ :: _) _ _; refine wpList_load_mid rfl 25 _ rfl (w.heap.size + 1) 33 rfl _ _ (ansC_known hx Kawr.out) Tryz.underlying25 rfl (by rw [List.length_map, hd.len]; exact size_digest) ?_))
        refine (CG.out _ (HT.out.below HBwr.out) (HNS.out.below HBwr.out)).mono ?_
        rintro e w1 ⟨rfl, bw1⟩
        have HBw1 := hid (Below.on HBwr.out bw1)
        have hsw1 := HBw1.out.size
        have Kow1 := hid (Kowr.out.below bw1)
        have Kaw1 := hid (Kawr.out.below bw1)
        clear bw1
        go_wp2_with (first
           | (with_reducible show wpList _ _ _ (⟨some 92, _, _, _, _, _⟩ :: _) _ _; refine wpList_load_blk rfl 25 _ rfl (w.heap.size) rfl _ 25 Kow1.out _ Tryz.underlying25 rfl 32 size_digest ht.size ?_)
           | (with_reducible show wpList _ _ _ (⟨some 94, _, _, _, _, _⟩ :: _) _ _; refine wpList_load_blk rfl 49 _ rfl (w.heap.size + 1) rfl _ 49 Kaw1.out _ Tryz.underlying49 rfl 66 size_answer (ansC_size hx hd) ?_))
        refine (CL.out _ (HT.out.below HBw1.out) (HS.out.below HBw1.out) (HNS.out.below HBw1.out) (Htab.out.below HBw1.out)).mono ?_
        rintro e w2 ⟨rfl, bw2⟩
        have HBw2 := hid (Below.on HBw1.out bw2)
        have hsw2 := HBw2.out.size
        have Kow2 := hid (Kow1.out.below bw2)
        have Kaw2 := hid (Kaw1.out.below bw2)
        clear bw2
        go_wp2_with (first
           | (with_reducible show wpList _ _ _ (⟨some 102, _, _, _, _, _⟩ :: _) _ _; refine wpList_load_blk_if (by first | rfl | go_simp) 25 _ rfl (w.heap.size) rfl _ 25 Kow2.out _ Tryz.underlying25 rfl 32 size_digest ht.size ?_)
           | (with_reducible show wpList _ _ _ (⟨some 104, _, _, _, _, _⟩ :: _) _ _; refine wpList_load_blk_if (by first | rfl | go_simp) 49 _ rfl (w.heap.size + 1) rfl _ 49 Kaw2.out _ Tryz.underlying49 rfl 66 size_answer (ansC_size hx hd) ?_))
        refine (CH.out _ (HT.out.below HBw2.out) (HS.out.below HBw2.out) (HNS.out.below HBw2.out) (Htab.out.below HBw2.out)).mono ?_
        rintro e w3 ⟨rfl, bw3⟩
        have HBw3 := hid (Below.on HBw2.out bw3)
        have hsw3 := HBw3.out.size
        have Kow3 := hid (Kow2.out.below bw3)
        have Kaw3 := hid (Kaw2.out.below bw3)
        clear bw3
        go_wp2_with fail
        refine (knows22 _ (Htab.out.below HBw3.out)).mono ?_
        rintro e w4 ⟨rfl, bw4⟩
        have HBw4 := hid (Below.on HBw3.out bw4)
        have hsw4 := HBw4.out.size
        have Kow4 := hid (Kow3.out.below bw4)
        have Kaw4 := hid (Kaw3.out.below bw4)
        clear bw4
        go_wp2_with fail
        go_returns
        exact ⟨by first | rfl | simp, HBw4.out⟩
theorem verifyAnswers_any (t name x d : List Int) (na sa pa : Option Addr) (nn nc sn sc pl pc : Nat) (l : List Shn) (ns : List (List Int)) (w : World) (ht : Dg t) (hx : Dg x) (hd : Dg d) (hT : TextAt w na nn nc name) (hS : ShnsAt w sa sn sc l) (hN : DigsAt w pa pl pc ns) (tab : ShaTab w) :
    Calls Tryz.prog 4 #[.agg (t.map (Value.int .u8)).toArray, .slice na nn nc, .agg (ansC (.slice sa sn sc) x d (.slice pa pl pc)).toArray] w fun e' w' => e' = .returned (.bool true) ∧ Below w.heap.size w w' := by
  rcases Nat.lt_or_ge 200 nn with h | h1
  · exact answers_long t name x d na sa pa nn nc sn sc pl pc l ns w ht hx hd hT hS hN tab h
  cases hf : fewA l pl with
  | false => exact answers_many t name x d na sa pa nn nc sn sc pl pc l ns w ht hx hd hT hS hN tab h1 hf
  | true => exact answers_good t name x d na sa pa nn nc sn sc pl pc l ns w ht hx hd hT hS hN tab h1 hf
end Go.Proofs.YtkakoiaahgchmaaGreatDoor
namespace Go.Proofs.YtkakoiaahgchmaaGreatDoor
set_option maxRecDepth 100000
open Go.ChangeShapes Go.WideShapes Go.ChangeAt Go.RowKit
set_option maxHeartbeats 4000000 in
theorem proof_cells {H : Type} {enc : TypeId × Value → H} {W : World} {fuel : Nat} {cs : List Value} {x : DataW H × List MemPlace} (hf : DataW.trod enc Tryz.prog W 0 (fun _ => true) true fuel 47 cs = some x) :
    ∃ (k : List Int) (a : Option Addr) (n c : Nat) (ds : List (List Int)), cs = prC k (.slice a n c) ∧ Dg k ∧ DigsAt W a n c ds := by
  obtain ⟨g0, g1, hs, s0, s1, p0, p1⟩ : ∃ f0 f1 : Field, Tryz.prog.underlying 47 = some (.struct #[f0, f1]) ∧ f0.type = 25 ∧ f1.type = 33 ∧ f0.offset = 0 ∧ f1.offset = 32 := ⟨_, _, Tryz.underlying47, rfl, rfl, rfl, rfl⟩
  have c32 : Tryz.prog.cellsOf 25 = 32 := by kernel_rfl
  have c33 : Tryz.prog.cellsOf 47 = 33 := by kernel_rfl
  have c1 : Tryz.prog.cellsOf 5 = 1 := by kernel_rfl
  have cd : Tryz.prog.cellsOf 33 = 1 := by kernel_rfl
  obtain ⟨z0, z1, m, _, hl, r0, r1⟩ := trod_struct2 hs hf
  rw [s0, p0, c32] at r0
  rw [s1, p1, cd] at r1
  obtain ⟨d0, k2, e2⟩ := digest_cells Tryz.underlying25 Tryz.underlying5 c32 c1 r0
  obtain ⟨a, m, c, ds, e3, k3⟩ := digs_cells Tryz.underlying33 Tryz.underlying25 Tryz.underlying5 c32 c1 r1
  rw [c33] at hl
  refine ⟨d0, a, m, c, ds, ?_, k2, k3⟩
  unfold prC
  rw [← e2, ← e3]
  have h3 : cs = (cs.drop 0).take 32 ++ (cs.drop 32).take 1 := by
    rw [List.take_of_length_le (l := cs.drop 32) (by rw [List.length_drop]; omega), List.drop_zero, List.take_append_drop]
  exact h3
set_option maxHeartbeats 4000000 in
theorem text_cells {H : Type} {enc : TypeId × Value → H} {W : World} {fuel : Nat} {cs : List Value} {x : DataW H × List MemPlace} (hf : DataW.trod enc Tryz.prog W 0 (fun _ => true) true fuel 37 cs = some x) :
    ∃ (a : Option Addr) (len cap : Nat) (bs : List Int), cs = [.slice a len cap] ∧ TextAt W a len cap bs := by
  rcases open_ints Tryz.underlying37 Tryz.underlying5 (by kernel_rfl) hf with ⟨hcs, _⟩ | ⟨x, l, c, zs, hcs, _, hl, hm, hz, hd, hcell, hwz⟩
  · exact ⟨none, 0, 0, [], hcs, TextAt.nil⟩
  · obtain ⟨b, off, s⟩ := x
    have hz' : zs.length = c := by simpa using hz
    refine ⟨_, l, c, zs.take l, hcs, ⟨by simp; omega, hl, by unfold maxLen at hm; omega, fun z hz => wf_u8 (hwz z (List.mem_of_mem_take hz)), .inr ⟨b, off, s, rfl, fun i hi => ?_⟩⟩⟩
    have h0 := hcell i (by omega)
    have hs : s = none := by
      have h00 := hcell 0 (by omega)
      have := World.cell?_spot h00
      simpa [Addr.add] using this
    subst hs
    rw [Addr.add_mid] at h0
    refine ⟨rfl, World.block_lt_of_cell? W _ h0, ?_⟩
    rw [h0]
    simp [hi]
set_option maxHeartbeats 4000000 in
theorem shn_cells {H : Type} {enc : TypeId × Value → H} {W : World} {fuel : Nat} {cs : List Value} {x : DataW H × List MemPlace} (hf : DataW.trod enc Tryz.prog W 0 (fun _ => true) true fuel 52 cs = some x) :
    ∃ s : Shn, cs = shnC s ∧ ShnOk W s := by
  obtain ⟨f0, f1, f2, f3, f4, hu, t0, t1, t2, t3, t4, o0, o1, o2, o3, o4⟩ : ∃ f0 f1 f2 f3 f4 : Field, Tryz.prog.underlying 52 = some (.struct #[f0, f1, f2, f3, f4]) ∧ f0.type = 3 ∧ f1.type = 37 ∧ f2.type = 25 ∧ f3.type = 25 ∧ f4.type = 47 ∧ f0.offset = 0 ∧ f1.offset = 1 ∧ f2.offset = 2 ∧ f3.offset = 34 ∧ f4.offset = 66 := ⟨_, _, _, _, _, Tryz.underlying52, rfl, rfl, rfl, rfl, rfl, rfl, rfl, rfl, rfl, rfl⟩
  have c32 : Tryz.prog.cellsOf 25 = 32 := by kernel_rfl
  have c33 : Tryz.prog.cellsOf 47 = 33 := by kernel_rfl
  have c99 : Tryz.prog.cellsOf 52 = 99 := by kernel_rfl
  have c1 : Tryz.prog.cellsOf 5 = 1 := by kernel_rfl
  have ci : Tryz.prog.cellsOf 3 = 1 := by kernel_rfl
  have cb : Tryz.prog.cellsOf 37 = 1 := by kernel_rfl
  obtain ⟨xs, m, _, _, hl, hlen, hg⟩ := DataW.trod_struct hu hf
  obtain ⟨y0, y1, y2, y3, y4, rfl⟩ : ∃ y0 y1 y2 y3 y4, xs = [y0, y1, y2, y3, y4] := by
    match xs, hlen with
    | [y0, y1, y2, y3, y4], _ => exact ⟨y0, y1, y2, y3, y4, rfl⟩
  have q0 := hg 0 f0 rfl
  have q1 := hg 1 f1 rfl
  have q2 := hg 2 f2 rfl
  have q3 := hg 3 f3 rfl
  have q4 := hg 4 f4 rfl
  rw [t0, o0, ci] at q0
  rw [t1, o1, cb] at q1
  rw [t2, o2, c32] at q2
  rw [t3, o3, c32] at q3
  rw [t4, o4, c33] at q4
  obtain ⟨v, e0, _, w0⟩ := DataW.trod_int Tryz.underlying3 q0
  obtain ⟨va, vl, vc, val, e1, k1⟩ := text_cells q1
  obtain ⟨d2, k2, e2⟩ := digest_cells Tryz.underlying25 Tryz.underlying5 c32 c1 q2
  obtain ⟨d3, k3, e3⟩ := digest_cells Tryz.underlying25 Tryz.underlying5 c32 c1 q3
  obtain ⟨k, a, n, c, ds, e4, k4, k5⟩ := proof_cells q4
  have w1 := wf_i64 w0
  refine ⟨⟨v, va, vl, vc, val, d2, d3, k, a, n, c, ds⟩, ?_, ⟨w1.1, w1.2, k1, k2, k3, k4, k5⟩⟩
  rw [c99] at hl
  unfold shnC
  rw [← e2, ← e3, ← e4]
  have h3 : cs = (cs.drop 0).take 1 ++ ((cs.drop 1).take 1 ++ ((cs.drop 2).take 32 ++ ((cs.drop 34).take 32 ++ (cs.drop 66).take 33))) := by
    rw [List.take_of_length_le (l := cs.drop 66) (by rw [List.length_drop]; omega)]
    rw [show cs.drop 66 = (cs.drop 34).drop 32 by rw [List.drop_drop], List.take_append_drop, show cs.drop 34 = (cs.drop 2).drop 32 by rw [List.drop_drop], List.take_append_drop, show cs.drop 2 = (cs.drop 1).drop 1 by rw [List.drop_drop], List.take_append_drop, List.drop_zero, List.take_append_drop]
  rw [e0, e1] at h3
  exact h3
set_option maxHeartbeats 4000000 in
theorem shns_cells {H : Type} {enc : TypeId × Value → H} {W : World} {fuel : Nat} {cs : List Value} {x : DataW H × List MemPlace} (hf : DataW.trod enc Tryz.prog W 0 (fun _ => true) true fuel 45 cs = some x) :
    ∃ (a : Option Addr) (len cap : Nat) (l : List Shn), cs = [.slice a len cap] ∧ ShnsAt W a len cap l := by
  have ce : Tryz.prog.cellsOf 52 = 99 := by kernel_rfl
  rcases Go.Deep.open_slice Tryz.underlying45 hf with ⟨hcs, _⟩ | ⟨x, len, cap, m, n, D, Pl, hcs, _, hl, hm, hmm, _, hall⟩
  · exact ⟨none, 0, 0, [], hcs, ShnsAt.nil W⟩
  · obtain ⟨b, off, s⟩ := x
    simp only [if_true] at hmm
    have hall' : ∀ i, i < cap → ∃ y : Shn, ShnOk W y ∧ W.cells? 0 ((⟨b, off, s⟩ : Addr).add (i * 99)) 99 = some (shnC y) := fun i hi => by
      obtain ⟨cs', h1, h2⟩ := hall i (by omega)
      rw [ce] at h1
      obtain ⟨y, rfl, h3⟩ := shn_cells h2
      exact ⟨y, h3, h1⟩
    let f : Nat → Shn := fun i => if h : i < cap then Classical.choose (hall' i h) else Shn.zero
    have hf : ∀ i, i < cap → ShnOk W (f i) ∧ W.cells? 0 ((⟨b, off, s⟩ : Addr).add (i * 99)) 99 = some (shnC (f i)) := fun i hi => by
      simp only [f, hi, dif_pos]
      exact Classical.choose_spec (hall' i hi)
    have hel : ∀ i, i < cap → (shnC (f i)).length = 99 := fun i hi => shnC_len (hf i hi).1.nonce (hf i hi).1.salt (hf i hi).1.known
    refine ⟨_, len, cap, (List.range len).map f, hcs, ⟨by simp, hl, by unfold maxLen at hm; omega, fun y hy => ?_, ?_⟩⟩
    · simp only [List.mem_map, List.mem_range] at hy
      obtain ⟨i, hi, rfl⟩ := hy
      exact (hf i (by omega)).1
    · by_cases hz : len = 0
      · exact .inl hz
      have h0 := (World.cells?_some (hf 0 (by omega)).2).2.2 0 (by omega)
      have hl0 := hel 0 (by omega)
      rw [List.getElem?_eq_getElem (by omega)] at h0
      have hs : s = none := by
        have := World.cell?_spot h0
        simpa [Addr.add] using this
      subst hs
      have hx : b < W.heap.size := by
        rw [Addr.add_mid, Addr.add_mid] at h0
        exact World.block_lt_of_cell? W _ h0
      refine .inr ⟨b, off, rfl, hx, fun i hi k v hv => ?_⟩
      have hc := (World.cells?_some (hf i (by omega)).2).2.2
      have hli := hel i (by omega)
      have e : ((List.range len).map f).getD i Shn.zero = f i := by simp [hi]
      rw [e] at hv
      have hk : k < 99 := by
        have := (List.getElem?_eq_some_iff.1 hv).1
        rw [hli] at this
        exact this
      have := hc k hk
      rw [Addr.add_mid, Addr.add_mid] at this
      rw [this]
      exact hv
set_option maxHeartbeats 4000000 in
theorem open_answer {H : Type} {enc : TypeId × Value → H} {W : World} {base : Nat} {v : Value} {d : DataW H} {p : List MemPlace} (hv : Value.okWide Tryz.prog W .any base 49 v) (h : DataW.Trod enc Tryz.prog W 0 (fun _ => true) true 49 v d p) :
    ∃ (sa : Option Addr) (sn sc : Nat) (l : List Shn) (x k : List Int) (a : Option Addr) (n c : Nat) (ds : List (List Int)), v = .agg (ansC (.slice sa sn sc) x k (.slice a n c)).toArray ∧ ShnsAt W sa sn sc l ∧ Dg x ∧ Dg k ∧ DigsAt W a n c ds := by
  obtain ⟨f0, f1, f2, hu, t0, t1, t2, o0, o1, o2⟩ : ∃ f0 f1 f2 : Field, Tryz.prog.underlying 49 = some (.struct #[f0, f1, f2]) ∧ f0.type = 45 ∧ f1.type = 25 ∧ f2.type = 47 ∧ f0.offset = 0 ∧ f1.offset = 1 ∧ f2.offset = 33 := ⟨_, _, _, Tryz.underlying49, rfl, rfl, rfl, rfl, rfl, rfl⟩
  have c32 : Tryz.prog.cellsOf 25 = 32 := by kernel_rfl
  have c33 : Tryz.prog.cellsOf 47 = 33 := by kernel_rfl
  have c66 : Tryz.prog.cellsOf 49 = 66 := by kernel_rfl
  have c1 : Tryz.prog.cellsOf 5 = 1 := by kernel_rfl
  have cl : Tryz.prog.cellsOf 45 = 1 := by kernel_rfl
  unfold Value.okWide at hv
  rw [hu] at hv
  obtain ⟨cs, rfl, hsz, _⟩ := hv
  obtain ⟨fuel, hf⟩ := h
  have hf : DataW.trod enc Tryz.prog W 0 (fun _ => true) true fuel 49 cs.toList = some (d, p) := hf
  obtain ⟨y0, y1, y2, n, _, hl, q0, q1, q2⟩ := Go.Deep.trod_struct3 hu hf
  rw [t0, o0, cl] at q0
  rw [t1, o1, c32] at q1
  rw [t2, o2, c33] at q2
  obtain ⟨sa, sn, sc, l, e0, k0⟩ := shns_cells q0
  obtain ⟨x, k1, e1⟩ := digest_cells Tryz.underlying25 Tryz.underlying5 c32 c1 q1
  obtain ⟨k, a, m, c, ds, e2, k2, k3⟩ := proof_cells q2
  refine ⟨sa, sn, sc, l, x, k, a, m, c, ds, ?_, k0, k1, k2, k3⟩
  refine congrArg Value.agg ?_
  apply Array.ext'
  rw [c66] at hl
  unfold ansC
  rw [← e1, ← e2]
  have h3 : cs.toList = (cs.toList.drop 0).take 1 ++ ((cs.toList.drop 1).take 32 ++ (cs.toList.drop 33).take 33) := by
    rw [List.take_of_length_le (l := cs.toList.drop 33) (by rw [List.length_drop]; omega)]
    rw [show cs.toList.drop 33 = (cs.toList.drop 1).drop 32 by rw [List.drop_drop], List.take_append_drop, List.drop_zero, List.take_append_drop]
  rw [e0] at h3
  exact h3
end Go.Proofs.YtkakoiaahgchmaaGreatDoor
