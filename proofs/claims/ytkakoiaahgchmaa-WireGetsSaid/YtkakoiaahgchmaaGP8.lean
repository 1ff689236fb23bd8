/-
  Layer 20: WirePuts.
-/
import Derived.Test.YtkakoiaahgchmaaGP7
namespace Go.Proofs.Ytkakoiaahgchmaa
open Go.ChangeShapes Go.WideShapes Go.ChangeAt Go.RowKit

theorem putZ_small {i : Int} {r : List Int} {ps : List Prt} (hr : Dg r) (hd : ∀ j, j < ps.length → (∀ d ∈ (ps.getD j ([], [])).1, Dg d) ∧ (∀ d ∈ (ps.getD j ([], [])).2, Dg d)) : ∀ x ∈ putZ i r ps, 0 ≤ x ∧ x < 256 := by
  intro x hx
  unfold putZ at hx
  rcases List.mem_append.1 hx with h | h
  · rcases List.mem_append.1 h with h | h
    · exact be_small _ _ x h
    · exact hr.small x h
  · unfold ptsB at h
    obtain ⟨l, hl, hxl⟩ := List.mem_flatten.1 h
    obtain ⟨p, hp, rfl⟩ := List.mem_map.1 hl
    obtain ⟨j, hj, rfl⟩ := List.getElem_of_mem hp
    have dd := hd j hj
    rw [List.getD_eq_getElem?_getD, List.getElem?_eq_getElem hj] at dd
    unfold ptB at hxl
    rcases List.mem_append.1 hxl with h | h
    · obtain ⟨d, hd1, hd2⟩ := List.mem_flatten.1 h
      exact (dd.1 d hd1).small x hd2
    · obtain ⟨d, hd1, hd2⟩ := List.mem_flatten.1 h
      exact (dd.2 d hd1).small x hd2
set_option maxHeartbeats 4000000 in
set_option maxRecDepth 100000 in
theorem puts_many (L V i : Int) (r : List Int) (a : Option Addr) (n c : Nat) (ps : List Prt) (w : World) (_hi64 : -9223372036854775808 ≤ i ∧ i < 9223372036854775808) (hr : Dg r) (hP : PartsAt w a n c ps) (hfw : fewP ps = false) :
    Calls Try.prog 3 #[.agg (shC L V), .agg (sigC i r (.slice a n c)).toArray] w fun e w' => e = .returned (.bool true) ∧ Below w.heap.size w w' := by
  have b1 := (Below.refl w.heap.size w).alloc (Nat.le_refl _) (.cells (shC L V) 23 (0, 0))
  have b2 := b1.alloc b1.size (.cells (sigC i r (.slice a n c)).toArray 28 (0, 0))
  have Ksh := hid ((Blk.new (w := w) (n := w.heap.size) rfl (shC L V) 23).old (.cells (sigC i r (.slice a n c)).toArray 28 (0, 0)))
  have Kg := hid (Blk.new (w := (w.alloc (.cells (shC L V) 23 (0, 0)))) (n := w.heap.size + 1) (by simp only [World.size_alloc]) (sigC i r (.slice a n c)).toArray 28)
  have Hb := hid b2
  have hbz := b2.size
  have Hbs := hid (show w.heap.size + 1 + 1 = ((w.alloc (.cells (shC L V) 23 (0, 0))).alloc (.cells (sigC i r (.slice a n c)).toArray 28 (0, 0))).heap.size by simp only [World.size_alloc])
  clear b1 b2 
  have HP := hid hP
  have FE := hid (fun (W : World) (h : PartsAt W a n c ps) => reffew_any i r a n c ps W hr h)
  rw [hfw] at FE
  clear hP
  go_enter Try.func3, Try.ntmps3
  go_wp2_with (refine wpList_load_blk rfl 28 _ rfl (w.heap.size + 1) rfl _ 28 Kg.out _ Try.underlying28 rfl 34 size_sig (sigC_size hr) ?_)
  refine (FE.out _ (HP.out.below Hb.out)).mono ?_
  rintro e w21 ⟨rfl, bw21⟩
  have HBw21 := hid (Below.on Hb.out bw21)
  have hsw21 := HBw21.out.size
  have Kshw21 := hid (Ksh.out.below bw21)
  have Kgw21 := hid (Kg.out.below bw21)
  clear bw21
  go_wp2_with fail
  refine (knows20 _).mono ?_
  rintro e w22 ⟨rfl, bw22⟩
  have HBw22 := hid (Below.on HBw21.out bw22)
  have hsw22 := HBw22.out.size
  have Kshw22 := hid (Kshw21.out.below bw22)
  have Kgw22 := hid (Kgw21.out.below bw22)
  clear bw22
  go_wp2_with fail
  go_returns
  exact ⟨by first | rfl | simp, HBw22.out⟩
set_option maxHeartbeats 4000000 in
set_option maxRecDepth 100000 in
theorem puts_wrong (L V i : Int) (r : List Int) (a : Option Addr) (n c : Nat) (ps : List Prt) (w : World) (_hi64 : -9223372036854775808 ≤ i ∧ i < 9223372036854775808) (hr : Dg r) (hP : PartsAt w a n c ps) (hfw : fewP ps = true) (hrt : rightS L V = false) :
    Calls Try.prog 3 #[.agg (shC L V), .agg (sigC i r (.slice a n c)).toArray] w fun e w' => e = .returned (.bool true) ∧ Below w.heap.size w w' := by
  have b1 := (Below.refl w.heap.size w).alloc (Nat.le_refl _) (.cells (shC L V) 23 (0, 0))
  have b2 := b1.alloc b1.size (.cells (sigC i r (.slice a n c)).toArray 28 (0, 0))
  have Ksh := hid ((Blk.new (w := w) (n := w.heap.size) rfl (shC L V) 23).old (.cells (sigC i r (.slice a n c)).toArray 28 (0, 0)))
  have Kg := hid (Blk.new (w := (w.alloc (.cells (shC L V) 23 (0, 0)))) (n := w.heap.size + 1) (by simp only [World.size_alloc]) (sigC i r (.slice a n c)).toArray 28)
  have Hb := hid b2
  have hbz := b2.size
  have Hbs := hid (show w.heap.size + 1 + 1 = ((w.alloc (.cells (shC L V) 23 (0, 0))).alloc (.cells (sigC i r (.slice a n c)).toArray 28 (0, 0))).heap.size by simp only [World.size_alloc])
  clear b1 b2 
  have HP := hid hP
  have FE := hid (fun (W : World) (h : PartsAt W a n c ps) => reffew_any i r a n c ps W hr h)
  rw [hfw] at FE
  clear hP
  go_enter Try.func3, Try.ntmps3
  go_wp2_with (refine wpList_load_blk rfl 28 _ rfl (w.heap.size + 1) rfl _ 28 Kg.out _ Try.underlying28 rfl 34 size_sig (sigC_size hr) ?_)
  refine (FE.out _ (HP.out.below Hb.out)).mono ?_
  rintro e w21 ⟨rfl, bw21⟩
  have HBw21 := hid (Below.on Hb.out bw21)
  have hsw21 := HBw21.out.size
  have Kshw21 := hid (Ksh.out.below bw21)
  have Kgw21 := hid (Kg.out.below bw21)
  clear bw21
  go_wp2_with (first
     | (refine wpList_load_blk rfl 23 _ rfl (w.heap.size) rfl _ 23 Kshw21.out _ Try.underlying23 rfl 2 size_shape rfl ?_)
     | (refine wpList_load_blk rfl 28 _ rfl (w.heap.size + 1) rfl _ 28 Kgw21.out _ Try.underlying28 rfl 34 size_sig (sigC_size hr) ?_))
  refine (put_bad L V _ _ hrt).mono ?_
  rintro e w22 ⟨rfl, bw22⟩
  have HBw22 := hid (Below.on HBw21.out bw22)
  have hsw22 := HBw22.out.size
  have Kshw22 := hid (Kshw21.out.below bw22)
  have Kgw22 := hid (Kgw21.out.below bw22)
  clear bw22
  go_wp2_with (refine wpList_load_blk rfl 23 _ rfl (w.heap.size) rfl _ 23 Kshw22.out _ Try.underlying23 rfl 2 size_shape rfl ?_)
  refine (refright_b L V false hrt _).mono ?_
  rintro e w23 ⟨rfl, bw23⟩
  have HBw23 := hid (Below.on HBw22.out bw23)
  have hsw23 := HBw23.out.size
  have Kshw23 := hid (Kshw22.out.below bw23)
  have Kgw23 := hid (Kgw22.out.below bw23)
  clear bw23
  go_wp2_with fail
  refine (knows20 _).mono ?_
  rintro e w24 ⟨rfl, bw24⟩
  have HBw24 := hid (Below.on HBw23.out bw24)
  have hsw24 := HBw24.out.size
  have Kshw24 := hid (Kshw23.out.below bw24)
  have Kgw24 := hid (Kgw23.out.below bw24)
  clear bw24
  go_wp2_with fail
  go_returns
  exact ⟨by first | rfl | simp, HBw24.out⟩
set_option maxHeartbeats 4000000 in
set_option maxRecDepth 100000 in
theorem puts_form (L V i : Int) (r : List Int) (a : Option Addr) (n c : Nat) (ps : List Prt) (w : World) (hi64 : -9223372036854775808 ≤ i ∧ i < 9223372036854775808) (hr : Dg r) (hP : PartsAt w a n c ps) (hfw : fewP ps = true) (hrt : rightS L V = true) (hf : formB L V i ps = false) :
    Calls Try.prog 3 #[.agg (shC L V), .agg (sigC i r (.slice a n c)).toArray] w fun e w' => e = .returned (.bool true) ∧ Below w.heap.size w w' := by
  have b1 := (Below.refl w.heap.size w).alloc (Nat.le_refl _) (.cells (shC L V) 23 (0, 0))
  have b2 := b1.alloc b1.size (.cells (sigC i r (.slice a n c)).toArray 28 (0, 0))
  have Ksh := hid ((Blk.new (w := w) (n := w.heap.size) rfl (shC L V) 23).old (.cells (sigC i r (.slice a n c)).toArray 28 (0, 0)))
  have Kg := hid (Blk.new (w := (w.alloc (.cells (shC L V) 23 (0, 0)))) (n := w.heap.size + 1) (by simp only [World.size_alloc]) (sigC i r (.slice a n c)).toArray 28)
  have Hb := hid b2
  have hbz := b2.size
  have Hbs := hid (show w.heap.size + 1 + 1 = ((w.alloc (.cells (shC L V) 23 (0, 0))).alloc (.cells (sigC i r (.slice a n c)).toArray 28 (0, 0))).heap.size by simp only [World.size_alloc])
  clear b1 b2 
  have HP := hid hP
  have FE := hid (fun (W : World) (h : PartsAt W a n c ps) => reffew_any i r a n c ps W hr h)
  rw [hfw] at FE
  clear hP
  go_enter Try.func3, Try.ntmps3
  go_wp2_with (refine wpList_load_blk rfl 28 _ rfl (w.heap.size + 1) rfl _ 28 Kg.out _ Try.underlying28 rfl 34 size_sig (sigC_size hr) ?_)
  refine (FE.out _ (HP.out.below Hb.out)).mono ?_
  rintro e w21 ⟨rfl, bw21⟩
  have HBw21 := hid (Below.on Hb.out bw21)
  have hsw21 := HBw21.out.size
  have Kshw21 := hid (Ksh.out.below bw21)
  have Kgw21 := hid (Kg.out.below bw21)
  clear bw21
  go_wp2_with (first
     | (refine wpList_load_blk rfl 23 _ rfl (w.heap.size) rfl _ 23 Kshw21.out _ Try.underlying23 rfl 2 size_shape rfl ?_)
     | (refine wpList_load_blk rfl 28 _ rfl (w.heap.size + 1) rfl _ 28 Kgw21.out _ Try.underlying28 rfl 34 size_sig (sigC_size hr) ?_))
  refine (put_right L V i r a n c ps _ hrt hr (HP.out.below HBw21.out) hi64).mono ?_
  rintro e w30 ⟨⟨-, rfl⟩ | ⟨hx, -⟩, b30⟩
  rotate_left 1
  · rw [hf] at hx; cases hx
  have HBw30 := hid (Below.on HBw21.out b30)
  have hsw30 := HBw30.out.size
  have Kshw30 := hid (Kshw21.out.below b30)
  have Kgw30 := hid (Kgw21.out.below b30)
  clear b30
  go_wp2_with (refine wpList_load_blk rfl 23 _ rfl (w.heap.size) rfl _ 23 Kshw30.out _ Try.underlying23 rfl 2 size_shape rfl ?_)
  refine (refright_b L V true hrt _).mono ?_
  rintro e w22 ⟨rfl, bw22⟩
  have HBw22 := hid (Below.on HBw30.out bw22)
  have hsw22 := HBw22.out.size
  have Kshw22 := hid (Kshw30.out.below bw22)
  have Kgw22 := hid (Kgw30.out.below bw22)
  clear bw22
  go_wp2_with (first
     | (with_reducible show wpList _ _ _ (⟨some 23, _, _, _, _, _⟩ :: _) _ _; refine wpList_load_blk_if (by first | rfl | go_simp) 23 _ rfl (w.heap.size) rfl _ 23 Kshw22.out _ Try.underlying23 rfl 2 size_shape rfl ?_)
     | (with_reducible show wpList _ _ _ (⟨some 24, _, _, _, _, _⟩ :: _) _ _; refine wpList_load_blk_if (by first | rfl | go_simp) 28 _ rfl (w.heap.size + 1) rfl _ 28 Kgw22.out _ Try.underlying28 rfl 34 size_sig (sigC_size hr) ?_))
  have CF := refformed_right L V i r a n c ps w22 hrt hr (HP.out.below HBw22.out)
  rw [hf] at CF
  refine (CF).mono ?_
  rintro e w23 ⟨rfl, bw23⟩
  have HBw23 := hid (Below.on HBw22.out bw23)
  have hsw23 := HBw23.out.size
  have Kshw23 := hid (Kshw22.out.below bw23)
  have Kgw23 := hid (Kgw22.out.below bw23)
  clear bw23
  clear CF
  go_wp2_with fail
  refine (knows20 _).mono ?_
  rintro e w24 ⟨rfl, bw24⟩
  have HBw24 := hid (Below.on HBw23.out bw24)
  have hsw24 := HBw24.out.size
  have Kshw24 := hid (Kshw23.out.below bw24)
  have Kgw24 := hid (Kgw23.out.below bw24)
  clear bw24
  go_wp2_with fail
  go_returns
  exact ⟨by first | rfl | simp, HBw24.out⟩
theorem formB_spec' {L V i : Int} {ps : List Prt} (hf : formB L V i ps = true) : (∀ j, j < ps.length → (ps.getD j ([], [])).1.length = 67 ∧ (ps.getD j ([], [])).2.length ≤ 4) ∧ i < manyS L V ∧ ps.length ≤ 4 := by
  unfold formB at hf
  simp only [Bool.and_eq_true, decide_eq_true_eq] at hf
  obtain ⟨⟨⟨⟨h1, h2⟩, h3⟩, h4⟩, h5⟩ := hf
  have h6 : 1 ≤ L ∧ L ≤ 4 ∧ 1 ≤ V ∧ V ≤ 4 := by simpa [rightS] using h1
  exact ⟨fun j hj => ⟨(h5 j hj).1, by have := (h5 j hj).2; omega⟩, h3, by omega⟩
set_option maxHeartbeats 4000000 in
set_option maxRecDepth 100000 in
theorem puts_good (L V i : Int) (r : List Int) (a : Option Addr) (n c : Nat) (ps : List Prt) (w : World) (hi64 : -9223372036854775808 ≤ i ∧ i < 9223372036854775808) (hr : Dg r) (hP : PartsAt w a n c ps) (hfw : fewP ps = true) (hrt : rightS L V = true) (hf : formB L V i ps = true) :
    Calls Try.prog 3 #[.agg (shC L V), .agg (sigC i r (.slice a n c)).toArray] w fun e w' => e = .returned (.bool true) ∧ Below w.heap.size w w' := by
  have b1 := (Below.refl w.heap.size w).alloc (Nat.le_refl _) (.cells (shC L V) 23 (0, 0))
  have b2 := b1.alloc b1.size (.cells (sigC i r (.slice a n c)).toArray 28 (0, 0))
  have Ksh := hid ((Blk.new (w := w) (n := w.heap.size) rfl (shC L V) 23).old (.cells (sigC i r (.slice a n c)).toArray 28 (0, 0)))
  have Kg := hid (Blk.new (w := (w.alloc (.cells (shC L V) 23 (0, 0)))) (n := w.heap.size + 1) (by simp only [World.size_alloc]) (sigC i r (.slice a n c)).toArray 28)
  have Hb := hid b2
  have hbz := b2.size
  have Hbs := hid (show w.heap.size + 1 + 1 = ((w.alloc (.cells (shC L V) 23 (0, 0))).alloc (.cells (sigC i r (.slice a n c)).toArray 28 (0, 0))).heap.size by simp only [World.size_alloc])
  clear b1 b2 
  have HP := hid hP
  have FE := hid (fun (W : World) (h : PartsAt W a n c ps) => reffew_any i r a n c ps W hr h)
  rw [hfw] at FE
  clear hP
  go_enter Try.func3, Try.ntmps3
  go_wp2_with (refine wpList_load_blk rfl 28 _ rfl (w.heap.size + 1) rfl _ 28 Kg.out _ Try.underlying28 rfl 34 size_sig (sigC_size hr) ?_)
  refine (FE.out _ (HP.out.below Hb.out)).mono ?_
  rintro e w21 ⟨rfl, bw21⟩
  have HBw21 := hid (Below.on Hb.out bw21)
  have hsw21 := HBw21.out.size
  have Kshw21 := hid (Ksh.out.below bw21)
  have Kgw21 := hid (Kg.out.below bw21)
  clear bw21
  go_wp2_with (first
     | (refine wpList_load_blk rfl 23 _ rfl (w.heap.size) rfl _ 23 Kshw21.out _ Try.underlying23 rfl 2 size_shape rfl ?_)
     | (refine wpList_load_blk rfl 28 _ rfl (w.heap.size + 1) rfl _ 28 Kgw21.out _ Try.underlying28 rfl 34 size_sig (sigC_size hr) ?_))
  refine (put_right L V i r a n c ps _ hrt hr (HP.out.below HBw21.out) hi64).mono ?_
  rintro e w30 ⟨⟨hx, -⟩ | ⟨-, v30, rfl, o30⟩, b30⟩
  · rw [hf] at hx; cases hx
  obtain ⟨ta, tc, rfl, ht30, -⟩ := o30.text
  obtain ⟨Z, hZ⟩ : ∃ Z, putZ i r ps = Z := ⟨_, rfl⟩
  rw [hZ] at ht30 ⊢
  obtain ⟨N, hN⟩ : ∃ N, Z.length = N := ⟨_, rfl⟩
  rw [hN] at ht30 ⊢
  have HTb := hid ht30
  have o31 := o30.re HBw21.out.size
  clear o30 ht30 o31
  have HBw30 := hid (Below.on HBw21.out b30)
  have hsw30 := HBw30.out.size
  have Kshw30 := hid (Kshw21.out.below b30)
  have Kgw30 := hid (Kgw21.out.below b30)
  clear b30
  go_wp2_with (refine wpList_load_blk rfl 23 _ rfl (w.heap.size) rfl _ 23 Kshw30.out _ Try.underlying23 rfl 2 size_shape rfl ?_)
  refine (refright_b L V true hrt _).mono ?_
  rintro e w22 ⟨rfl, bw22⟩
  have bqw22 := bw22
  have HBw22 := hid (Below.on HBw30.out bw22)
  have hsw22 := HBw22.out.size
  have Kshw22 := hid (Kshw30.out.below bw22)
  have Kgw22 := hid (Kgw30.out.below bw22)
  clear bw22
  go_wp2_with (first
     | (with_reducible show wpList _ _ _ (⟨some 23, _, _, _, _, _⟩ :: _) _ _; refine wpList_load_blk_if (by first | rfl | go_simp) 23 _ rfl (w.heap.size) rfl _ 23 Kshw22.out _ Try.underlying23 rfl 2 size_shape rfl ?_)
     | (with_reducible show wpList _ _ _ (⟨some 24, _, _, _, _, _⟩ :: _) _ _; refine wpList_load_blk_if (by first | rfl | go_simp) 28 _ rfl (w.heap.size + 1) rfl _ 28 Kgw22.out _ Try.underlying28 rfl 34 size_sig (sigC_size hr) ?_))
  have CF := refformed_right L V i r a n c ps w22 hrt hr (HP.out.below HBw22.out)
  rw [hf] at CF
  refine (CF).mono ?_
  rintro e w23 ⟨rfl, bw23⟩
  have bqw23 := bw23
  have HBw23 := hid (Below.on HBw22.out bw23)
  have hsw23 := HBw23.out.size
  have Kshw23 := hid (Kshw22.out.below bw23)
  have Kgw23 := hid (Kgw22.out.below bw23)
  clear bw23
  clear CF
  go_wp2_with (refine wpList_load_blk rfl 23 _ rfl (w.heap.size) rfl _ 23 Kshw23.out _ Try.underlying23 rfl 2 size_shape rfl ?_)
  have hLV : 1 ≤ L ∧ L ≤ 4 ∧ 1 ≤ V ∧ V ≤ 4 := by simpa [rightS] using hrt
  obtain ⟨LN, hLN⟩ := Int.eq_ofNat_of_zero_le (show 0 ≤ L by omega)
  obtain ⟨VN, hVN⟩ := Int.eq_ofNat_of_zero_le (show 0 ≤ V by omega)
  have hdg : ∀ j, j < ps.length → (∀ d ∈ (ps.getD j ([], [])).1, Dg d) ∧ (∀ d ∈ (ps.getD j ([], [])).2, Dg d) := fun j hj => HP.out.dgs (by rw [← HP.out.length]; exact hj)
  have hgp := got_put (L := LN) (V := VN) (by rw [← hLN, ← hVN]; exact hf) hr hdg
  rw [hZ] at hgp
  obtain ⟨g1, g2, g3, g4⟩ := hgp
  have HTc := hid (HTb.out.below (Below.on (Below.on (Below.refl w30.heap.size w30) bqw22) bqw23))
  have hlt := (formB_spec' hf).2
  have CG := get_good L V ta N tc Z w23 hrt HTc.out (by rw [← hN, g1, hLN, hVN]; simp) (by rw [g2]; exact hlt.1)
  rw [g2, g3, hLN, hVN, Int.toNat_natCast, Int.toNat_natCast, g4, ← hLN, ← hVN] at CG
  refine CG.mono ?_
  rintro e w40 ⟨pa, pn, pc, rfl, hpt, b40⟩
  have HPt := hid hpt
  have hpn := hpt.length
  have hnl := HP.out.length
  obtain rfl : pn = n := by omega
  have HTd := hid (HTc.out.below b40)
  clear CG hpt
  have HBw40 := hid (Below.on HBw23.out b40)
  have hsw40 := HBw40.out.size
  have Kshw40 := hid (Kshw23.out.below b40)
  have Kgw40 := hid (Kgw23.out.below b40)
  clear b40
  go_wp2_with (
        refine wpList_store_blk rfl 28 _ _ rfl (w40.heap.size) (sigC i r (.slice pa pn pc)).toArray rfl rfl _ 28 (Blk.new rfl zSig.toArray _) 34 size_sig zSig_size (sigC_size hr) (sigC_ones _ _ _ rfl) ?_
        intro w41 hbw41 hkw41
        have hw41 := hbw41.below ((Below.refl w40.heap.size w40).alloc (Nat.le_refl _) _) (by simp only [World.size_alloc]; omega) (Nat.le_refl _)
        have HBw41 := hid (Below.on HBw40.out hw41)
        have hsw41 := HBw41.out.size
        have Kshw41 := hid (Kshw40.out.below hw41)
        have hlshw41 := Kshw40.out.lt
        have Kgw41 := hid (Kgw40.out.below hw41)
        have hlgw41 := Kgw40.out.lt
        have Ktw41 := hid hkw41
        have hfw41 : w.heap.size ≤ w40.heap.size := HBw40.out.size
        have HTe := hid (HTd.out.below hw41)
        have HPe := hid (HPt.out.below hw41)
        clear hbw41 hkw41 hw41)
  have hsm := putZ_small (i := i) hr hdg
  rw [hZ] at hsm
  have eZZ := eqStrB hsm hsm
  rw [decide_eq_true rfl] at eZZ
  have CP := hid (fun (W : World) (h : PartsAt W a pn c ps) => refput_any i r a pn c ps W hi64 hr h (by have := hlt.2; omega) (fun j hj => by have := (formB_spec' hf).1 j hj; omega))
  rw [hZ] at CP
  clear hdg hsm g1 g2 g3 g4 hlt
  refine wp_region_flow 22 [0, 1, 2] [] [(.c 3, [4, 5, 6, 7, 8, 9, 10, 11, 12, 13, 14, 15, 16, 17, 18, 19, 20, 21], [])] (by kernel_rfl) (by kernel_rfl) ?_
  apply Exists.intro
  refine ⟨fun w0 hb0 hF0 => ?_, ?_⟩
  · skip
    have x0 : ∀ w', (∃ x : Ext w0, w' = x.at_) → ∃ T, Blk w' (w.heap.size + 1) (sigC i r (.slice a pn c)).toArray T := fun w' ⟨x, hx⟩ => ⟨_, hx ▸ (Kgw41.out.below hb0).below x.same⟩
    have cx1 := conv_str (HTe.out.below hb0)
    simp only [pick, List.getElem?_toArray, List.getElem?_cons_succ, List.getElem?_cons_zero, Option.toList_some, List.cons_append, List.nil_append]
    repeat (first | (go_big_quiet_want; refine quiet_load_blk 28 _ rfl (w.heap.size + 1) rfl _ x0 _ Try.underlying28 rfl 34 size_sig (sigC_size hr) ?_; go_big_quiet_on; simp only [Act.put, List.setIfInBounds_toArray, List.set_cons_zero, List.set_cons_succ]) | go_big_quiet_step (fail))
    exact wpQuiet_nil rfl
  refine AlChk.nil ?_
  refine Walk.call rfl 11 #[.agg (sigC i r (.slice a pn c)).toArray] (TextV Z) (fun v w' w'' h k => h.below k) rfl (fun w1 hb1 hF1 => ⟨by go_simp, ?_⟩) ?_
  · skip
    refine (CP.out w1 (HP.out.below (Below.on HBw41.out hb1))).mono ?_
    rintro e w2 ⟨v', rfl, o', b'⟩
    exact ⟨_, rfl, b', TextV.of_own o'⟩
  rintro v0 w1 hb1 hF1 ⟨ra0, rn0, rc0, rfl, _⟩
  apply Exists.intro
  refine ⟨fun w0 hb0 hF0 => ?_, ?_⟩
  · skip
    have x0 : ∀ w', (∃ x : Ext w0, w' = x.at_) → ∃ T, Blk w' (w.heap.size + 1) (sigC i r (.slice a pn c)).toArray T := fun w' ⟨x, hx⟩ => ⟨_, hx ▸ (Kgw41.out.below hb0).below x.same⟩
    have x1 : ∀ w', (∃ x : Ext w0, w' = x.at_) → ∃ T, Blk w' (w40.heap.size) (sigC i r (.slice pa pn pc)).toArray T := fun w' ⟨x, hx⟩ => ⟨_, hx ▸ (Ktw41.out.below hb0).below x.same⟩
    have c0 := fun e : Ext w0 => sigsame_any i r a pn c pa pc ps e.at_ hr ((HP.out.below (Below.on HBw41.out hb0)).below e.same) ((HPe.out.below hb0).below e.same)
    have c1 := fun e : Ext w0 => knows20 e.at_
    have cx0 := conv_str (show TextV Z (.slice ra0 rn0 rc0) w0 from hF0.2).text
    simp only [pick, List.getElem?_toArray, List.getElem?_cons_succ, List.getElem?_cons_zero, Option.toList_some, List.cons_append, List.nil_append, Act.put, List.setIfInBounds_toArray, List.set_cons_zero, List.set_cons_succ]
    repeat (first | (go_big_quiet_want; refine quiet_load_blk 28 _ rfl (w.heap.size + 1) rfl _ x0 _ Try.underlying28 rfl 34 size_sig (sigC_size hr) ?_; go_big_quiet_on; simp only [Act.put, List.setIfInBounds_toArray, List.set_cons_zero, List.set_cons_succ]) | (go_big_quiet_want; refine quiet_load_blk 28 _ rfl (w40.heap.size) rfl _ x1 _ Try.underlying28 rfl 34 size_sig (sigC_size hr) ?_; go_big_quiet_on; simp only [Act.put, List.setIfInBounds_toArray, List.set_cons_zero, List.set_cons_succ]) | go_big_quiet_step (first | (go_at_call 12; with_reducible exact Calls.ext (c0 _)) | (go_at_call 6; with_reducible exact Calls.ext (c1 _))))
    exact wpQuiet_nil rfl
  refine AlChk.nil ?_
  refine Walk.fin fun w42 hw42 hFw42 _ => ?_
  simp only [List.drop_succ_cons, List.drop_zero]
  have HFw42 := hid hFw42
  have HBw42 := hid (Below.on HBw41.out hw42)
  have hsw42 := HBw42.out.size
  have Kshw42 := hid (Kshw41.out.below hw42)
  have Kgw42 := hid (Kgw41.out.below hw42)
  have Ktw42 := hid (Ktw41.out.below hw42)
  clear hw42 hFw42
  go_wp2_with fail
  go_returns
  exact ⟨by first | rfl | simp, HBw42.out⟩
theorem wirePuts_any (L V i : Int) (r : List Int) (a : Option Addr) (n c : Nat) (ps : List Prt) (w : World) (hi64 : -9223372036854775808 ≤ i ∧ i < 9223372036854775808) (hr : Dg r) (hP : PartsAt w a n c ps) :
    Calls Try.prog 3 #[.agg (shC L V), .agg (sigC i r (.slice a n c)).toArray] w fun e w' => e = .returned (.bool true) ∧ Below w.heap.size w w' := by
  cases hfw : fewP ps with
  | false => exact puts_many L V i r a n c ps w hi64 hr hP hfw
  | true =>
    cases hrt : rightS L V with
    | false => exact puts_wrong L V i r a n c ps w hi64 hr hP hfw hrt
    | true =>
      cases hf : formB L V i ps with
      | false => exact puts_form L V i r a n c ps w hi64 hr hP hfw hrt hf
      | true => exact puts_good L V i r a n c ps w hi64 hr hP hfw hrt hf
end Go.Proofs.Ytkakoiaahgchmaa
