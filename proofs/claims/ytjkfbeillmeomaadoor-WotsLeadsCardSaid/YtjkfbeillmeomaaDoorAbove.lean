/-
  Layer 9: a level above another one.
-/
import Derived.Test.YtjkfbeillmeomaaDoorJoin
import Derived.Test.YtjkfbeillmeomaaDoorDrows
namespace Go.Proofs.YtjkfbeillmeomaaDoor
open Go.ChangeShapes Go.WideShapes Go.ChangeAt Go.RowKit

theorem andNot_one : ∀ n : Fin 68, bits .andNot .i64 ((n.val : Nat) : Int) 1 = ((n.val - n.val % 2 : Nat) : Int) := by decide +kernel

/-- a digest is stored to a row -/
theorem wpList_store_dig {P : Program} {ops : Array Oper} {rest : List Oper} {op : Oper} {a : Act} {w : World} {Q : Exit → Act → World → Prop} (hgd : op.guard = none) (ty : TypeId) (x y : Operand) (ho : op.op = .store ty x y) (b j : Nat) (d : List Int) (hx : a.eval x = .pointer (some ⟨b, 0 + j * 32, none⟩)) (hy : a.eval y = .agg (d.map (Value.int .u8)).toArray)
    (ds : List (List Int)) (T : TypeId) (hk : Blk w b (dcs ds) T) (hds : ∀ d ∈ ds, Dg d) (hd : Dg d) (hj : j < ds.length) (hi : (P.info? ty).map (·.size) = some 32)
    (h : ∀ w', But b w w' → Blk w' b (dcs (ds.set j d)) T → wpList P ops Q rest (a.put op.dst undef) w') : wpList P ops Q (op :: rest) a w := by
  refine wpList_store_mid hgd ty x y ho b (0 + j * 32) (d.map (Value.int .u8)).toArray hx hy (fun k hk' => ⟨?_, hk.free _⟩) (by rw [hi, hd.size]) (ints_one _ _) ?_
  · rw [hd.size] at hk'
    rw [hk.cell, Array.getElem?_eq_getElem (by rw [dcs_size (Dg.lens hds)]; omega)]; rfl
  · rw [Nat.zero_add]
    exact h _ (But.setCells _ _ _ (But.of (Below.refl _ _))) (hk.set_dig hds hd hj)

def aboveZ (pub ad : List Int) (lev : Int) (ds : List (List Int)) : List (List Int) :=
  ((List.range (ds.length / 2)).map fun (i : Nat) => joinZ (ds.getD (2 * i) []) (ds.getD (2 * i + 1) []) pub (setAd ad lev i 0)) ++ ds.drop (ds.length - ds.length % 2)
theorem aboveZ_length (pub ad : List Int) (lev : Int) (ds : List (List Int)) : (aboveZ pub ad lev ds).length = (ds.length + 1) / 2 := by
  simp only [aboveZ, List.length_append, List.length_map, List.length_range, List.length_drop]
  omega
theorem aboveZ_each {pub ad : List Int} {lev : Int} {ds : List (List Int)} (h : ∀ d ∈ ds, Dg d) : ∀ d ∈ aboveZ pub ad lev ds, Dg d := fun d hd => by
  unfold aboveZ at hd
  rcases List.mem_append.1 hd with hd | hd
  · obtain ⟨i, _, rfl⟩ := List.mem_map.1 hd
    exact Dg.join _ _ _ _
  · exact h d (List.mem_of_mem_drop hd)
/-- the row, while it is filled -/
def fillZ (pub ad : List Int) (lev : Int) (ds : List (List Int)) (k : Nat) : List (List Int) :=
  ((List.range k).map fun (i : Nat) => joinZ (ds.getD (2 * i) []) (ds.getD (2 * i + 1) []) pub (setAd ad lev i 0)) ++ (List.replicate (ds.length / 2 - k) zD ++ ds.drop (ds.length - ds.length % 2))
theorem fillZ_length {pub ad : List Int} {lev : Int} {ds : List (List Int)} {k : Nat} (h : k ≤ ds.length / 2) : (fillZ pub ad lev ds k).length = (ds.length + 1) / 2 := by
  simp only [fillZ, List.length_append, List.length_map, List.length_range, List.length_drop, List.length_replicate]
  omega
theorem fillZ_each {pub ad : List Int} {lev : Int} {ds : List (List Int)} (h : ∀ d ∈ ds, Dg d) (k : Nat) : ∀ d ∈ fillZ pub ad lev ds k, Dg d := fun d hd => by
  unfold fillZ at hd
  rcases List.mem_append.1 hd with hd | hd
  · obtain ⟨i, _, rfl⟩ := List.mem_map.1 hd
    exact Dg.join _ _ _ _
  · rcases List.mem_append.1 hd with hd | hd
    · exact zRow _ d hd
    · exact h d (List.mem_of_mem_drop hd)
theorem fillZ_set {pub ad : List Int} {lev : Int} {ds : List (List Int)} {k : Nat} (h : k < ds.length / 2) : (fillZ pub ad lev ds k).set k (joinZ (ds.getD (2 * k) []) (ds.getD (2 * k + 1) []) pub (setAd ad lev k 0)) = fillZ pub ad lev ds (k + 1) := by
  unfold fillZ
  rw [List.set_append_right _ _ (by simp), show ds.length / 2 - k = (ds.length / 2 - (k + 1)) + 1 by omega, List.replicate_succ, List.range_succ, List.map_append]
  simp
theorem fillZ_zero (pub ad : List Int) (lev : Int) (ds : List (List Int)) : fillZ pub ad lev ds 0 = (List.replicate ((ds.length + 1) / 2) zD).take (ds.length / 2) ++ ((((ds.drop (ds.length - ds.length % 2)).take (ds.length % 2)).take (Nat.min (ds.length % 2) (ds.length % 2))) ++ (List.replicate ((ds.length + 1) / 2) zD).drop (ds.length / 2 + Nat.min (ds.length % 2) (ds.length % 2))) := by
  unfold fillZ
  have hm : Nat.min (ds.length % 2) (ds.length % 2) = ds.length % 2 := Nat.min_self _
  have hd : (ds.drop (ds.length - ds.length % 2)).length = ds.length % 2 := by rw [List.length_drop]; omega
  rw [hm, List.take_replicate, List.drop_replicate, List.take_take, List.take_of_length_le (by rw [hd]; omega), show (ds.length + 1) / 2 - (ds.length / 2 + ds.length % 2) = 0 by omega, show min (ds.length / 2) ((ds.length + 1) / 2) = ds.length / 2 by omega]
  simp
theorem fillZ_done (pub ad : List Int) (lev : Int) (ds : List (List Int)) : fillZ pub ad lev ds (ds.length / 2) = aboveZ pub ad lev ds := by
  unfold fillZ aboveZ
  simp

set_option maxHeartbeats 4000000 in
set_option maxRecDepth 100000 in
theorem above_any (na : Option Addr) (n nc : Nat) (ds : List (List Int)) (pub ad : List Int) (lev : Int) (w : World) (hN : DigsAt w na n nc ds) (hn : 2 ≤ n ∧ n ≤ 67) (hpub : Dg pub) (had : Aw ad) (hlev : 0 ≤ lev ∧ lev < 4294967296) (tab : ShaTab w) :
    Calls Tryd.prog 80 #[.slice na n nc, (.agg (pub.map (Value.int .u8)).toArray), (.agg (ad.map (Value.int .u32)).toArray), .int .u32 lev] w fun e w' => ∃ v, e = .returned v ∧ Below w.heap.size w w' ∧ OwnD w' w.heap.size 23 v (aboveZ pub ad lev ds) := by
  have HN := hid hN
  have hle := hN.le
  have hmx := hN.max
  have Hnl := hid hN.length
  have hand := andNot_one ⟨n, by omega⟩
  obtain ⟨hn0, hn1⟩ := hn
  clear hN
  have b1 := (Below.refl w.heap.size w).alloc (Nat.le_refl _) (.cells (pub.map (Value.int .u8)).toArray 23 (0, 0))
  have b2 := b1.alloc b1.size (.cells (ad.map (Value.int .u32)).toArray 26 (0, 0))
  have Kp := hid ((Blk.new (w := w) (n := w.heap.size) rfl (pub.map (Value.int .u8)).toArray 23).old (.cells (ad.map (Value.int .u32)).toArray 26 (0, 0)))
  have Kad := hid (Blk.new (w := (w.alloc (.cells (pub.map (Value.int .u8)).toArray 23 (0, 0)))) (n := w.heap.size + 1) (by simp only [World.size_alloc]) (ad.map (Value.int .u32)).toArray 26)
  have Hb := hid b2
  have HzA := hid zsize
  have hbz := b2.size
  have Hbs := hid (show w.heap.size + 1 + 1 = ((w.alloc (.cells (pub.map (Value.int .u8)).toArray 23 (0, 0))).alloc (.cells (ad.map (Value.int .u32)).toArray 26 (0, 0))).heap.size by simp only [World.size_alloc])
  have Htab := hid tab
  clear b1 b2 tab
  have hb2 := Hb.out
  have b3 := hb2.alloc hb2.size (.cells (dcs (List.replicate ((n + 1) / 2) zD)) 23 (0, 0))
  have Kg3 := hid (Blk.new (w := ((w.alloc (.cells (pub.map (Value.int .u8)).toArray 23 (0, 0))).alloc (.cells (ad.map (Value.int .u32)).toArray 26 (0, 0)))) (n := (w.heap.size + 1 + 1)) (by simp only [World.size_alloc]) (dcs (List.replicate ((n + 1) / 2) zD)) 23)
  have Kp3 := hid (Kp.out.old (.cells (dcs (List.replicate ((n + 1) / 2) zD)) 23 (0, 0)))
  have Ka3 := hid (Kad.out.old (.cells (dcs (List.replicate ((n + 1) / 2) zD)) 23 (0, 0)))
  have Hb3 := hid b3
  have HN3 := hid (HN.out.below b3)
  clear b3 hb2
  have hmk := fun W : World => make_digs ((n + 1) / 2) (((n : Int) + 1) / 2) (by omega) (by omega) W
  have hc1 : ∀ W : World, (Instr.slice 28 (.slice (some ⟨(w.heap.size + 1 + 1), 0, none⟩) ((n + 1) / 2) ((n + 1) / 2)) (some (.int .i64 ((n : Int) / 2))) none none).run Tryd.prog W = .ok (.slice (cutD (some ⟨(w.heap.size + 1 + 1), 0, none⟩) (n / 2) ((n + 1) / 2)) (n % 2) ((n + 1) / 2 - n / 2)) W := fun W => by
    have := run_cutd_l (P := Tryd.prog) Tryd.underlying28 size_digest (some ⟨(w.heap.size + 1 + 1), 0, none⟩) ((n + 1) / 2) ((n + 1) / 2) ((n : Int) / 2) W (by omega) (by omega)
    rw [show ((n : Int) / 2).toNat = n / 2 by omega, show (n + 1) / 2 - n / 2 = n % 2 by omega] at this
    rw [this, show (n + 1) / 2 - n / 2 = n % 2 by omega]
  have hc2 : ∀ W : World, (Instr.slice 28 (.slice na n nc) (some (.int .i64 ((n - n % 2 : Nat) : Int))) none none).run Tryd.prog W = .ok (.slice (cutD na (n - n % 2) nc) (n % 2) (nc - (n - n % 2))) W := fun W => by
    have := run_cutd_l (P := Tryd.prog) Tryd.underlying28 size_digest na n nc ((n - n % 2 : Nat) : Int) W (by omega) (by omega)
    rw [Int.toNat_natCast, show n - (n - n % 2) = n % 2 by omega] at this
    exact this
  have hda : 0 < n % 2 → cutD (some ⟨(w.heap.size + 1 + 1), 0, none⟩) (n / 2) ((n + 1) / 2) = some ⟨(w.heap.size + 1 + 1), n / 2 * 32, none⟩ := fun h => by
    unfold cutD
    rw [if_neg (by omega), Option.map_some, Addr.add_mid, Nat.zero_add]
  have hDt := HN3.out.cut (n - n % 2) n (by omega) (Nat.le_refl _)
  rw [show n - (n - n % 2) = n % 2 by omega] at hDt
  have HDt := hid hDt
  have Hda := hid hda
  clear hDt hda
  generalize hdA : cutD (some ⟨(w.heap.size + 1 + 1), 0, none⟩) (n / 2) ((n + 1) / 2) = dA at *
  generalize hsA : cutD na (n - n % 2) nc = sA at *
  clear hdA hsA
  go_enter Tryd.func80, Tryd.ntmps80
  go_wp2_with fail
  refine wp_region_flow 10 (List.range 10) [] [] (by kernel_rfl) (by kernel_rfl) ?_
  apply Exists.intro
  refine ⟨fun w0 hb0 hF0 => ?_, ?_⟩
  · simp only [pick, List.range, List.range.loop, List.getElem?_toArray, List.getElem?_cons_succ, List.getElem?_cons_zero, Option.toList_some, List.cons_append, List.nil_append]
    repeat (go_big_quiet_step (fail))
    exact wpQuiet_nil rfl
  refine AlChk.nil ?_
  refine Walk.fin fun w1 h1 _ _ => ?_
  simp only [List.drop_succ_cons, List.drop_zero]

  have Kg1 := hid (Kg3.out.below h1)
  have Kp1 := hid (Kp3.out.below h1)
  have Ka1 := hid (Ka3.out.below h1)
  have HB1 := hid (Below.on Hb3.out h1)
  have HD1 := hid (HDt.out.below h1)
  clear h1
  go_wp2_with (
    refine wpList_copy_digs rfl _ _ _ _ rfl 23 Tryd.underlying28 size_digest (w.heap.size + 1 + 1) (n / 2) (n % 2) ((n + 1) / 2 - n / 2) dA rfl Hda.out sA (n % 2) (nc - (n - n % 2)) rfl _ _ 23 Kg1.out (zRow _) HD1.out (by rw [List.length_replicate]; omega) ?_
    intro w2 hb2 hk2
    have Kg2 := hid hk2
    have HB2 := hid (hb2.below HB1.out HB1.out.size (by omega))
    have Kp2 := hid (hb2.blk Kp1.out (by omega))
    have Ka2 := hid (hb2.blk Ka1.out (by omega))
    clear hb2 hk2)
  have HF0 := hid (fillZ_zero pub ad lev ds)
  rw [Hnl.out] at HF0
  rw [← HF0.out] at Kg2
  have HE := hid HN.out.each
  go_loopw [30] (fun v wr => ∃ k : Nat, k ≤ n / 2 ∧ v = .int .i64 k ∧ Blk wr (w.heap.size + 1 + 1) (dcs (fillZ pub ad lev ds k)) 23 ∧ Blk wr (w.heap.size) (pub.map (Value.int .u8)).toArray 23 ∧ Blk wr (w.heap.size + 1) (ad.map (Value.int .u32)).toArray 26 ∧ Below w.heap.size w wr) (fun v _ => n / 2 - (intOf v).toNat)
  case atStart => exact ⟨0, Nat.zero_le _, rfl, Kg2.out, Kp2.out, Ka2.out, HB2.out⟩
  case round =>
    clear Kg2 Kp2 Ka2 HB2 Kg1 Kp1 Ka1 HB1 HD1 Kg3 Kp3 Ka3 Hb3 HDt
    obtain ⟨k, hk, rfl, kg, kp, ka, bel⟩ := hrel
    have Kg := hid kg
    have Kp := hid kp
    have Ka := hid ka
    have HB := hid bel
    clear kg kp ka bel
    by_cases hlt : k < n / 2
    · have hkl : k < ds.length / 2 := by rw [Hnl.out]; exact hlt
      have HS := hid (fillZ_set (pub := pub) (ad := ad) (lev := lev) hkl)
      have HDk := hid (HN.out.get (j := 2 * k) (by omega))
      have HDl := hid (HN.out.get (j := 2 * k + 1) (by omega))
      have HNr := HN.out.below HB.out
      obtain ⟨xs, xo, rfl, hxs, hcell⟩ := HNr.at_ (by omega)
      have Hck := hid (hcell (2 * k) (by omega))
      have Hcl := hid (hcell (2 * k + 1) (by omega))
      have HJ := hid (Dg.join (ds.getD (2 * k) []) (ds.getD (2 * k + 1) []) pub (setAd ad lev k 0))
      have HAt := hid (had.set hlev (show 0 ≤ (k : Int) ∧ (k : Int) < 4294967296 by omega) (show (0 : Int) ≤ 0 ∧ (0 : Int) < 4294967296 by omega))
      have hfl := fillZ_length (pub := pub) (ad := ad) (lev := lev) (Nat.le_of_lt hkl)
      rw [Hnl.out] at hfl
      have Hfl := hid hfl
      clear hcell HNr hfl
      generalize hX : ds.getD (2 * k) [] = X at *
      generalize hY : ds.getD (2 * k + 1) [] = Y at *
      generalize hJ : joinZ X Y pub (setAd ad lev k 0) = J at *
      go_wp2_with fail
      refine wp_region_flow 21 (List.range 21) [] [] (by kernel_rfl) (by kernel_rfl) ?_
      apply Exists.intro
      refine ⟨fun w0 hb0 hF0 => ?_, ?_⟩
      · skip
        have x0 : ∀ w', (∃ x : Ext w0, w' = x.at_) → ∃ T, Blk w' (w.heap.size) (pub.map (Value.int .u8)).toArray T := fun w' ⟨x, hx⟩ => ⟨_, hx ▸ (Kp.out.below hb0).below x.same⟩
        have x1 : ∀ w', (∃ x : Ext w0, w' = x.at_) → ∃ T, Blk w' (w.heap.size + 1) (ad.map (Value.int .u32)).toArray T := fun w' ⟨x, hx⟩ => ⟨_, hx ▸ (Ka.out.below hb0).below x.same⟩
        have x2 : ∀ w', (∃ x : Ext w0, w' = x.at_) → w'.rangeAt xs (xo + 2 * k * 32) (X.map (Value.int .u8)) := fun w' ⟨x, hx⟩ => hx ▸ rangeAt_below (rangeAt_below Hck.out hxs hb0) (Nat.lt_of_lt_of_le hxs hb0.size) x.same
        have x3 : ∀ w', (∃ x : Ext w0, w' = x.at_) → w'.rangeAt xs (xo + (2 * k + 1) * 32) (Y.map (Value.int .u8)) := fun w' ⟨x, hx⟩ => hx ▸ rangeAt_below (rangeAt_below Hcl.out hxs hb0) (Nat.lt_of_lt_of_le hxs hb0.size) x.same
        have c0 := fun e : Ext w0 => at_list ad lev k e.at_ had
        have c1 := fun e : Ext w0 => ljoin_any X Y pub (setAd ad lev k 0) e.at_ HDk.out HDl.out hpub HAt.out ((Htab.out.below (Below.on HB.out hb0)).below e.same)
        rw [hJ] at c1
        simp only [pick, List.range, List.range.loop, List.getElem?_toArray, List.getElem?_cons_succ, List.getElem?_cons_zero, Option.toList_some, List.cons_append, List.nil_append]
        repeat (first | (go_big_quiet_want; refine quiet_load_blk 23 _ rfl (w.heap.size) rfl _ x0 _ Tryd.underlying23 rfl 32 size_digest hpub.size ?_; go_big_quiet_on; simp only [Act.put, List.setIfInBounds_toArray, List.set_cons_zero, List.set_cons_succ]) | (go_big_quiet_want; refine quiet_load_blk 26 _ rfl (w.heap.size + 1) rfl _ x1 _ Tryd.underlying26 rfl 8 sizeAdrs had.size ?_; go_big_quiet_on; simp only [Act.put, List.setIfInBounds_toArray, List.set_cons_zero, List.set_cons_succ]) | (go_big_quiet_want; refine quiet_index_digs 28 _ _ rfl Tryd.underlying28 size_digest xs xo n nc rfl _ _ rfl (2 * k) (by omega) (by omega) ?_; go_big_quiet_on; simp only [Act.put, List.setIfInBounds_toArray, List.set_cons_zero, List.set_cons_succ]) | (go_big_quiet_want; refine quiet_index_digs 28 _ _ rfl Tryd.underlying28 size_digest xs xo n nc rfl _ _ rfl (2 * k + 1) (by omega) (by omega) ?_; go_big_quiet_on; simp only [Act.put, List.setIfInBounds_toArray, List.set_cons_zero, List.set_cons_succ]) | (go_big_quiet_want; refine quiet_index_digs 28 _ _ rfl Tryd.underlying28 size_digest (w.heap.size + 1 + 1) 0 ((n + 1) / 2) ((n + 1) / 2) rfl _ _ rfl k rfl (by omega) ?_; go_big_quiet_on; simp only [Act.put, List.setIfInBounds_toArray, List.set_cons_zero, List.set_cons_succ]) | (go_big_quiet_want; refine quiet_load_mid 23 _ rfl xs (xo + 2 * k * 32) rfl _ x2 _ Tryd.underlying23 rfl (by rw [List.length_map, HDk.out.len]; exact size_digest) ?_; go_big_quiet_on; simp only [Act.put, List.setIfInBounds_toArray, List.set_cons_zero, List.set_cons_succ]) | (go_big_quiet_want; refine quiet_load_mid 23 _ rfl xs (xo + (2 * k + 1) * 32) rfl _ x3 _ Tryd.underlying23 rfl (by rw [List.length_map, HDl.out.len]; exact size_digest) ?_; go_big_quiet_on; simp only [Act.put, List.setIfInBounds_toArray, List.set_cons_zero, List.set_cons_succ]) | go_big_quiet_step (first | (go_at_call 32; with_reducible exact Calls.ext (c0 _)) | (go_at_call 29; with_reducible exact Calls.ext (c1 _))))

        exact wpQuiet_nil rfl
      refine AlChk.nil ?_
      refine Walk.fin fun w5 h5 _ _ => ?_
      simp only [List.drop_succ_cons, List.drop_zero]
      have Kg5 := hid (Kg.out.below h5)
      have Kp5 := hid (Kp.out.below h5)
      have Ka5 := hid (Ka.out.below h5)
      have HB5 := hid (Below.on HB.out h5)
      clear h5
      go_wp2_with (
        refine wpList_store_dig rfl _ _ _ rfl (w.heap.size + 1 + 1) k J rfl rfl _ 23 Kg5.out (fillZ_each HE.out k) HJ.out (by rw [Hfl.out]; omega) size_digest ?_
        intro w6 hb6 hk6
        rw [HS.out] at hk6
        have H6 := hid (And.intro hk6 (And.intro (hb6.blk Kp5.out (by omega)) (And.intro (hb6.blk Ka5.out (by omega)) (hb6.below HB5.out HB5.out.size (by omega)))))
        clear hb6 hk6)
      exact ⟨⟨k + 1, by omega, by go_num, H6.out.1, H6.out.2.1, H6.out.2.2.1, H6.out.2.2.2⟩, by simp [intOf]; omega⟩
    · have hkn : k = n / 2 := by omega
      subst hkn
      have hdn := fillZ_done pub ad lev ds
      rw [Hnl.out] at hdn
      rw [hdn] at Kg
      have hal := aboveZ_length pub ad lev ds
      rw [Hnl.out] at hal
      have Hres := hid (And.intro HB.out (OwnD.of_blk (base := w.heap.size) Kg.out (by omega) hal (by omega) (aboveZ_each HE.out)))
      clear hdn hal Kg Kp Ka HB
      go_wp2_with fail
      go_ret
      exact ⟨_, rfl, Hres.out⟩
end Go.Proofs.YtjkfbeillmeomaaDoor
