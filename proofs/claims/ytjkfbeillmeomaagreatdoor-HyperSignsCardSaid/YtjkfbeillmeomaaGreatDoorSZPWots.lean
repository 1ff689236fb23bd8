/-
  Wots, WotsP, WotsQ, WotsR, WotsS: one text.
-/
import Derived.Test.YtjkfbeillmeomaaGreatDoorSZPLt
import Derived.Test.YtjkfbeillmeomaaGreatDoorSZMChain
import Derived.Test.YtjkfbeillmeomaaGreatDoorSZMDigits
namespace Go.Proofs.YtjkfbeillmeomaaGreatDoor
set_option maxRecDepth 100000
open Go.ChangeShapes Go.WideShapes Go.ChangeAt Go.RowKit
def rowW (P : Nat → List Int) : List (List Int) := (List.range 67).map P
def fillW (P : Nat → List Int) (k : Nat) : List (List Int) := (List.range k).map P ++ List.replicate (67 - k) zD
theorem fillW_length {P : Nat → List Int} {k : Nat} (h : k ≤ 67) : (fillW P k).length = 67 := by
  simp only [fillW, List.length_append, List.length_map, List.length_range, List.length_replicate]
  omega
theorem fillW_each {P : Nat → List Int} (h : ∀ i, Dg (P i)) (k : Nat) : ∀ d ∈ fillW P k, Dg d := fun d hd => by
  unfold fillW at hd
  rcases List.mem_append.1 hd with hd | hd
  · obtain ⟨i, _, rfl⟩ := List.mem_map.1 hd
    exact h i
  · exact zRow _ d hd
theorem fillW_set {P : Nat → List Int} {k : Nat} (h : k < 67) : (fillW P k).set k (P k) = fillW P (k + 1) := by
  unfold fillW
  rw [List.set_append_right _ _ (by simp), show 67 - k = (67 - (k + 1)) + 1 by omega, List.replicate_succ, List.range_succ, List.map_append]
  simp
theorem fillW_zero (P : Nat → List Int) : fillW P 0 = List.replicate 67 zD := by simp [fillW]
theorem fillW_done (P : Nat → List Int) : fillW P 67 = rowW P := by simp [fillW, rowW]
theorem rowW_length (P : Nat → List Int) : (rowW P).length = 67 := by simp [rowW]
theorem rowW_each {P : Nat → List Int} (h : ∀ i, Dg (P i)) : ∀ d ∈ rowW P, Dg d := fun d hd => by
  obtain ⟨i, _, rfl⟩ := List.mem_map.1 hd
  exact h i
theorem rowW_get (P : Nat → List Int) {i : Nat} (h : i < 67) : (rowW P).getD i [] = P i := by
  simp [rowW, h]
theorem enter_run {P : Program} {f : FuncId} {fn : Func} {c : Code} (hf : P.funcs[f]? = some fn) (hname : (fn.name == "runtime.NumGoroutine") = false) (hb : fn.body = some c) (args : Array Value) (w : World) :
    (callFunc f args).run P w = .ok (.enter f args) w := by
  have h1 : fn.name ≠ "runtime.NumGoroutine" := by simpa using hname
  simp [callFunc, hf, h1, hb]
set_option maxHeartbeats 4000000 in
theorem each_any (ad : List Int) (f : FuncId) (cap : Array Value) (P : Nat → List Int) (w : World) (had : Aw ad) (hP : ∀ i, Dg (P i)) (hf : ∀ (args : Array Value) (W : World), (callFunc f args).run Tryz.prog W = .ok (.enter f args) W)
    (hp : ∀ i, i < 67 → ∀ W, Below w.heap.size w W → Calls Tryz.prog f (#[.int .i64 i, (.agg ((setAd ad i 0 0).map (Value.int .u32)).toArray)] ++ cap) W fun e w' => e = .returned (.agg ((P i).map (Value.int .u8)).toArray) ∧ Below W.heap.size W w') :
    Calls Tryz.prog 60 #[(.agg (ad.map (Value.int .u32)).toArray), .func (.func f) #[] cap] w fun e w' => ∃ g, w.heap.size ≤ g ∧ e = .returned (.slice (some ⟨g, 0, none⟩) 67 67) ∧ Below w.heap.size w w' ∧ Blk w' g (dcs (rowW P)) 25 := by
  have b1 := (Below.refl w.heap.size w).alloc (Nat.le_refl _) (.cells (ad.map (Value.int .u32)).toArray 73 (0, 0))
  have Kad := hid (Blk.new (w := w) (n := w.heap.size) rfl (ad.map (Value.int .u32)).toArray 73)
  have Hb := hid b1
  have HzA := hid zsize
  have hbz := b1.size
  have Hbs := hid (show w.heap.size + 1 = (w.alloc (.cells (ad.map (Value.int .u32)).toArray 73 (0, 0))).heap.size by simp only [World.size_alloc])
  clear b1
  have hb2 := Hb.out
  have b3 := hb2.alloc hb2.size (.cells (dcs (List.replicate 67 zD)) 25 (0, 0))
  have Kg3 := hid (Blk.new (w := (w.alloc (.cells (ad.map (Value.int .u32)).toArray 73 (0, 0)))) (n := (w.heap.size + 1)) (by simp only [World.size_alloc]) (dcs (List.replicate 67 zD)) 25)
  have Ka3 := hid (Kad.out.old (.cells (dcs (List.replicate 67 zD)) 25 (0, 0)))
  have Hb3 := hid b3
  clear b3 hb2
  have hmk := fun W : World => make_digs 67 67 rfl (by omega) W
  rw [← fillW_zero P] at Kg3
  go_enter Tryz.func60, Tryz.ntmps60
  go_wp2_with fail
  go_loopw [10] (fun v wr => ∃ k : Nat, k ≤ 67 ∧ v = .int .i64 k ∧ Blk wr (w.heap.size + 1) (dcs (fillW P k)) 25 ∧ Blk wr (w.heap.size) (ad.map (Value.int .u32)).toArray 73 ∧ Below w.heap.size w wr) (fun v _ => 67 - (intOf v).toNat)
  case atStart => exact ⟨0, Nat.zero_le _, rfl, Kg3.out, Ka3.out, Hb3.out⟩
  case round =>
    clear Kg3 Ka3 Hb3
    obtain ⟨k, hk, rfl, kg, ka, bel⟩ := hrel
    have Kgwr := hid kg
    have Kadwr := hid ka
    have HBwr := hid bel
    have hswr := bel.size
    clear kg ka bel
    by_cases hlt : k < 67
    · skip
      have hc0 : (k : Int) < 67 := by omega
      have HS := hid (fillW_set (P := P) hlt)
      have HC := hid (hp k hlt)
      have HP := hid (hP k)
      generalize hX : P k = X at *
      go_wp2_with (refine wpList_load_blk rfl 73 _ rfl (w.heap.size) rfl _ 73 Kadwr.out _ Tryz.underlying73 rfl 8 sizeAdrs had.size ?_)
      refine (at_list ad k 0 _ had).mono ?_
      rintro e w21 ⟨rfl, bw21⟩
      have HBw21 := hid (Below.on HBwr.out bw21)
      have hsw21 := HBw21.out.size
      have Kadw21 := hid (Kadwr.out.below bw21)
      have Kgw21 := hid (Kgwr.out.below bw21)
      clear bw21
      go_wp2_with fail
      refine (HC.out _ HBw21.out).mono ?_
      rintro e w22 ⟨rfl, bw22⟩
      have HBw22 := hid (Below.on HBw21.out bw22)
      have hsw22 := HBw22.out.size
      have Kadw22 := hid (Kadw21.out.below bw22)
      have Kgw22 := hid (Kgw21.out.below bw22)
      clear bw22
      go_wp2_with (first
         | (refine wpList_index_digs rfl 61 _ _ rfl Tryz.underlying61 size_digest (w.heap.size + 1) 0 67 67 rfl _ _ rfl k rfl hlt ?_)
         | (
            refine wpList_store_dig rfl _ _ _ rfl (w.heap.size + 1) k X rfl rfl _ 25 Kgw22.out (fillW_each hP k) HP.out (by rw [fillW_length hk]; exact hlt) size_digest ?_
            intro w6 hb6 hk6
            rw [HS.out] at hk6
            have H6 := hid (And.intro hk6 (And.intro (hb6.blk Kadw22.out (by omega)) (hb6.below HBw22.out HBw22.out.size (by omega))))
            clear hb6 hk6))
      exact ⟨⟨k + 1, by omega, by go_num, H6.out.1, H6.out.2.1, H6.out.2.2⟩, by simp [intOf]; omega⟩
    · skip
      have hk7 : k = 67 := by omega
      subst hk7
      have hc0 : ¬ ((67 : Int) < 67) := by omega
      rw [fillW_done] at Kgwr
      go_wp2_with fail
      go_ret
      exact ⟨(w.heap.size + 1), by omega, rfl, HBwr.out, Kgwr.out⟩
end Go.Proofs.YtjkfbeillmeomaaGreatDoor
namespace Go.Proofs.YtjkfbeillmeomaaGreatDoor
set_option maxRecDepth 100000
open Go.ChangeShapes Go.WideShapes Go.ChangeAt Go.RowKit
section
variable {P : Program} {ops : Array Oper} {rest : List Oper} {op : Oper} {a : Act} {w : World} {Q : Exit → Act → World → Prop}
theorem run_load_one {ty : TypeId} {ad : Addr} {v : Value} (w' : World) (hk : w'.cell? ad = some v) (d : TypeDesc) (hu : P.underlying ty = some d) (hd : d.isRow = false) : (loadVar ty ad).run P w' = .ok v w' := by
  have hagg : (isAgg ty).run P w' = .ok false w' := by
    unfold isAgg
    rw [Sem.run_bind, run_underlying hu w']
    cases d <;> simp_all
  simp [loadVar, Sem.run_bind, hagg, hk]
theorem quiet_load_one {C : World → Prop} {K : Act → Prop} (ty : TypeId) (x : Operand) (ho : op.op = .load ty x) (ad : Addr) (hx : a.eval x = .pointer (some ad)) (v : Value)
    (hk : ∀ w', C w' → w'.cell? ad = some v) (d : TypeDesc) (hu : P.underlying ty = some d) (hd : d.isRow = false)
    (h : K (a.put op.dst v)) : op.quiet P a C K :=
  ⟨v, fun w' hw' => by
    unfold Oper.quietAt execOp
    simp only [ho, hx, Instr.loadAt, Instr.sureAddr, Sem.run_bind, Sem.run_pure, Result.andThen_ok, run_load_one w' (hk w' hw') d hu hd]
    simp [Oper.quietUpon], h⟩
end
theorem digits_small {m : List Int} (h : Dg m) : ∀ x ∈ digits m, 0 ≤ x ∧ x ≤ 15 := fun x hx => by
  have hs := short_bounds (dig m) (dig_small m h.small)
  unfold digits at hx
  rcases List.mem_append.1 hx with hx | hx
  · exact dig_small m h.small x hx
  · simp only [List.mem_cons, List.not_mem_nil, or_false] at hx
    omega
/-- The digit at a place. -/
def dgN (m : List Int) (i : Nat) : Nat := ((digits m).getD i 0).toNat
theorem dgN_le {m : List Int} (h : Dg m) (i : Nat) : dgN m i ≤ 15 := by
  unfold dgN
  by_cases hi : i < (digits m).length
  · rw [List.getD_eq_getElem?_getD, List.getElem?_eq_getElem hi, Option.getD_some]
    have := digits_small h _ (List.getElem_mem hi)
    omega
  · rw [List.getD_eq_getElem?_getD, List.getElem?_eq_none (by omega), Option.getD_none]
    omega
theorem dgN_eq {m : List Int} (h : Dg m) {i : Nat} (hi : i < 67) : (digits m).getD i 0 = (dgN m i : Int) := by
  unfold dgN
  have hl := digits_length m h.len
  rw [List.getD_eq_getElem?_getD, List.getElem?_eq_getElem (by omega), Option.getD_some]
  have := digits_small h _ (List.getElem_mem (show i < (digits m).length by omega))
  omega
def partZ (seed ad : List Int) (i : Nat) : List Int := atZ seed (setAd ad i 0 0)
def pubP (seed pub ad : List Int) (i : Nat) : List Int := runZ pub (setAd ad i 0 0) (partZ seed ad i) 0 15
def sigP (m seed pub ad : List Int) (i : Nat) : List Int := runZ pub (setAd ad i 0 0) (partZ seed ad i) 0 (dgN m i)
def fromP (l : List (List Int)) (m pub ad : List Int) (i : Nat) : List Int := runZ pub (setAd ad i 0 0) (l.getD i zD) (dgN m i) (15 - dgN m i)
theorem Dg.part (seed ad : List Int) (i : Nat) : Dg (partZ seed ad i) := Dg.at_ _ _
theorem Dg.pubP (seed pub ad : List Int) (i : Nat) : Dg (pubP seed pub ad i) := Dg.run (Dg.part _ _ _) _ _
theorem Dg.sigP (m seed pub ad : List Int) (i : Nat) : Dg (sigP m seed pub ad i) := Dg.run (Dg.part _ _ _) _ _
set_option maxHeartbeats 4000000 in
theorem wrun_any (x pub ad : List Int) (from_ steps : Nat) (w : World) (hx : Dg x) (hpub : Dg pub) (had : Aw ad) (hf : from_ + steps ≤ 15) (tab : ShaTab w) :
    Calls Tryz.prog 62 #[(.agg (x.map (Value.int .u8)).toArray), .int .i64 from_, .int .i64 steps, (.agg (pub.map (Value.int .u8)).toArray), (.agg (ad.map (Value.int .u32)).toArray)] w fun e w' => e = .returned (.agg ((runZ pub ad x from_ steps).map (Value.int .u8)).toArray) ∧ Below w.heap.size w w' := by
  have HR := hid (Dg.run (pub := pub) (ad := ad) hx from_ steps)
  have C1 := hid (fun (W : World) (t : ShaTab W) => run_good x pub ad from_ steps W hx hpub had hf t)
  generalize runZ pub ad x from_ steps = R at *
  have b1 := (Below.refl w.heap.size w).alloc (Nat.le_refl _) (.cells (x.map (Value.int .u8)).toArray 25 (0, 0))
  have b2 := b1.alloc b1.size (.cells (pub.map (Value.int .u8)).toArray 25 (0, 0))
  have b3 := b2.alloc b2.size (.cells (ad.map (Value.int .u32)).toArray 73 (0, 0))
  have b4 := b3.alloc b3.size (.cells (byteCells 32 []) 25 (0, 0))
  have Kx := hid ((((Blk.new (w := w) (n := w.heap.size) rfl (x.map (Value.int .u8)).toArray 25).old (.cells (pub.map (Value.int .u8)).toArray 25 (0, 0))).old (.cells (ad.map (Value.int .u32)).toArray 73 (0, 0))).old (.cells (byteCells 32 []) 25 (0, 0)))
  have Kp := hid (((Blk.new (w := (w.alloc (.cells (x.map (Value.int .u8)).toArray 25 (0, 0)))) (n := w.heap.size + 1) (by simp only [World.size_alloc]) (pub.map (Value.int .u8)).toArray 25).old (.cells (ad.map (Value.int .u32)).toArray 73 (0, 0))).old (.cells (byteCells 32 []) 25 (0, 0)))
  have Kad := hid ((Blk.new (w := ((w.alloc (.cells (x.map (Value.int .u8)).toArray 25 (0, 0))).alloc (.cells (pub.map (Value.int .u8)).toArray 25 (0, 0)))) (n := w.heap.size + 1 + 1) (by simp only [World.size_alloc]) (ad.map (Value.int .u32)).toArray 73).old (.cells (byteCells 32 []) 25 (0, 0)))
  have Kr0 := hid (Blk.new (w := (((w.alloc (.cells (x.map (Value.int .u8)).toArray 25 (0, 0))).alloc (.cells (pub.map (Value.int .u8)).toArray 25 (0, 0))).alloc (.cells (ad.map (Value.int .u32)).toArray 73 (0, 0)))) (n := w.heap.size + 1 + 1 + 1) (by simp only [World.size_alloc]) (byteCells 32 []) 25)
  have Hb := hid b4
  have HzA := hid zsize
  have hbz := b4.size
  have Hbs := hid (show w.heap.size + 1 + 1 + 1 + 1 = ((((w.alloc (.cells (x.map (Value.int .u8)).toArray 25 (0, 0))).alloc (.cells (pub.map (Value.int .u8)).toArray 25 (0, 0))).alloc (.cells (ad.map (Value.int .u32)).toArray 73 (0, 0))).alloc (.cells (byteCells 32 []) 25 (0, 0))).heap.size by simp only [World.size_alloc])
  have Htab := hid tab
  clear b1 b2 b3 b4 tab
  go_enter Tryz.func62, Tryz.ntmps62
  go_wp2_with (first
     | (refine wpList_load_blk rfl 25 _ rfl (w.heap.size) rfl _ 25 Kx.out _ Tryz.underlying25 rfl 32 size_digest hx.size ?_)
     | (refine wpList_load_blk rfl 25 _ rfl (w.heap.size + 1) rfl _ 25 Kp.out _ Tryz.underlying25 rfl 32 size_digest hpub.size ?_)
     | (refine wpList_load_blk rfl 73 _ rfl (w.heap.size + 1 + 1) rfl _ 73 Kad.out _ Tryz.underlying73 rfl 8 sizeAdrs had.size ?_))
  refine (C1.out _ (Htab.out.below Hb.out)).mono ?_
  rintro e w1 ⟨rfl, bw1⟩
  have HBw1 := hid (Below.on Hb.out bw1)
  have hsw1 := HBw1.out.size
  have Kxw1 := hid (Kx.out.below bw1)
  have Kpw1 := hid (Kp.out.below bw1)
  have Kadw1 := hid (Kad.out.below bw1)
  have Kr0w1 := hid (Kr0.out.below bw1)
  clear bw1
  go_wp2_with (first
     | (
        refine wpList_store_blk rfl 25 _ _ rfl (w1.heap.size) (R.map (Value.int .u8)).toArray rfl rfl _ 25 (Blk.new rfl (byteCells 32 []) _) 32 size_digest HzA.out HR.out.size (ints_one _ _) ?_
        intro w2 hbw2 hkw2
        have HBw2 := hid (hbw2.below (HBw1.out.alloc HBw1.out.size _) (by simp only [World.size_alloc]; omega) (by have := HBw1.out.size; omega))
        have hsw2 := HBw2.out.size
        have Kyw2 := hid hkw2
        have Kxw2 := hid (hbw2.blk (Kxw1.out.old _) (by have := Kxw1.out.lt; omega))
        have Kpw2 := hid (hbw2.blk (Kpw1.out.old _) (by have := Kpw1.out.lt; omega))
        have Kadw2 := hid (hbw2.blk (Kadw1.out.old _) (by have := Kadw1.out.lt; omega))
        have Kr0w2 := hid (hbw2.blk (Kr0w1.out.old _) (by have := Kr0w1.out.lt; omega))
        clear hbw2 hkw2)
     | (refine wpList_load_blk rfl 25 _ rfl (w1.heap.size) rfl _ 25 Kyw2.out _ Tryz.underlying25 rfl 32 size_digest HR.out.size ?_)
     | (
      refine wpList_store_blk rfl 25 _ _ rfl (w.heap.size + 1 + 1 + 1) (R.map (Value.int .u8)).toArray rfl rfl _ 25 Kr0w2.out 32 size_digest HzA.out HR.out.size (ints_one _ _) ?_
      intro w9 hb9 hk9
      have HB9 := hid (hb9.below HBw2.out HBw2.out.size (by omega))
      have HK9 := hid hk9
      clear hb9 hk9))
  exact bodyPost_ret (v := (.agg (R.map (Value.int .u8)).toArray)) (results_blk Tryz.results62 _ (w.heap.size + 1 + 1 + 1) rfl _ 25 HK9.out _ Tryz.underlying25 rfl 32 size_digest HR.out.size) rfl ⟨rfl, HB9.out⟩
set_option maxHeartbeats 4000000 in
theorem public1_any (seed pub ad : List Int) (i bs bp : Nat) (w : World) (hseed : Dg seed) (hpub : Dg pub) (had : Aw ad) (ks : Blk w bs (seed.map (Value.int .u8)).toArray 25) (kp : Blk w bp (pub.map (Value.int .u8)).toArray 25) (tab : ShaTab w) :
    Calls Tryz.prog 94 #[.int .i64 i, (.agg (ad.map (Value.int .u32)).toArray), .pointer (some ⟨bs, 0, none⟩), .pointer (some ⟨bp, 0, none⟩)] w fun e w' => e = .returned (.agg ((runZ pub ad (atZ seed ad) 0 15).map (Value.int .u8)).toArray) ∧ Below w.heap.size w w' := by
  have HA := hid (Dg.at_ seed ad)
  have HR := hid (Dg.run (pub := pub) (ad := ad) HA.out 0 15)
  have C1 := hid (fun (W : World) (t : ShaTab W) => At_any seed ad W hseed had t)
  have C2 := hid (fun (W : World) (t : ShaTab W) => wrun_any (atZ seed ad) pub ad 0 15 W HA.out hpub had (by omega) t)
  generalize atZ seed ad = X at *
  generalize runZ pub ad X 0 15 = R at *
  have b1 := (Below.refl w.heap.size w).alloc (Nat.le_refl _) (.cells (ad.map (Value.int .u32)).toArray 73 (0, 0))
  have b2 := b1.alloc b1.size (.cells (byteCells 32 []) 25 (0, 0))
  have Ka := hid ((Blk.new (w := w) (n := w.heap.size) rfl (ad.map (Value.int .u32)).toArray 73).old (.cells (byteCells 32 []) 25 (0, 0)))
  have Kr0 := hid (Blk.new (w := (w.alloc (.cells (ad.map (Value.int .u32)).toArray 73 (0, 0)))) (n := w.heap.size + 1) (by simp only [World.size_alloc]) (byteCells 32 []) 25)
  have Hb := hid b2
  have HzA := hid zsize
  have hbz := b2.size
  have Hbs := hid (show w.heap.size + 1 + 1 = ((w.alloc (.cells (ad.map (Value.int .u32)).toArray 73 (0, 0))).alloc (.cells (byteCells 32 []) 25 (0, 0))).heap.size by simp only [World.size_alloc])
  have Ks := hid (ks.below b2)
  have Kp := hid (kp.below b2)
  have Htab := hid tab
  clear b1 b2 tab
  go_enter Tryz.func94, Tryz.ntmps94
  go_wp2_with fail
  refine wp_region_flow 6 (List.range 6) [] [] (by kernel_rfl) (by kernel_rfl) ?_
  apply Exists.intro
  refine ⟨fun w0 hb0 hF0 => ?_, ?_⟩
  · skip
    have x0 : ∀ w', (∃ x : Ext w0, w' = x.at_) → ∃ T, Blk w' (bs) (seed.map (Value.int .u8)).toArray T := fun w' ⟨x, hx⟩ => ⟨_, hx ▸ (Ks.out.below hb0).below x.same⟩
    have x1 : ∀ w', (∃ x : Ext w0, w' = x.at_) → ∃ T, Blk w' (bp) (pub.map (Value.int .u8)).toArray T := fun w' ⟨x, hx⟩ => ⟨_, hx ▸ (Kp.out.below hb0).below x.same⟩
    have x2 : ∀ w', (∃ x : Ext w0, w' = x.at_) → ∃ T, Blk w' (w.heap.size) (ad.map (Value.int .u32)).toArray T := fun w' ⟨x, hx⟩ => ⟨_, hx ▸ (Ka.out.below hb0).below x.same⟩
    have c0 := fun e : Ext w0 => C1.out e.at_ ((Htab.out.below (Below.on Hb.out hb0)).below e.same)
    have c1 := fun e : Ext w0 => C2.out e.at_ ((Htab.out.below (Below.on Hb.out hb0)).below e.same)
    simp only [pick, List.range, List.range.loop, List.getElem?_toArray, List.getElem?_cons_succ, List.getElem?_cons_zero, Option.toList_some, List.cons_append, List.nil_append]
    repeat (first | (go_big_quiet_want; refine quiet_load_blk 25 _ rfl (bs) rfl _ x0 _ Tryz.underlying25 rfl 32 size_digest hseed.size ?_; go_big_quiet_on; simp only [Act.put, List.setIfInBounds_toArray, List.set_cons_zero, List.set_cons_succ]) | (go_big_quiet_want; refine quiet_load_blk 25 _ rfl (bp) rfl _ x1 _ Tryz.underlying25 rfl 32 size_digest hpub.size ?_; go_big_quiet_on; simp only [Act.put, List.setIfInBounds_toArray, List.set_cons_zero, List.set_cons_succ]) | (go_big_quiet_want; refine quiet_load_blk 73 _ rfl (w.heap.size) rfl _ x2 _ Tryz.underlying73 rfl 8 sizeAdrs had.size ?_; go_big_quiet_on; simp only [Act.put, List.setIfInBounds_toArray, List.set_cons_zero, List.set_cons_succ]) | go_big_quiet_step (first | (go_at_call 63; with_reducible exact Calls.ext (c0 _)) | (go_at_call 62; with_reducible exact Calls.ext (c1 _))))
    exact wpQuiet_nil rfl
  refine AlChk.nil ?_
  refine Walk.fin fun w1 hw1 _ _ => ?_
  simp only [List.drop_succ_cons, List.drop_zero]
  have HBw1 := hid (Below.on Hb.out hw1)
  have hsw1 := HBw1.out.size
  have Kaw1 := hid (Ka.out.below hw1)
  have Kr0w1 := hid (Kr0.out.below hw1)
  have Ksw1 := hid (Ks.out.below hw1)
  have Kpw1 := hid (Kp.out.below hw1)
  clear hw1
  go_wp2_with (
      refine wpList_store_blk rfl 25 _ _ rfl (w.heap.size + 1) (R.map (Value.int .u8)).toArray rfl rfl _ 25 Kr0w1.out 32 size_digest HzA.out HR.out.size (ints_one _ _) ?_
      intro w9 hb9 hk9
      have HB9 := hid (hb9.below HBw1.out HBw1.out.size (by omega))
      have HK9 := hid hk9
      clear hb9 hk9)
  exact bodyPost_ret (v := (.agg (R.map (Value.int .u8)).toArray)) (results_blk Tryz.results94 _ (w.heap.size + 1) rfl _ 25 HK9.out _ Tryz.underlying25 rfl 32 size_digest HR.out.size) rfl ⟨rfl, HB9.out⟩
set_option maxHeartbeats 4000000 in
theorem sign1_any (seed pub ad st : List Int) (i n bs bt bp : Nat) (w : World) (hseed : Dg seed) (hpub : Dg pub) (had : Aw ad) (hi : i < 67) (hn : n ≤ 15) (hst : (st.map (Value.int .i64)).toArray[i]? = some (.int .i64 (n : Int)))
    (ks : Blk w bs (seed.map (Value.int .u8)).toArray 25) (kt : Blk w bt (st.map (Value.int .i64)).toArray 120) (kp : Blk w bp (pub.map (Value.int .u8)).toArray 25) (tab : ShaTab w) :
    Calls Tryz.prog 61 #[.int .i64 i, (.agg (ad.map (Value.int .u32)).toArray), .pointer (some ⟨bs, 0, none⟩), .pointer (some ⟨bt, 0, none⟩), .pointer (some ⟨bp, 0, none⟩)] w fun e w' => e = .returned (.agg ((runZ pub ad (atZ seed ad) 0 n).map (Value.int .u8)).toArray) ∧ Below w.heap.size w w' := by
  have HA := hid (Dg.at_ seed ad)
  have HD := hid hst
  have hi67 : (i : Int) < 67 := by omega
  clear hst
  have HR := hid (Dg.run (pub := pub) (ad := ad) HA.out 0 n)
  have C1 := hid (fun (W : World) (t : ShaTab W) => At_any seed ad W hseed had t)
  have C2 := hid (fun (W : World) (t : ShaTab W) => wrun_any (atZ seed ad) pub ad 0 n W HA.out hpub had (by omega) t)
  generalize atZ seed ad = X at *
  generalize runZ pub ad X 0 n = R at *
  have b1 := (Below.refl w.heap.size w).alloc (Nat.le_refl _) (.cells (ad.map (Value.int .u32)).toArray 73 (0, 0))
  have b2 := b1.alloc b1.size (.cells (byteCells 32 []) 25 (0, 0))
  have Ka := hid ((Blk.new (w := w) (n := w.heap.size) rfl (ad.map (Value.int .u32)).toArray 73).old (.cells (byteCells 32 []) 25 (0, 0)))
  have Kr0 := hid (Blk.new (w := (w.alloc (.cells (ad.map (Value.int .u32)).toArray 73 (0, 0)))) (n := w.heap.size + 1) (by simp only [World.size_alloc]) (byteCells 32 []) 25)
  have Hb := hid b2
  have HzA := hid zsize
  have hbz := b2.size
  have Hbs := hid (show w.heap.size + 1 + 1 = ((w.alloc (.cells (ad.map (Value.int .u32)).toArray 73 (0, 0))).alloc (.cells (byteCells 32 []) 25 (0, 0))).heap.size by simp only [World.size_alloc])
  have Ks := hid (ks.below b2)
  have Kt := hid (kt.below b2)
  have Kp := hid (kp.below b2)
  have Htab := hid tab
  clear b1 b2 tab
  go_enter Tryz.func61, Tryz.ntmps61
  go_wp2_with fail
  refine wp_region_flow 9 (List.range 9) [] [] (by kernel_rfl) (by kernel_rfl) ?_
  apply Exists.intro
  refine ⟨fun w0 hb0 hF0 => ?_, ?_⟩
  · skip
    have x0 : ∀ w', (∃ x : Ext w0, w' = x.at_) → ∃ T, Blk w' (bs) (seed.map (Value.int .u8)).toArray T := fun w' ⟨x, hx⟩ => ⟨_, hx ▸ (Ks.out.below hb0).below x.same⟩
    have x1 : ∀ w', (∃ x : Ext w0, w' = x.at_) → ∃ T, Blk w' (bp) (pub.map (Value.int .u8)).toArray T := fun w' ⟨x, hx⟩ => ⟨_, hx ▸ (Kp.out.below hb0).below x.same⟩
    have x2 : ∀ w', (∃ x : Ext w0, w' = x.at_) → ∃ T, Blk w' (w.heap.size) (ad.map (Value.int .u32)).toArray T := fun w' ⟨x, hx⟩ => ⟨_, hx ▸ (Ka.out.below hb0).below x.same⟩
    have c0 := fun e : Ext w0 => C1.out e.at_ ((Htab.out.below (Below.on Hb.out hb0)).below e.same)
    have c1 := fun e : Ext w0 => C2.out e.at_ ((Htab.out.below (Below.on Hb.out hb0)).below e.same)
    have y0 : ∀ w', (∃ x : Ext w0, w' = x.at_) → w'.cell? ⟨bt, i, none⟩ = some (.int .i64 (n : Int)) := fun w' ⟨x, hx⟩ => by rw [hx, (((Kt.out).below hb0).below x.same).cell, HD.out]
    simp only [pick, List.range, List.range.loop, List.getElem?_toArray, List.getElem?_cons_succ, List.getElem?_cons_zero, Option.toList_some, List.cons_append, List.nil_append]
    repeat (first | (go_big_quiet_want; refine quiet_load_blk 25 _ rfl (bs) rfl _ x0 _ Tryz.underlying25 rfl 32 size_digest hseed.size ?_; go_big_quiet_on; simp only [Act.put, List.setIfInBounds_toArray, List.set_cons_zero, List.set_cons_succ]) | (go_big_quiet_want; refine quiet_load_blk 25 _ rfl (bp) rfl _ x1 _ Tryz.underlying25 rfl 32 size_digest hpub.size ?_; go_big_quiet_on; simp only [Act.put, List.setIfInBounds_toArray, List.set_cons_zero, List.set_cons_succ]) | (go_big_quiet_want; refine quiet_load_blk 73 _ rfl (w.heap.size) rfl _ x2 _ Tryz.underlying73 rfl 8 sizeAdrs had.size ?_; go_big_quiet_on; simp only [Act.put, List.setIfInBounds_toArray, List.set_cons_zero, List.set_cons_succ]) | (go_big_quiet_want; refine quiet_load_one 3 _ rfl ⟨bt, i, none⟩ rfl _ y0 _ Tryz.underlying3 rfl ?_; go_big_quiet_on; simp only [Act.put, List.setIfInBounds_toArray, List.set_cons_zero, List.set_cons_succ]) | go_big_quiet_step (first | (go_at_call 63; with_reducible exact Calls.ext (c0 _)) | (go_at_call 62; with_reducible exact Calls.ext (c1 _))))
    exact wpQuiet_nil rfl
  refine AlChk.nil ?_
  refine Walk.fin fun w1 hw1 _ _ => ?_
  simp only [List.drop_succ_cons, List.drop_zero]
  have HBw1 := hid (Below.on Hb.out hw1)
  have hsw1 := HBw1.out.size
  have Kaw1 := hid (Ka.out.below hw1)
  have Kr0w1 := hid (Kr0.out.below hw1)
  have Ksw1 := hid (Ks.out.below hw1)
  have Ktw1 := hid (Kt.out.below hw1)
  have Kpw1 := hid (Kp.out.below hw1)
  clear hw1
  go_wp2_with (
      refine wpList_store_blk rfl 25 _ _ rfl (w.heap.size + 1) (R.map (Value.int .u8)).toArray rfl rfl _ 25 Kr0w1.out 32 size_digest HzA.out HR.out.size (ints_one _ _) ?_
      intro w9 hb9 hk9
      have HB9 := hid (hb9.below HBw1.out HBw1.out.size (by omega))
      have HK9 := hid hk9
      clear hb9 hk9)
  exact bodyPost_ret (v := (.agg (R.map (Value.int .u8)).toArray)) (results_blk Tryz.results61 _ (w.heap.size + 1) rfl _ 25 HK9.out _ Tryz.underlying25 rfl 32 size_digest HR.out.size) rfl ⟨rfl, HB9.out⟩
end Go.Proofs.YtjkfbeillmeomaaGreatDoor
namespace Go.Proofs.YtjkfbeillmeomaaGreatDoor
set_option maxRecDepth 100000
open Go.ChangeShapes Go.WideShapes Go.ChangeAt Go.RowKit
theorem makeFunc_run (fn : Fn) (first cap : Array Value) (w : World) : (Instr.makeFunc fn first cap).run Tryz.prog w = .ok (.func fn first cap) w := rfl
set_option maxHeartbeats 4000000 in
theorem public_any (seed pub ad : List Int) (w : World) (hseed : Dg seed) (hpub : Dg pub) (had : Aw ad) (tab : ShaTab w) :
    Calls Tryz.prog 76 #[(.agg (seed.map (Value.int .u8)).toArray), (.agg (pub.map (Value.int .u8)).toArray), (.agg (ad.map (Value.int .u32)).toArray)] w fun e w' => ∃ g, w.heap.size ≤ g ∧ e = .returned (.slice (some ⟨g, 0, none⟩) 67 67) ∧ Below w.heap.size w w' ∧ Blk w' g (dcs (rowW (pubP seed pub ad))) 25 := by
  have b1 := (Below.refl w.heap.size w).alloc (Nat.le_refl _) (.cells (seed.map (Value.int .u8)).toArray 25 (0, 0))
  have b2 := b1.alloc b1.size (.cells (pub.map (Value.int .u8)).toArray 25 (0, 0))
  have b3 := b2.alloc b2.size (.cells (ad.map (Value.int .u32)).toArray 73 (0, 0))
  have Ks := hid (((Blk.new (w := w) (n := w.heap.size) rfl (seed.map (Value.int .u8)).toArray 25).old (.cells (pub.map (Value.int .u8)).toArray 25 (0, 0))).old (.cells (ad.map (Value.int .u32)).toArray 73 (0, 0)))
  have Kp := hid ((Blk.new (w := (w.alloc (.cells (seed.map (Value.int .u8)).toArray 25 (0, 0)))) (n := w.heap.size + 1) (by simp only [World.size_alloc]) (pub.map (Value.int .u8)).toArray 25).old (.cells (ad.map (Value.int .u32)).toArray 73 (0, 0)))
  have Kad := hid (Blk.new (w := ((w.alloc (.cells (seed.map (Value.int .u8)).toArray 25 (0, 0))).alloc (.cells (pub.map (Value.int .u8)).toArray 25 (0, 0)))) (n := w.heap.size + 1 + 1) (by simp only [World.size_alloc]) (ad.map (Value.int .u32)).toArray 73)
  have Hb := hid b3
  have HzA := hid zsize
  have hbz := b3.size
  have Hbs := hid (show w.heap.size + 1 + 1 + 1 = (((w.alloc (.cells (seed.map (Value.int .u8)).toArray 25 (0, 0))).alloc (.cells (pub.map (Value.int .u8)).toArray 25 (0, 0))).alloc (.cells (ad.map (Value.int .u32)).toArray 73 (0, 0))).heap.size by simp only [World.size_alloc])
  have Htab := hid tab
  clear b1 b2 b3 tab
  have hmf := makeFunc_run
  go_enter Tryz.func76, Tryz.ntmps76
  go_wp2_with (refine wpList_load_blk rfl 73 _ rfl (w.heap.size + 1 + 1) rfl _ 73 Kad.out _ Tryz.underlying73 rfl 8 sizeAdrs had.size ?_)
  refine (each_any ad 94 #[.pointer (some ⟨w.heap.size, 0, none⟩), .pointer (some ⟨w.heap.size + 1, 0, none⟩)] (pubP seed pub ad) _ had (Dg.pubP seed pub ad) (enter_run Tryz.func94 rfl rfl) (fun i hi W hb => ?_)).mono ?_
  · simp only [List.append_toArray, List.cons_append, List.nil_append]
    exact public1_any seed pub (setAd ad i 0 0) i w.heap.size (w.heap.size + 1) W hseed hpub (had.set (by omega) (by omega) (by omega)) (Ks.out.below hb) (Kp.out.below hb) ((Htab.out.below Hb.out).below hb)
  rintro e w9 ⟨g, hg, rfl, b9, kg⟩
  have hgw : w.heap.size ≤ g := Nat.le_trans Hb.out.size hg
  have HB9 := hid (Below.on Hb.out b9)
  have HG := hid kg
  clear b9 kg hg
  go_wp2_with fail
  go_ret
  exact ⟨g, hgw, rfl, HB9.out, HG.out⟩
set_option maxHeartbeats 4000000 in
theorem sign_any (m seed pub ad : List Int) (w : World) (hm : Dg m) (hseed : Dg seed) (hpub : Dg pub) (had : Aw ad) (tab : ShaTab w) :
    Calls Tryz.prog 37 #[(.agg (m.map (Value.int .u8)).toArray), (.agg (seed.map (Value.int .u8)).toArray), (.agg (pub.map (Value.int .u8)).toArray), (.agg (ad.map (Value.int .u32)).toArray)] w fun e w' => ∃ g, w.heap.size ≤ g ∧ e = .returned (.slice (some ⟨g, 0, none⟩) 67 67) ∧ Below w.heap.size w w' ∧ Blk w' g (dcs (rowW (sigP m seed pub ad))) 25 := by
  have Hdl := hid (show ((digits m).map (Value.int .i64)).toArray.size = 67 by simp [digits_length m hm.len])
  have Hz67 := hid zero67
  have hmf := makeFunc_run
  have b1 := (Below.refl w.heap.size w).alloc (Nat.le_refl _) (.cells (m.map (Value.int .u8)).toArray 25 (0, 0))
  have b2 := b1.alloc b1.size (.cells (seed.map (Value.int .u8)).toArray 25 (0, 0))
  have b3 := b2.alloc b2.size (.cells (pub.map (Value.int .u8)).toArray 25 (0, 0))
  have b4 := b3.alloc b3.size (.cells (ad.map (Value.int .u32)).toArray 73 (0, 0))
  have Km := hid ((((Blk.new (w := w) (n := w.heap.size) rfl (m.map (Value.int .u8)).toArray 25).old (.cells (seed.map (Value.int .u8)).toArray 25 (0, 0))).old (.cells (pub.map (Value.int .u8)).toArray 25 (0, 0))).old (.cells (ad.map (Value.int .u32)).toArray 73 (0, 0)))
  have Ks := hid (((Blk.new (w := (w.alloc (.cells (m.map (Value.int .u8)).toArray 25 (0, 0)))) (n := w.heap.size + 1) (by simp only [World.size_alloc]) (seed.map (Value.int .u8)).toArray 25).old (.cells (pub.map (Value.int .u8)).toArray 25 (0, 0))).old (.cells (ad.map (Value.int .u32)).toArray 73 (0, 0)))
  have Kp := hid ((Blk.new (w := ((w.alloc (.cells (m.map (Value.int .u8)).toArray 25 (0, 0))).alloc (.cells (seed.map (Value.int .u8)).toArray 25 (0, 0)))) (n := w.heap.size + 1 + 1) (by simp only [World.size_alloc]) (pub.map (Value.int .u8)).toArray 25).old (.cells (ad.map (Value.int .u32)).toArray 73 (0, 0)))
  have Kad := hid (Blk.new (w := (((w.alloc (.cells (m.map (Value.int .u8)).toArray 25 (0, 0))).alloc (.cells (seed.map (Value.int .u8)).toArray 25 (0, 0))).alloc (.cells (pub.map (Value.int .u8)).toArray 25 (0, 0)))) (n := w.heap.size + 1 + 1 + 1) (by simp only [World.size_alloc]) (ad.map (Value.int .u32)).toArray 73)
  have Hb := hid b4
  have HzA := hid zsize
  have hbz := b4.size
  have Hbs := hid (show w.heap.size + 1 + 1 + 1 + 1 = ((((w.alloc (.cells (m.map (Value.int .u8)).toArray 25 (0, 0))).alloc (.cells (seed.map (Value.int .u8)).toArray 25 (0, 0))).alloc (.cells (pub.map (Value.int .u8)).toArray 25 (0, 0))).alloc (.cells (ad.map (Value.int .u32)).toArray 73 (0, 0))).heap.size by simp only [World.size_alloc])
  have Htab := hid tab
  clear b1 b2 b3 b4 tab
  go_enter Tryz.func37, Tryz.ntmps37
  go_wp2_with (refine wpList_load_blk rfl 25 _ rfl (w.heap.size) rfl _ 25 Km.out _ Tryz.underlying25 rfl 32 size_digest hm.size ?_)
  refine (digits_any m hm.len hm.small _).mono ?_
  rintro e w1 ⟨rfl, bw1⟩
  have HBw1 := hid (Below.on Hb.out bw1)
  have hsw1 := HBw1.out.size
  have Kmw1 := hid (Km.out.below bw1)
  have Ksw1 := hid (Ks.out.below bw1)
  have Kpw1 := hid (Kp.out.below bw1)
  have Kadw1 := hid (Kad.out.below bw1)
  clear bw1
  go_wp2_with (first
     | (
        refine wpList_store_blk rfl 120 _ _ rfl (w1.heap.size) ((digits m).map (Value.int .i64)).toArray rfl rfl _ 120 (Blk.new rfl (zeros .i64 67) _) 67 size67 (by simp [zeros]) Hdl.out (ints_one _ _) ?_
        intro w2 hbw2 hkw2
        have HBw2 := hid (hbw2.below (HBw1.out.alloc HBw1.out.size _) (by simp only [World.size_alloc]; omega) (by have := HBw1.out.size; omega))
        have hsw2 := HBw2.out.size
        have Ktw2 := hid hkw2
        have Kmw2 := hid (hbw2.blk (Kmw1.out.old _) (by have := Kmw1.out.lt; omega))
        have Ksw2 := hid (hbw2.blk (Ksw1.out.old _) (by have := Ksw1.out.lt; omega))
        have Kpw2 := hid (hbw2.blk (Kpw1.out.old _) (by have := Kpw1.out.lt; omega))
        have Kadw2 := hid (hbw2.blk (Kadw1.out.old _) (by have := Kadw1.out.lt; omega))
        clear hbw2 hkw2)
     | (refine wpList_load_blk rfl 73 _ rfl (w.heap.size + 1 + 1 + 1) rfl _ 73 Kadw2.out _ Tryz.underlying73 rfl 8 sizeAdrs had.size ?_))
  refine (each_any ad 61 #[.pointer (some ⟨w.heap.size + 1, 0, none⟩), .pointer (some ⟨w1.heap.size, 0, none⟩), .pointer (some ⟨w.heap.size + 1 + 1, 0, none⟩)] (sigP m seed pub ad) _ had (Dg.sigP m seed pub ad) (enter_run Tryz.func61 rfl rfl) (fun i hi W hb => ?_)).mono ?_
  · simp only [List.append_toArray, List.cons_append, List.nil_append]
    exact sign1_any seed pub (setAd ad i 0 0) (digits m) i (dgN m i) (w.heap.size + 1) (w1.heap.size) (w.heap.size + 1 + 1) W hseed hpub (had.set (by omega) (by omega) (by omega)) hi (dgN_le hm i) (by simp only [List.getElem?_toArray, List.getElem?_map]; have := dgN_eq hm hi; rw [List.getD_eq_getElem?_getD] at this; rw [List.getElem?_eq_getElem (by rw [digits_length m hm.len]; exact hi)] at this ⊢; simpa using this) (Ksw2.out.below hb) (Ktw2.out.below hb) (Kpw2.out.below hb) ((Htab.out.below HBw2.out).below hb)
  rintro e w9 ⟨g, hg, rfl, b9, kg⟩
  have hgw : w.heap.size ≤ g := Nat.le_trans HBw2.out.size hg
  have HB9 := hid (Below.on HBw2.out b9)
  have HG := hid kg
  clear b9 kg hg
  go_wp2_with fail
  go_ret
  exact ⟨g, hgw, rfl, HB9.out, HG.out⟩
section
variable {P : Program} {ops : Array Oper} {rest : List Oper} {op : Oper} {a : Act} {w : World} {Q : Exit → Act → World → Prop}
end
end Go.Proofs.YtjkfbeillmeomaaGreatDoor
namespace Go.Proofs.YtjkfbeillmeomaaGreatDoor
set_option maxRecDepth 100000
open Go.ChangeShapes Go.WideShapes Go.ChangeAt Go.RowKit
def preW (P : Nat → List Int) (k : Nat) : List (List Int) := (List.range k).map P
theorem preW_succ (P : Nat → List Int) (k : Nat) : preW P (k + 1) = preW P k ++ [P k] := by
  unfold preW
  rw [List.range_succ, List.map_append]
  rfl
theorem preW_length (P : Nat → List Int) (k : Nat) : (preW P k).length = k := by simp [preW]
theorem preW_full (P : Nat → List Int) : preW P 67 = rowW P := rfl
/-- A row of digests, wherever it lies. -/
def RowV (n : Nat) (ds : List (List Int)) (v : Value) (w : World) : Prop := ∃ a cap, v = .slice a n cap ∧ DigsAt w a n cap ds
theorem RowV.below {n : Nat} {ds : List (List Int)} {v : Value} {w w' : World} (h : RowV n ds v w) (hb : Below w.heap.size w w') : RowV n ds v w' := by
  obtain ⟨a, c, h1, h2⟩ := h
  exact ⟨a, c, h1, h2.below hb⟩
theorem RowV.of_own {w : World} {base n : Nat} {e : TypeId} {v : Value} {ds : List (List Int)} (h : OwnD w base e v ds) (hn : ds.length = n) : RowV n ds v w := by
  subst hn
  obtain ⟨a, c, h1, h2, _⟩ := h.digs
  exact ⟨a, c, h1, h2⟩
theorem RowV.of_blk {w : World} {g : Nat} {T : TypeId} {ds : List (List Int)} (h : Blk w g (dcs ds) T) (hd : ∀ d ∈ ds, Dg d) (n : Nat) (hn : ds.length = n) (hm : n ≤ 9223372036854775807) : RowV n ds (.slice (some ⟨g, 0, none⟩) n n) w := by
  subst hn
  exact ⟨_, _, rfl, DigsAt.of_blk h hd rfl (Nat.le_refl _) hm⟩
theorem RowV.digs {w : World} {a : Option Addr} {n c m : Nat} {ds : List (List Int)} (h : RowV m ds (.slice a n c) w) : n = m ∧ DigsAt w a n c ds := by
  obtain ⟨a', c', h1, h2⟩ := h
  injection h1 with h3 h4 h5
  subst h3 h4 h5
  exact ⟨rfl, h2⟩
/-- 67 numbers, wherever they lie. -/
def IntV (F : Nat → Nat) (v : Value) (w : World) : Prop := ∃ g cap, v = .slice (some ⟨g, 0, none⟩) 67 cap ∧ g < w.heap.size ∧ ∀ i, i < 67 → w.cell? ⟨g, i, none⟩ = some (.int .i64 (F i : Int))
theorem IntV.below {F : Nat → Nat} {v : Value} {w w' : World} (h : IntV F v w) (hb : Below w.heap.size w w') : IntV F v w' := by
  obtain ⟨g, c, h1, h2, h3⟩ := h
  exact ⟨g, c, h1, Nat.lt_of_lt_of_le h2 hb.size, fun i hi => (hb.cell h2).trans (h3 i hi)⟩
theorem IntV.ints {F : Nat → Nat} {g cap : Nat} {w : World} (h : IntV F (.slice (some ⟨g, 0, none⟩) 67 cap) w) : g < w.heap.size ∧ ∀ i, i < 67 → w.cell? ⟨g, i, none⟩ = some (.int .i64 (F i : Int)) := by
  obtain ⟨g', c', h1, h2, h3⟩ := h
  injection h1 with h4
  injection h4 with h4
  injection h4 with h4
  subst h4
  exact ⟨h2, h3⟩
theorem IntV.of_own {F : Nat → Nat} {w : World} {base g cap : Nat} {e : TypeId} {l : List Value} (h : w.ownsRow base e 1 (.slice (some ⟨g, 0, none⟩) 67 cap) 67 l) (hl : ∀ i, i < 67 → l[i]? = some (.int .i64 (F i : Int))) : IntV F (.slice (some ⟨g, 0, none⟩) 67 cap) w := by
  obtain ⟨_, ⟨h1, h2⟩ | ⟨g', cap', cur, h1, _, hh, _, _, _, htk⟩⟩ := h
  · omega
  · injection h1 with h4
    injection h4 with h4
    injection h4 with h4
    subst h4
    refine ⟨g, cap, rfl, (Array.getElem?_eq_some_iff.1 hh).1, fun i hi => ?_⟩
    have hb : Blk w g cur e := hh
    have h5 := hl i hi
    rw [hb.cell, ← h5, ← htk, List.getElem?_take_of_lt (by omega)]
    simp
theorem FlowB.ButIn.cell {S : List Nat} {w w' : World} {g i : Nat} {v : Value} (h : FlowB.ButIn S w w') (hx : g < w.heap.size) (hb : g ∉ S) (k : w.cell? ⟨g, i, none⟩ = some v) : w'.cell? ⟨g, i, none⟩ = some v := by
  rw [← k]
  unfold World.cell?
  rw [h.block g hx hb]
set_option maxHeartbeats 4000000 in
theorem refsecret_any (seed ad : List Int) (w : World) (hseed : Dg seed) (had : Aw ad) :
    Calls Tryz.prog 44 #[(.agg (seed.map (Value.int .u8)).toArray), (.agg (ad.map (Value.int .u32)).toArray)] w fun e w' => ∃ v, e = .returned v ∧ Below w.heap.size w w' ∧ OwnD w' w.heap.size 25 v (rowW (partZ seed ad)) := by
  have hP := Dg.part seed ad
  have b1 := (Below.refl w.heap.size w).alloc (Nat.le_refl _) (.cells (seed.map (Value.int .u8)).toArray 25 (0, 0))
  have b2 := b1.alloc b1.size (.cells (ad.map (Value.int .u32)).toArray 73 (0, 0))
  have Ks := hid ((Blk.new (w := w) (n := w.heap.size) rfl (seed.map (Value.int .u8)).toArray 25).old (.cells (ad.map (Value.int .u32)).toArray 73 (0, 0)))
  have Kad := hid (Blk.new (w := (w.alloc (.cells (seed.map (Value.int .u8)).toArray 25 (0, 0)))) (n := w.heap.size + 1) (by simp only [World.size_alloc]) (ad.map (Value.int .u32)).toArray 73)
  have Hb := hid b2
  have HzA := hid zsize
  have hbz := b2.size
  have Hbs := hid (show w.heap.size + 1 + 1 = ((w.alloc (.cells (seed.map (Value.int .u8)).toArray 25 (0, 0))).alloc (.cells (ad.map (Value.int .u32)).toArray 73 (0, 0))).heap.size by simp only [World.size_alloc])
  clear b1 b2
  have hs0 := Hb.out.size
  go_enter Tryz.func44, Tryz.ntmps44
  go_wp2_with fail
  have HO0 := hid (OwnD.nil ((w.alloc (.cells (seed.map (Value.int .u8)).toArray 25 (0, 0))).alloc (.cells (ad.map (Value.int .u32)).toArray 73 (0, 0))) (w.heap.size + 1 + 1) 25)
  go_loopw [5, 6] (fun v iv wr => ∃ k : Nat, k ≤ 67 ∧ iv = .int .i64 k ∧ OwnD wr (w.heap.size + 1 + 1) 25 v (preW (partZ seed ad) k) ∧ Blk wr (w.heap.size) (seed.map (Value.int .u8)).toArray 25 ∧ Blk wr (w.heap.size + 1) (ad.map (Value.int .u32)).toArray 73 ∧ Below w.heap.size w wr ∧ (w.heap.size + 1 + 1) ≤ wr.heap.size) (fun _ iv _ => 67 - (intOf iv).toNat)
  case atStart => exact ⟨0, Nat.zero_le _, rfl, HO0.out, Ks.out, Kad.out, Hb.out, by rw [Hbs.out]; exact Nat.le_refl _⟩
  case round =>
    clear HO0 Ks Kad Hb
    obtain ⟨k, hk, rfl, ho, ks, kad, bel, hsz⟩ := hrel
    have HO := hid ho
    have Ks := hid ks
    have Kad := hid kad
    have HB := hid bel
    clear ho ks kad bel
    by_cases hlt : k < 67
    · have hc0 : (k : Int) < 67 := by omega
      have HJ := hid (hP k)
      have HL := hid (preW_succ (partZ seed ad) k)
      have HLl := hid (preW_length (partZ seed ad) k)
      obtain ⟨i0, hi, hz0, hz1, hz2⟩ := info_parts info_dig
      generalize hJ : (partZ seed ad) k = J at *
      generalize hL : preW (partZ seed ad) k = L at *
      go_wp2_with fail
      refine FlowB.wp_region_butIn (u5.ownBlock.toList) (fun wz => OwnD wz (w.heap.size + 1 + 1) 25 u5 L) 9 (List.range 7) [7] [(.b 7, [], []), (.c 8, [], [])] (by kernel_rfl) (by kernel_rfl) HO.out (fun _ _ h hb => h.below hb) ?_
      apply Exists.intro
      refine ⟨fun w0 hb0 hF0 => ?_, ?_⟩
      · skip
        have x0 : ∀ w', (∃ x : Ext w0, w' = x.at_) → ∃ T, Blk w' (w.heap.size) (seed.map (Value.int .u8)).toArray T := fun w' ⟨x, hx⟩ => ⟨_, hx ▸ (hb0.blk Ks.out (own_low HO.out (by omega))).below x.same⟩
        have x1 : ∀ w', (∃ x : Ext w0, w' = x.at_) → ∃ T, Blk w' (w.heap.size + 1) (ad.map (Value.int .u32)).toArray T := fun w' ⟨x, hx⟩ => ⟨_, hx ▸ (hb0.blk Kad.out (own_low HO.out (by omega))).below x.same⟩
        have c0 := fun e : Ext w0 => refat_list ad k 0 0 e.at_ had
        have c1 := fun e : Ext w0 => refAt_any seed (setAd ad k 0 0) e.at_ hseed (had.set (by omega) (by omega) (by omega))
        rw [show atZ seed (setAd ad k 0 0) = partZ seed ad k from rfl, hJ] at c1
        simp only [pick, List.range, List.range.loop, List.getElem?_toArray, List.getElem?_cons_succ, List.getElem?_cons_zero, Option.toList_some, List.cons_append, List.nil_append]
        repeat (first | (go_big_quiet_want; refine quiet_load_blk 25 _ rfl (w.heap.size) rfl _ x0 _ Tryz.underlying25 rfl 32 size_digest hseed.size ?_; go_big_quiet_on; simp only [Act.put, List.setIfInBounds_toArray, List.set_cons_zero, List.set_cons_succ]) | (go_big_quiet_want; refine quiet_load_blk 73 _ rfl (w.heap.size + 1) rfl _ x1 _ Tryz.underlying73 rfl 8 sizeAdrs had.size ?_; go_big_quiet_on; simp only [Act.put, List.setIfInBounds_toArray, List.set_cons_zero, List.set_cons_succ]) | go_big_quiet_step (first | (go_at_call 69; with_reducible exact Calls.ext (c0 _)) | (go_at_call 70; with_reducible exact Calls.ext (c1 _))))
        exact wpQuiet_nil rfl
      refine FlowB.AlChk.one rfl (fun b => .slice (some ⟨b, 0, none⟩) 1 1) (.cells (J.map (Value.int .u8)).toArray 25 (0, 0)) rfl (FlowB.st_butIn _ (own_size HO.out)) (fun w2 hb2 hF2 => exec_build_one rfl rfl HJ.out) ?_
      refine FlowB.AlChk.nil ?_
      refine FlowB.Walk.blk rfl (fun b => .slice (some ⟨b, 0, none⟩) 1 1) (.cells (J.map (Value.int .u8)).toArray 25 (0, 0)) (by simp) ?_
      intro b9 w2 hb2 hF2 hge9 _
      apply Exists.intro
      refine ⟨fun w2 hb2 hF2 => wpQuiet_nil rfl, ?_⟩
      refine FlowB.AlChk.nil ?_
      refine FlowB.Walk.does rfl (fun _ _ => True) (fun v w' => OwnD w' (w.heap.size + 1 + 1) 25 v (L ++ [J])) (fun v w' w'' _ h _ => h) (fun v w' w'' h k => h.below k) rfl (fun w2 hb2 hF2 hG2 => ?_) ?_
      · have k9 : Blk w2 b9 (J.map (Value.int .u8)).toArray 25 := hF2.2
        obtain ⟨v', w', hr, q2, q3, q4⟩ := run_append_dig (P := Tryz.prog) _ Tryz.underlying61 hi hz0 zD_cells32 hz1 hz2 hG2 k9 HJ.out (by rw [HLl.out]; omega) (Nat.le_trans hsz hb2.size)
        exact ⟨v', w', FlowB.exec_append rfl rfl rfl hr, FlowB.ButIn.of_grown q3, trivial, q2⟩
      rintro v3 w3 hb3 hF3 _
      apply Exists.intro
      refine ⟨fun w2 hb2 hF2 => wpQuiet_nil rfl, ?_⟩
      refine FlowB.AlChk.nil ?_
      refine FlowB.Walk.fin fun w4 h4 _ hG4 => ?_
      simp only [List.drop_succ_cons, List.drop_zero]
      have HG4 := hid hG4
      rw [← HL.out] at HG4
      have Ks4 := hid (h4.blk Ks.out (own_low HO.out (by omega)))
      have Kad4 := hid (h4.blk Kad.out (own_low HO.out (by omega)))
      have HB4 := hid (h4.below HB.out HB.out.size (fun b hb => by have := own_from HO.out b hb; omega))
      have hsz4 := Nat.le_trans hsz h4.size
      clear h4 hG4
      go_wp2_with fail
      exact ⟨⟨k + 1, by omega, by first | rfl | simp, HG4.out, Ks4.out, Kad4.out, HB4.out, hsz4⟩, by simp [intOf]; omega⟩
    · have hk7 : k = 67 := by omega
      subst hk7
      have hc0 : ¬ ((67 : Int) < 67) := by omega
      have HF := hid (HO.out.re (base' := w.heap.size) (by omega))
      rw [preW_full] at HF
      go_wp2_with fail
      go_ret
      exact ⟨_, rfl, HB.out, HF.out⟩
set_option maxHeartbeats 4000000 in
theorem refruns_any (P : Nat → List Int) (F T : Nat → Nat) (ls : List (List Int)) (na : Option Addr) (nc ga ca gb cb : Nat) (pub ad : List Int) (w : World) (hP : ∀ i, Dg (P i)) (hN : DigsAt w na 67 nc ls) (hpub : Dg pub) (had : Aw ad)
    (hga : ga < w.heap.size) (hF : ∀ i, i < 67 → w.cell? ⟨ga, i, none⟩ = some (.int .i64 (F i : Int))) (hgb : gb < w.heap.size) (hT : ∀ i, i < 67 → w.cell? ⟨gb, i, none⟩ = some (.int .i64 (T i : Int))) (hFT : ∀ i, F i ≤ T i ∧ T i ≤ 15)
    (hr : ∀ i, i < 67 → ∀ W, Calls Tryz.prog 68 #[(.agg ((ls.getD i []).map (Value.int .u8)).toArray), .int .i64 (F i : Int), .int .i64 ((T i : Int) - (F i : Int)), (.agg (pub.map (Value.int .u8)).toArray), (.agg ((setAd ad i 0 0).map (Value.int .u32)).toArray)] W (fun e w' => e = .returned (.agg ((P i).map (Value.int .u8)).toArray) ∧ Below W.heap.size W w')) :
    Calls Tryz.prog 43 #[.slice na 67 nc, .slice (some ⟨ga, 0, none⟩) 67 ca, .slice (some ⟨gb, 0, none⟩) 67 cb, (.agg (pub.map (Value.int .u8)).toArray), (.agg (ad.map (Value.int .u32)).toArray)] w fun e w' => ∃ v, e = .returned v ∧ Below w.heap.size w w' ∧ OwnD w' w.heap.size 25 v (rowW P) := by
  have HN := hid hN
  have hle := hN.le
  have hmx := hN.max
  clear hN
  have b1 := (Below.refl w.heap.size w).alloc (Nat.le_refl _) (.cells (pub.map (Value.int .u8)).toArray 25 (0, 0))
  have b2 := b1.alloc b1.size (.cells (ad.map (Value.int .u32)).toArray 73 (0, 0))
  have Kp := hid ((Blk.new (w := w) (n := w.heap.size) rfl (pub.map (Value.int .u8)).toArray 25).old (.cells (ad.map (Value.int .u32)).toArray 73 (0, 0)))
  have Kad := hid (Blk.new (w := (w.alloc (.cells (pub.map (Value.int .u8)).toArray 25 (0, 0)))) (n := w.heap.size + 1) (by simp only [World.size_alloc]) (ad.map (Value.int .u32)).toArray 73)
  have Hb := hid b2
  have HzA := hid zsize
  have hbz := b2.size
  have Hbs := hid (show w.heap.size + 1 + 1 = ((w.alloc (.cells (pub.map (Value.int .u8)).toArray 25 (0, 0))).alloc (.cells (ad.map (Value.int .u32)).toArray 73 (0, 0))).heap.size by simp only [World.size_alloc])
  clear b1 b2
  have hs0 := Hb.out.size
  go_enter Tryz.func43, Tryz.ntmps43
  go_wp2_with fail
  have HO0 := hid (OwnD.nil ((w.alloc (.cells (pub.map (Value.int .u8)).toArray 25 (0, 0))).alloc (.cells (ad.map (Value.int .u32)).toArray 73 (0, 0))) (w.heap.size + 1 + 1) 25)
  go_loopw [11, 12] (fun v iv wr => ∃ k : Nat, k ≤ 67 ∧ iv = .int .i64 k ∧ OwnD wr (w.heap.size + 1 + 1) 25 v (preW P k) ∧ Blk wr (w.heap.size) (pub.map (Value.int .u8)).toArray 25 ∧ Blk wr (w.heap.size + 1) (ad.map (Value.int .u32)).toArray 73 ∧ Below w.heap.size w wr ∧ (w.heap.size + 1 + 1) ≤ wr.heap.size) (fun _ iv _ => 67 - (intOf iv).toNat)
  case atStart => exact ⟨0, Nat.zero_le _, rfl, HO0.out, Kp.out, Kad.out, Hb.out, by rw [Hbs.out]; exact Nat.le_refl _⟩
  case round =>
    clear HO0 Kp Kad Hb
    obtain ⟨k, hk, rfl, ho, kp, kad, bel, hsz⟩ := hrel
    have HO := hid ho
    have Kp := hid kp
    have Kad := hid kad
    have HB := hid bel
    clear ho kp kad bel
    by_cases hlt : k < 67
    · have hc0 : (k : Int) < 67 := by omega
      have HJ := hid (hP k)
      have HL := hid (preW_succ P k)
      have HLl := hid (preW_length P k)
      obtain ⟨i0, hi, hz0, hz1, hz2⟩ := info_parts info_dig
      have HX := hid (HN.out.get (j := k) (by omega))
      have HC := hid (hr k hlt)
      obtain ⟨xs, xo, rfl, hxs, hcell⟩ := HN.out.at_ (by omega)
      have Hc := hid (rangeAt_below (hcell k hlt) hxs HB.out)
      have hxs' := Nat.lt_of_lt_of_le hxs HB.out.size
      have Hga := hid ((HB.out.cell hga).trans (hF k hlt))
      have Hgb := hid ((HB.out.cell hgb).trans (hT k hlt))
      have hga' := Nat.lt_of_lt_of_le hga HB.out.size
      have hgb' := Nat.lt_of_lt_of_le hgb HB.out.size
      have hft := hFT k
      clear hcell
      generalize ls.getD k [] = X at *
      generalize F k = F1 at *
      generalize T k = T1 at *
      generalize hJ : P k = J at *
      generalize hL : preW P k = L at *
      go_wp2_with fail
      refine FlowB.wp_region_butIn (u11.ownBlock.toList) (fun wz => OwnD wz (w.heap.size + 1 + 1) 25 u11 L) 26 (List.range 24) [24] [(.b 24, [], []), (.c 25, [], [])] (by kernel_rfl) (by kernel_rfl) HO.out (fun _ _ h hb => h.below hb) ?_
      apply Exists.intro
      refine ⟨fun w0 hb0 hF0 => ?_, ?_⟩
      · skip
        have x0 : ∀ w', (∃ x : Ext w0, w' = x.at_) → ∃ T, Blk w' (w.heap.size) (pub.map (Value.int .u8)).toArray T := fun w' ⟨x, hx⟩ => ⟨_, hx ▸ (hb0.blk Kp.out (own_low HO.out (by omega))).below x.same⟩
        have x1 : ∀ w', (∃ x : Ext w0, w' = x.at_) → ∃ T, Blk w' (w.heap.size + 1) (ad.map (Value.int .u32)).toArray T := fun w' ⟨x, hx⟩ => ⟨_, hx ▸ (hb0.blk Kad.out (own_low HO.out (by omega))).below x.same⟩
        have x2 : ∀ w', (∃ x : Ext w0, w' = x.at_) → w'.rangeAt xs (xo + k * 32) (X.map (Value.int .u8)) := fun w' ⟨x, hx⟩ => hx ▸ rangeAt_below (hb0.range hxs' (own_low HO.out (by omega)) Hc.out) (Nat.lt_of_lt_of_le hxs' hb0.size) x.same
        have y0 : ∀ w', (∃ x : Ext w0, w' = x.at_) → w'.cell? ⟨ga, k, none⟩ = some (.int .i64 (F1 : Int)) := fun w' ⟨x, hx⟩ => by rw [hx]; exact (x.same.cell (Nat.lt_of_lt_of_le hga' hb0.size)).trans (hb0.cell hga' (own_low HO.out (by omega)) Hga.out)
        have y1 : ∀ w', (∃ x : Ext w0, w' = x.at_) → w'.cell? ⟨gb, k, none⟩ = some (.int .i64 (T1 : Int)) := fun w' ⟨x, hx⟩ => by rw [hx]; exact (x.same.cell (Nat.lt_of_lt_of_le hgb' hb0.size)).trans (hb0.cell hgb' (own_low HO.out (by omega)) Hgb.out)
        have c0 := fun e : Ext w0 => refat_list ad k 0 0 e.at_ had
        have c1 := fun e : Ext w0 => HC.out e.at_
        simp only [pick, List.range, List.range.loop, List.getElem?_toArray, List.getElem?_cons_succ, List.getElem?_cons_zero, Option.toList_some, List.cons_append, List.nil_append]
        repeat (first | (go_big_quiet_want; refine quiet_load_blk 25 _ rfl (w.heap.size) rfl _ x0 _ Tryz.underlying25 rfl 32 size_digest hpub.size ?_; go_big_quiet_on; simp only [Act.put, List.setIfInBounds_toArray, List.set_cons_zero, List.set_cons_succ]) | (go_big_quiet_want; refine quiet_load_blk 73 _ rfl (w.heap.size + 1) rfl _ x1 _ Tryz.underlying73 rfl 8 sizeAdrs had.size ?_; go_big_quiet_on; simp only [Act.put, List.setIfInBounds_toArray, List.set_cons_zero, List.set_cons_succ]) | (go_big_quiet_want; refine quiet_index_digs 61 _ _ rfl Tryz.underlying61 size_digest xs xo 67 nc rfl _ _ rfl k (by omega) (by omega) ?_; go_big_quiet_on; simp only [Act.put, List.setIfInBounds_toArray, List.set_cons_zero, List.set_cons_succ]) | (go_big_quiet_want; refine quiet_load_mid 25 _ rfl xs (xo + k * 32) rfl _ x2 _ Tryz.underlying25 rfl (by rw [List.length_map, HX.out.len]; exact size_digest) ?_; go_big_quiet_on; simp only [Act.put, List.setIfInBounds_toArray, List.set_cons_zero, List.set_cons_succ]) | (go_big_quiet_want; refine quiet_load_one 3 _ rfl ⟨ga, k, none⟩ rfl _ y0 _ Tryz.underlying3 rfl ?_; go_big_quiet_on; simp only [Act.put, List.setIfInBounds_toArray, List.set_cons_zero, List.set_cons_succ]) | (go_big_quiet_want; refine quiet_load_one 3 _ rfl ⟨gb, k, none⟩ rfl _ y1 _ Tryz.underlying3 rfl ?_; go_big_quiet_on; simp only [Act.put, List.setIfInBounds_toArray, List.set_cons_zero, List.set_cons_succ]) | go_big_quiet_step (first | (go_at_call 69; with_reducible exact Calls.ext (c0 _)) | (go_at_call 68; with_reducible exact Calls.ext (c1 _))))
        exact wpQuiet_nil rfl
      refine FlowB.AlChk.one rfl (fun b => .slice (some ⟨b, 0, none⟩) 1 1) (.cells (J.map (Value.int .u8)).toArray 25 (0, 0)) rfl (FlowB.st_butIn _ (own_size HO.out)) (fun w2 hb2 hF2 => exec_build_one rfl rfl HJ.out) ?_
      refine FlowB.AlChk.nil ?_
      refine FlowB.Walk.blk rfl (fun b => .slice (some ⟨b, 0, none⟩) 1 1) (.cells (J.map (Value.int .u8)).toArray 25 (0, 0)) (by simp) ?_
      intro b9 w2 hb2 hF2 hge9 _
      apply Exists.intro
      refine ⟨fun w2 hb2 hF2 => wpQuiet_nil rfl, ?_⟩
      refine FlowB.AlChk.nil ?_
      refine FlowB.Walk.does rfl (fun _ _ => True) (fun v w' => OwnD w' (w.heap.size + 1 + 1) 25 v (L ++ [J])) (fun v w' w'' _ h _ => h) (fun v w' w'' h k => h.below k) rfl (fun w2 hb2 hF2 hG2 => ?_) ?_
      · have k9 : Blk w2 b9 (J.map (Value.int .u8)).toArray 25 := hF2.2
        obtain ⟨v', w', hr, q2, q3, q4⟩ := run_append_dig (P := Tryz.prog) _ Tryz.underlying61 hi hz0 zD_cells32 hz1 hz2 hG2 k9 HJ.out (by rw [HLl.out]; omega) (Nat.le_trans hsz hb2.size)
        exact ⟨v', w', FlowB.exec_append rfl rfl rfl hr, FlowB.ButIn.of_grown q3, trivial, q2⟩
      rintro v3 w3 hb3 hF3 _
      apply Exists.intro
      refine ⟨fun w2 hb2 hF2 => wpQuiet_nil rfl, ?_⟩
      refine FlowB.AlChk.nil ?_
      refine FlowB.Walk.fin fun w4 h4 _ hG4 => ?_
      simp only [List.drop_succ_cons, List.drop_zero]
      have HG4 := hid hG4
      rw [← HL.out] at HG4
      have Kp4 := hid (h4.blk Kp.out (own_low HO.out (by omega)))
      have Kad4 := hid (h4.blk Kad.out (own_low HO.out (by omega)))
      have HB4 := hid (h4.below HB.out HB.out.size (fun b hb => by have := own_from HO.out b hb; omega))
      have hsz4 := Nat.le_trans hsz h4.size
      clear h4 hG4
      go_wp2_with fail
      exact ⟨⟨k + 1, by omega, by first | rfl | simp, HG4.out, Kp4.out, Kad4.out, HB4.out, hsz4⟩, by simp [intOf]; omega⟩
    · have hk7 : k = 67 := by omega
      subst hk7
      have hc0 : ¬ ((67 : Int) < 67) := by omega
      have HF := hid (HO.out.re (base' := w.heap.size) (by omega))
      rw [preW_full] at HF
      go_wp2_with fail
      go_ret
      exact ⟨_, rfl, HB.out, HF.out⟩
set_option maxHeartbeats 4000000 in
theorem refall_any (n : Int) (w : World) :
    Calls Tryz.prog 45 #[.int .i64 n] w fun e w' => ∃ g cap, e = .returned (.slice (some ⟨g, 0, none⟩) 67 cap) ∧ Below w.heap.size w w' ∧ w'.ownsRow w.heap.size 3 1 (.slice (some ⟨g, 0, none⟩) 67 cap) 67 (List.replicate 67 (Value.int .i64 n)) := by
  obtain ⟨i0, hi, hz0, hz1, hz2⟩ := info_parts infoInt
  go_enter Tryz.func45, Tryz.ntmps45
  go_wp2_with fail
  go_loopw [3, 4] (fun v i wr => ∃ k : Nat, k ≤ 67 ∧ i = .int .i64 k ∧ wr.ownsRow w.heap.size 3 1 v k (List.replicate k (Value.int .i64 n)) ∧ Below w.heap.size w wr) (fun _ i _ => 67 - (intOf i).toNat)
  case atStart => exact ⟨0, by omega, rfl, World.ownsRow_nil _ _ _ _, Below.refl _ _⟩
  case round =>
    obtain ⟨k, hk, rfl, hown, bel⟩ := hrel
    by_cases hlt : k < 67
    · have hc0 : (k : Int) < 67 := by omega
      have hbs := bel.size
      go_wp2_with (at_builtin; refine wpList_append_own _ rfl _ _ 93 rfl w.heap.size 3 i0 (.int .i64 0) 1 8 Tryz.underlying93 hi hz0 hz1 hz2 rfl (by decide) u3 k _ rfl (hown.alloc _) ⟨wr.heap.size, 0, none⟩ 1 1 [.int .i64 n] rfl rfl ?c1 ?c2 ?c3 ?c4 ?c5 ?_)
      case c1 => exact news_new wr [.int .i64 n] 3
      case c2 => simp [Value.oneCell']
      case c3 => unfold maxLen; omega
      case c4 => omega
      case c5 => simp; omega
      intro v' w1 hown' hgrow _
      have hlt1 := hown.lt
      have bel' := (bel.alloc hbs (Obj.cells #[.int .i64 n] 3)).grown hgrow (by simp; omega) (fun q hq => by have := hlt1 q hq; omega)
      clear hown bel hgrow hlt1
      go_wp2
      exact ⟨⟨k + 1, by omega, by go_num, by rw [List.replicate_succ']; exact hown', bel'⟩, by simp [intOf]; omega⟩
    · obtain rfl : k = 67 := by omega
      have hv : ∃ g cap, u3 = .slice (some ⟨g, 0, none⟩) 67 cap := by
        obtain ⟨_, h | ⟨g, cap, cur, h, _⟩⟩ := hown
        · omega
        · exact ⟨g, cap, h⟩
      obtain ⟨g, cap, rfl⟩ := hv
      go_wp2_with fail
      go_ret
      exact ⟨g, cap, rfl, bel, hown⟩
end Go.Proofs.YtjkfbeillmeomaaGreatDoor
namespace Go.Proofs.YtjkfbeillmeomaaGreatDoor
set_option maxRecDepth 100000
open Go.ChangeShapes Go.WideShapes Go.ChangeAt Go.RowKit
theorem refrun_at (pub ad x : List Int) (F T : Nat) (hpub : Dg pub) (had : Aw ad) (hx : Dg x) (hf : F ≤ T ∧ T ≤ 15) (w : World) :
    Calls Tryz.prog 68 #[.agg (x.map (Value.int .u8)).toArray, .int .i64 (F : Int), .int .i64 ((T : Int) - (F : Int)), .agg (pub.map (Value.int .u8)).toArray, .agg (ad.map (Value.int .u32)).toArray] w fun e w' => e = .returned (.agg ((runZ pub ad x F (T - F)).map (Value.int .u8)).toArray) ∧ Below w.heap.size w w' := by
  have := refrun_any pub ad F hpub had (T - F) x w hx (by omega)
  rw [show ((T - F : Nat) : Int) = (T : Int) - (F : Int) by omega] at this
  exact this
theorem refall_v (k : Nat) (w : World) : Calls Tryz.prog 45 #[.int .i64 (k : Int)] w fun e w' => ∃ v, e = .returned v ∧ Below w.heap.size w w' ∧ IntV (fun _ => k) v w' :=
  (refall_any (k : Int) w).mono fun _ _ ⟨g, c, h1, h2, h3⟩ => ⟨_, h1, h2, IntV.of_own h3 fun i hi => by rw [List.getElem?_replicate, if_pos hi]⟩
theorem refof_v (m : List Int) (hm : Dg m) (w : World) : Calls Tryz.prog 46 #[.agg (m.map (Value.int .u8)).toArray] w fun e w' => ∃ v, e = .returned v ∧ Below w.heap.size w w' ∧ IntV (dgN m) v w' :=
  (refdigits_any m hm.len hm.small w).mono fun _ _ ⟨g, c, h1, h2, h3⟩ => ⟨_, h1, h2, IntV.of_own h3 fun i hi => by
    have h4 := dgN_eq hm hi
    have hl := digits_length m hm.len
    rw [List.getD_eq_getElem?_getD, List.getElem?_eq_getElem (by omega), Option.getD_some] at h4
    rw [List.getElem?_map, List.getElem?_eq_getElem (by omega), Option.map_some, h4]⟩
theorem refsecret_v (seed ad : List Int) (hseed : Dg seed) (had : Aw ad) (w : World) : Calls Tryz.prog 44 #[.agg (seed.map (Value.int .u8)).toArray, .agg (ad.map (Value.int .u32)).toArray] w fun e w' => ∃ v, e = .returned v ∧ Below w.heap.size w w' ∧ RowV 67 (rowW (partZ seed ad)) v w' :=
  (refsecret_any seed ad w hseed had).mono fun _ _ ⟨v, h1, h2, h3⟩ => ⟨v, h1, h2, RowV.of_own h3 (rowW_length _)⟩
set_option maxHeartbeats 4000000 in
theorem refpublic_any (seed pub ad : List Int) (w : World) (hseed : Dg seed) (hpub : Dg pub) (had : Aw ad) :
    Calls Tryz.prog 87 #[(.agg (seed.map (Value.int .u8)).toArray), (.agg (pub.map (Value.int .u8)).toArray), (.agg (ad.map (Value.int .u32)).toArray)] w fun e w' => ∃ v, e = .returned v ∧ Below w.heap.size w w' ∧ RowV 67 (rowW (pubP seed pub ad)) v w' := by
  have b1 := (Below.refl w.heap.size w).alloc (Nat.le_refl _) (.cells (seed.map (Value.int .u8)).toArray 25 (0, 0))
  have b2 := b1.alloc b1.size (.cells (pub.map (Value.int .u8)).toArray 25 (0, 0))
  have b3 := b2.alloc b2.size (.cells (ad.map (Value.int .u32)).toArray 73 (0, 0))
  have Ks := hid (((Blk.new (w := w) (n := w.heap.size) rfl (seed.map (Value.int .u8)).toArray 25).old (.cells (pub.map (Value.int .u8)).toArray 25 (0, 0))).old (.cells (ad.map (Value.int .u32)).toArray 73 (0, 0)))
  have Kp := hid ((Blk.new (w := (w.alloc (.cells (seed.map (Value.int .u8)).toArray 25 (0, 0)))) (n := w.heap.size + 1) (by simp only [World.size_alloc]) (pub.map (Value.int .u8)).toArray 25).old (.cells (ad.map (Value.int .u32)).toArray 73 (0, 0)))
  have Kad := hid (Blk.new (w := ((w.alloc (.cells (seed.map (Value.int .u8)).toArray 25 (0, 0))).alloc (.cells (pub.map (Value.int .u8)).toArray 25 (0, 0)))) (n := w.heap.size + 1 + 1) (by simp only [World.size_alloc]) (ad.map (Value.int .u32)).toArray 73)
  have Hb := hid b3
  have HzA := hid zsize
  have hbz := b3.size
  have Hbs := hid (show w.heap.size + 1 + 1 + 1 = (((w.alloc (.cells (seed.map (Value.int .u8)).toArray 25 (0, 0))).alloc (.cells (pub.map (Value.int .u8)).toArray 25 (0, 0))).alloc (.cells (ad.map (Value.int .u32)).toArray 73 (0, 0))).heap.size by simp only [World.size_alloc])
  clear b1 b2 b3
  go_enter Tryz.func87, Tryz.ntmps87
  go_wp2_with fail
  refine wp_region_flow 8 [0, 1, 5, 6] [] [(.c 2, [], []), (.c 3, [], []), (.c 4, [], []), (.c 7, [], [])] (by kernel_rfl) (by kernel_rfl) ?_
  apply Exists.intro
  refine ⟨fun w0 hb0 hF0 => ?_, ?_⟩
  · skip
    have x0 : ∀ w', (∃ x : Ext w0, w' = x.at_) → ∃ T, Blk w' (w.heap.size) (seed.map (Value.int .u8)).toArray T := fun w' ⟨x, hx⟩ => ⟨_, hx ▸ (Ks.out.below hb0).below x.same⟩
    have x1 : ∀ w', (∃ x : Ext w0, w' = x.at_) → ∃ T, Blk w' (w.heap.size + 1) (pub.map (Value.int .u8)).toArray T := fun w' ⟨x, hx⟩ => ⟨_, hx ▸ (Kp.out.below hb0).below x.same⟩
    have x2 : ∀ w', (∃ x : Ext w0, w' = x.at_) → ∃ T, Blk w' (w.heap.size + 1 + 1) (ad.map (Value.int .u32)).toArray T := fun w' ⟨x, hx⟩ => ⟨_, hx ▸ (Kad.out.below hb0).below x.same⟩
    simp only [pick, List.getElem?_toArray, List.getElem?_cons_succ, List.getElem?_cons_zero, Option.toList_some, List.cons_append, List.nil_append]
    repeat (first | (go_big_quiet_want; refine quiet_load_blk 25 _ rfl (w.heap.size) rfl _ x0 _ Tryz.underlying25 rfl 32 size_digest hseed.size ?_; go_big_quiet_on; simp only [Act.put, List.setIfInBounds_toArray, List.set_cons_zero, List.set_cons_succ]) | (go_big_quiet_want; refine quiet_load_blk 25 _ rfl (w.heap.size + 1) rfl _ x1 _ Tryz.underlying25 rfl 32 size_digest hpub.size ?_; go_big_quiet_on; simp only [Act.put, List.setIfInBounds_toArray, List.set_cons_zero, List.set_cons_succ]) | (go_big_quiet_want; refine quiet_load_blk 73 _ rfl (w.heap.size + 1 + 1) rfl _ x2 _ Tryz.underlying73 rfl 8 sizeAdrs had.size ?_; go_big_quiet_on; simp only [Act.put, List.setIfInBounds_toArray, List.set_cons_zero, List.set_cons_succ]) | go_big_quiet_step (fail))
    exact wpQuiet_nil rfl
  refine AlChk.nil ?_
  refine Walk.call rfl 44 #[(.agg (seed.map (Value.int .u8)).toArray), (.agg (ad.map (Value.int .u32)).toArray)] (RowV 67 (rowW (partZ seed ad))) (fun v w' w'' h k => h.below k) rfl (fun w1 hb1 hF1 => ⟨by go_simp, ?_⟩) ?_
  · exact refsecret_v seed ad hseed had w1
  rintro v w1 hb1 hF1 ⟨a1, c1, rfl, _⟩
  apply Exists.intro
  refine ⟨fun w2 hb2 hF2 => wpQuiet_nil rfl, ?_⟩
  refine AlChk.nil ?_
  refine Walk.call rfl 45 #[.int .i64 0] (IntV (fun _ => 0)) (fun v w' w'' h k => h.below k) rfl (fun w1 hb1 hF1 => ⟨by go_simp, ?_⟩) ?_
  · exact refall_v 0 w1
  rintro v w1 hb1 hF1 ⟨g2, c2, rfl, _⟩
  apply Exists.intro
  refine ⟨fun w2 hb2 hF2 => wpQuiet_nil rfl, ?_⟩
  refine AlChk.nil ?_
  refine Walk.call rfl 45 #[.int .i64 15] (IntV (fun _ => 15)) (fun v w' w'' h k => h.below k) rfl (fun w1 hb1 hF1 => ⟨by go_simp, ?_⟩) ?_
  · exact refall_v 15 w1
  rintro v w1 hb1 hF1 ⟨g3, c3, rfl, _⟩
  apply Exists.intro
  refine ⟨fun w2 hb2 hF2 => wpQuiet_nil rfl, ?_⟩
  refine AlChk.nil ?_
  refine Walk.call rfl 43 #[.slice a1 67 c1, .slice (some ⟨g2, 0, none⟩) 67 c2, .slice (some ⟨g3, 0, none⟩) 67 c3, (.agg (pub.map (Value.int .u8)).toArray), (.agg (ad.map (Value.int .u32)).toArray)] (RowV 67 (rowW (pubP seed pub ad))) (fun v w' w'' h k => h.below k) rfl (fun w1 hb1 hF1 => ⟨by go_simp, ?_⟩) ?_
  · refine (refruns_any (pubP seed pub ad) (fun _ => 0) (fun _ => 15) (rowW (partZ seed ad)) a1 c1 g2 c2 g3 c3 pub ad w1 (fun i => Dg.pubP seed pub ad i) hF1.1.1.2.digs.2 hpub had hF1.1.2.ints.1 hF1.1.2.ints.2 hF1.2.ints.1 hF1.2.ints.2 (fun _ => ⟨by omega, by omega⟩) (fun i hi W => ?_)).mono ?_
    · rw [rowW_get _ hi]; exact refrun_at pub (setAd ad i 0 0) (partZ seed ad i) 0 15 hpub (had.set (by omega) (by omega) (by omega)) (Dg.part _ _ _) (by omega) W
    · rintro e w2 ⟨v, rfl, b2, o2⟩
      exact ⟨v, rfl, b2, RowV.of_own o2 (rowW_length _)⟩
  rintro v w1 hb1 hF1 _
  apply Exists.intro
  refine ⟨fun w2 hb2 hF2 => wpQuiet_nil rfl, ?_⟩
  refine AlChk.nil ?_
  refine Walk.fin fun w4 h4 hF4 _ => ?_
  simp only [List.drop_succ_cons, List.drop_zero]
  have HB4 := hid (Below.on Hb.out h4)
  have HF4 := hid hF4.2
  clear h4 hF4
  go_wp2_with fail
  go_ret
  exact ⟨_, rfl, HB4.out, HF4.out⟩
set_option maxHeartbeats 4000000 in
theorem same_any (a1 a2 : Option Addr) (n c1 c2 : Nat) (ds : List (List Int)) (w : World) (h1 : DigsAt w a1 n c1 ds) (h2 : DigsAt w a2 n c2 ds) :
    Calls Tryz.prog 24 #[.slice a1 n c1, .slice a2 n c2] w fun e w' => e = .returned (.bool true) ∧ Below w.heap.size w w' := by
  have HN1 := hid h1
  have HN2 := hid h2
  have hle1 := h1.le
  have hmx1 := h1.max
  have hle2 := h2.le
  have hmx2 := h2.max
  clear h1 h2
  go_enter Tryz.func24, Tryz.ntmps24
  go_wp2_with fail
  go_loopw [5] (fun iv wr => ∃ k : Nat, k ≤ n ∧ iv = .int .i64 k ∧ Below w.heap.size w wr) (fun iv _ => n - (intOf iv).toNat)
  case atStart => exact ⟨0, Nat.zero_le _, rfl, Below.refl _ _⟩
  case round =>
    obtain ⟨k, hk, rfl, bel⟩ := hrel
    have HB := hid bel
    clear bel
    by_cases hlt : k < n
    · have hc0 : (k : Int) < n := by omega
      have HX := hid (HN1.out.get (j := k) hlt)
      obtain ⟨xs, xo, rfl, hxs, hcell⟩ := (HN1.out.below HB.out).at_ (by omega)
      obtain ⟨ys, yo, rfl, hys, hcell2⟩ := (HN2.out.below HB.out).at_ (by omega)
      have Hc := hid (hcell k hlt)
      have Hd := hid (hcell2 k hlt)
      clear hcell hcell2
      generalize ds.getD k [] = X at *
      have q1 := fun W => neD_self X HX.out.len W
      go_wp2_with fail
      refine wp_region_flow 9 (List.range 9) [] [] (by kernel_rfl) (by kernel_rfl) ?_
      apply Exists.intro
      refine ⟨fun w0 hb0 hF0 => ?_, ?_⟩
      · skip
        have x0 : ∀ w', (∃ x : Ext w0, w' = x.at_) → w'.rangeAt xs (xo + k * 32) (X.map (Value.int .u8)) := fun w' ⟨x, hx⟩ => hx ▸ rangeAt_below (rangeAt_below Hc.out hxs hb0) (Nat.lt_of_lt_of_le hxs hb0.size) x.same
        have x1 : ∀ w', (∃ x : Ext w0, w' = x.at_) → w'.rangeAt ys (yo + k * 32) (X.map (Value.int .u8)) := fun w' ⟨x, hx⟩ => hx ▸ rangeAt_below (rangeAt_below Hd.out hys hb0) (Nat.lt_of_lt_of_le hys hb0.size) x.same
        simp only [pick, List.range, List.range.loop, List.getElem?_toArray, List.getElem?_cons_succ, List.getElem?_cons_zero, Option.toList_some, List.cons_append, List.nil_append]
        repeat (first | (go_big_quiet_want; refine quiet_index_digs 61 _ _ rfl Tryz.underlying61 size_digest xs xo n c1 rfl _ _ rfl k (by omega) (by omega) ?_; go_big_quiet_on; simp only [Act.put, List.setIfInBounds_toArray, List.set_cons_zero, List.set_cons_succ]) | (go_big_quiet_want; refine quiet_index_digs 61 _ _ rfl Tryz.underlying61 size_digest ys yo n c2 rfl _ _ rfl k (by omega) (by omega) ?_; go_big_quiet_on; simp only [Act.put, List.setIfInBounds_toArray, List.set_cons_zero, List.set_cons_succ]) | (go_big_quiet_want; refine quiet_load_mid 25 _ rfl xs (xo + k * 32) rfl _ x0 _ Tryz.underlying25 rfl (by rw [List.length_map, HX.out.len]; exact size_digest) ?_; go_big_quiet_on; simp only [Act.put, List.setIfInBounds_toArray, List.set_cons_zero, List.set_cons_succ]) | (go_big_quiet_want; refine quiet_load_mid 25 _ rfl ys (yo + k * 32) rfl _ x1 _ Tryz.underlying25 rfl (by rw [List.length_map, HX.out.len]; exact size_digest) ?_; go_big_quiet_on; simp only [Act.put, List.setIfInBounds_toArray, List.set_cons_zero, List.set_cons_succ]) | (go_big_quiet_want; refine quiet_cmp _ _ rfl _ _ _ rfl rfl q1 ?_; go_big_quiet_on; simp only [Act.put, List.setIfInBounds_toArray, List.set_cons_zero, List.set_cons_succ]) | go_big_quiet_step (fail))
        exact wpQuiet_nil rfl
      refine AlChk.nil ?_
      refine Walk.fin fun w5 h5 _ _ => ?_
      simp only [List.drop_succ_cons, List.drop_zero]
      have HB5 := hid (Below.on HB.out h5)
      clear h5
      go_wp2_with fail
      exact ⟨⟨k + 1, by omega, by go_num, HB5.out⟩, by simp [intOf]; omega⟩
    · have hkn : k = n := by omega
      subst hkn
      go_wp2_with fail
      go_returns
      exact ⟨rfl, HB.out⟩
end Go.Proofs.YtjkfbeillmeomaaGreatDoor
