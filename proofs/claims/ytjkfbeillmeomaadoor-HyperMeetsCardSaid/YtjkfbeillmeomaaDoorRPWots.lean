/-
  Wots, WotsP, WotsQ, WotsR, WotsS: one text.
-/
import Derived.Test.YtjkfbeillmeomaaDoorRPLt
import Derived.Test.YtjkfbeillmeomaaDoorRMChain
import Derived.Test.YtjkfbeillmeomaaDoorRMDigits
namespace Go.Proofs.YtjkfbeillmeomaaDoor
set_option maxRecDepth 100000
open Go.ChangeShapes Go.WideShapes Go.ChangeAt Go.RowKit
def rowW (P : Nat → List Int) : List (List Int) := (List.range 67).map P
def fillW (P : Nat → List Int) (k : Nat) : List (List Int) := (List.range k).map P ++ List.replicate (67 - k) zD
theorem fillW_length {P : Nat → List Int} {k : Nat} (h : k ≤ 67) : (fillW P k).length = 67 := by
  simp only [fillW, List.length_append, List.length_map, List.length_range, List.length_replicate]
  omega
theorem fillW_each {P : Nat → List Int} (h : ∀ i, Dg (P i)) (k : Nat) : ∀ d ∈ fillW P k, Dg d := fun d hd => by
  unfold fillW at hd
  rcases List.mem_append.1 hd with hd | hd
  · obtain ⟨i, _, rfl⟩ := List.mem_map.1 hd
    exact h i
  · exact zRow _ d hd
theorem fillW_set {P : Nat → List Int} {k : Nat} (h : k < 67) : (fillW P k).set k (P k) = fillW P (k + 1) := by
  unfold fillW
  rw [List.set_append_right _ _ (by simp), show 67 - k = (67 - (k + 1)) + 1 by omega, List.replicate_succ, List.range_succ, List.map_append]
  simp
theorem fillW_zero (P : Nat → List Int) : fillW P 0 = List.replicate 67 zD := by simp [fillW]
theorem fillW_done (P : Nat → List Int) : fillW P 67 = rowW P := by simp [fillW, rowW]
theorem rowW_length (P : Nat → List Int) : (rowW P).length = 67 := by simp [rowW]
theorem rowW_each {P : Nat → List Int} (h : ∀ i, Dg (P i)) : ∀ d ∈ rowW P, Dg d := fun d hd => by
  obtain ⟨i, _, rfl⟩ := List.mem_map.1 hd
  exact h i
theorem rowW_get (P : Nat → List Int) {i : Nat} (h : i < 67) : (rowW P).getD i [] = P i := by
  simp [rowW, h]
theorem enter_run {P : Program} {f : FuncId} {fn : Func} {c : Code} (hf : P.funcs[f]? = some fn) (hname : (fn.name == "runtime.NumGoroutine") = false) (hb : fn.body = some c) (args : Array Value) (w : World) :
    (callFunc f args).run P w = .ok (.enter f args) w := by
  have h1 : fn.name ≠ "runtime.NumGoroutine" := by simpa using hname
  simp [callFunc, hf, h1, hb]
set_option maxHeartbeats 4000000 in
theorem each_any (ad : List Int) (f : FuncId) (cap : Array Value) (P : Nat → List Int) (w : World) (had : Aw ad) (hP : ∀ i, Dg (P i)) (hf : ∀ (args : Array Value) (W : World), (callFunc f args).run Tryd.prog W = .ok (.enter f args) W)
    (hp : ∀ i, i < 67 → ∀ W, Below w.heap.size w W → Calls Tryd.prog f (#[.int .i64 i, (.agg ((setAd ad i 0 0).map (Value.int .u32)).toArray)] ++ cap) W fun e w' => e = .returned (.agg ((P i).map (Value.int .u8)).toArray) ∧ Below W.heap.size W w') :
    Calls Tryd.prog 67 #[(.agg (ad.map (Value.int .u32)).toArray), .func (.func f) #[] cap] w fun e w' => ∃ g, w.heap.size ≤ g ∧ e = .returned (.slice (some ⟨g, 0, none⟩) 67 67) ∧ Below w.heap.size w w' ∧ Blk w' g (dcs (rowW P)) 23 := by
  have b1 := (Below.refl w.heap.size w).alloc (Nat.le_refl _) (.cells (ad.map (Value.int .u32)).toArray 26 (0, 0))
  have Kad := hid (Blk.new (w := w) (n := w.heap.size) rfl (ad.map (Value.int .u32)).toArray 26)
  have Hb := hid b1
  have HzA := hid zsize
  have hbz := b1.size
  have Hbs := hid (show w.heap.size + 1 = (w.alloc (.cells (ad.map (Value.int .u32)).toArray 26 (0, 0))).heap.size by simp only [World.size_alloc])
  clear b1
  have hb2 := Hb.out
  have b3 := hb2.alloc hb2.size (.cells (dcs (List.replicate 67 zD)) 23 (0, 0))
  have Kg3 := hid (Blk.new (w := (w.alloc (.cells (ad.map (Value.int .u32)).toArray 26 (0, 0)))) (n := (w.heap.size + 1)) (by simp only [World.size_alloc]) (dcs (List.replicate 67 zD)) 23)
  have Ka3 := hid (Kad.out.old (.cells (dcs (List.replicate 67 zD)) 23 (0, 0)))
  have Hb3 := hid b3
  clear b3 hb2
  have hmk := fun W : World => make_digs 67 67 rfl (by omega) W
  rw [← fillW_zero P] at Kg3
  go_enter Tryd.func67, Tryd.ntmps67
  go_wp2_with fail
  go_loopw [10] (fun v wr => ∃ k : Nat, k ≤ 67 ∧ v = .int .i64 k ∧ Blk wr (w.heap.size + 1) (dcs (fillW P k)) 23 ∧ Blk wr (w.heap.size) (ad.map (Value.int .u32)).toArray 26 ∧ Below w.heap.size w wr) (fun v _ => 67 - (intOf v).toNat)
  case atStart => exact ⟨0, Nat.zero_le _, rfl, Kg3.out, Ka3.out, Hb3.out⟩
  case round =>
    clear Kg3 Ka3 Hb3
    obtain ⟨k, hk, rfl, kg, ka, bel⟩ := hrel
    have Kgwr := hid kg
    have Kadwr := hid ka
    have HBwr := hid bel
    have hswr := bel.size
    clear kg ka bel
    by_cases hlt : k < 67
    · skip
      have hc0 : (k : Int) < 67 := by omega
      have HS := hid (fillW_set (P := P) hlt)
      have HC := hid (hp k hlt)
      have HP := hid (hP k)
      generalize hX : P k = X at *
      go_wp2_with (refine wpList_load_blk rfl 26 _ rfl (w.heap.size) rfl _ 26 Kadwr.out _ Tryd.underlying26 rfl 8 sizeAdrs had.size ?_)
      refine (at_list ad k 0 _ had).mono ?_
      rintro e w21 ⟨rfl, bw21⟩
      have HBw21 := hid (Below.on HBwr.out bw21)
      have hsw21 := HBw21.out.size
      have Kadw21 := hid (Kadwr.out.below bw21)
      have Kgw21 := hid (Kgwr.out.below bw21)
      clear bw21
      go_wp2_with fail
      refine (HC.out _ HBw21.out).mono ?_
      rintro e w22 ⟨rfl, bw22⟩
      have HBw22 := hid (Below.on HBw21.out bw22)
      have hsw22 := HBw22.out.size
      have Kadw22 := hid (Kadw21.out.below bw22)
      have Kgw22 := hid (Kgw21.out.below bw22)
      clear bw22
      go_wp2_with (first
         | (refine wpList_index_digs rfl 28 _ _ rfl Tryd.underlying28 size_digest (w.heap.size + 1) 0 67 67 rfl _ _ rfl k rfl hlt ?_)
         | (
            refine wpList_store_dig rfl _ _ _ rfl (w.heap.size + 1) k X rfl rfl _ 23 Kgw22.out (fillW_each hP k) HP.out (by rw [fillW_length hk]; exact hlt) size_digest ?_
            intro w6 hb6 hk6
            rw [HS.out] at hk6
            have H6 := hid (And.intro hk6 (And.intro (hb6.blk Kadw22.out (by omega)) (hb6.below HBw22.out HBw22.out.size (by omega))))
            clear hb6 hk6))
      exact ⟨⟨k + 1, by omega, by go_num, H6.out.1, H6.out.2.1, H6.out.2.2⟩, by simp [intOf]; omega⟩
    · skip
      have hk7 : k = 67 := by omega
      subst hk7
      have hc0 : ¬ ((67 : Int) < 67) := by omega
      rw [fillW_done] at Kgwr
      go_wp2_with fail
      go_ret
      exact ⟨(w.heap.size + 1), by omega, rfl, HBwr.out, Kgwr.out⟩
end Go.Proofs.YtjkfbeillmeomaaDoor
namespace Go.Proofs.YtjkfbeillmeomaaDoor
set_option maxRecDepth 100000
open Go.ChangeShapes Go.WideShapes Go.ChangeAt Go.RowKit
section
variable {P : Program} {ops : Array Oper} {rest : List Oper} {op : Oper} {a : Act} {w : World} {Q : Exit → Act → World → Prop}
theorem run_load_one {ty : TypeId} {ad : Addr} {v : Value} (w' : World) (hk : w'.cell? ad = some v) (d : TypeDesc) (hu : P.underlying ty = some d) (hd : d.isRow = false) : (loadVar ty ad).run P w' = .ok v w' := by
  have hagg : (isAgg ty).run P w' = .ok false w' := by
    unfold isAgg
    rw [Sem.run_bind, run_underlying hu w']
    cases d <;> simp_all
  simp [loadVar, Sem.run_bind, hagg, hk]
theorem quiet_load_one {C : World → Prop} {K : Act → Prop} (ty : TypeId) (x : Operand) (ho : op.op = .load ty x) (ad : Addr) (hx : a.eval x = .pointer (some ad)) (v : Value)
    (hk : ∀ w', C w' → w'.cell? ad = some v) (d : TypeDesc) (hu : P.underlying ty = some d) (hd : d.isRow = false)
    (h : K (a.put op.dst v)) : op.quiet P a C K :=
  ⟨v, fun w' hw' => by
    unfold Oper.quietAt execOp
    simp only [ho, hx, Instr.loadAt, Instr.sureAddr, Sem.run_bind, Sem.run_pure, Result.andThen_ok, run_load_one w' (hk w' hw') d hu hd]
    simp [Oper.quietUpon], h⟩
end
theorem digits_small {m : List Int} (h : Dg m) : ∀ x ∈ digits m, 0 ≤ x ∧ x ≤ 15 := fun x hx => by
  have hs := short_bounds (dig m) (dig_small m h.small)
  unfold digits at hx
  rcases List.mem_append.1 hx with hx | hx
  · exact dig_small m h.small x hx
  · simp only [List.mem_cons, List.not_mem_nil, or_false] at hx
    omega
/-- The digit at a place. -/
def dgN (m : List Int) (i : Nat) : Nat := ((digits m).getD i 0).toNat
theorem dgN_le {m : List Int} (h : Dg m) (i : Nat) : dgN m i ≤ 15 := by
  unfold dgN
  by_cases hi : i < (digits m).length
  · rw [List.getD_eq_getElem?_getD, List.getElem?_eq_getElem hi, Option.getD_some]
    have := digits_small h _ (List.getElem_mem hi)
    omega
  · rw [List.getD_eq_getElem?_getD, List.getElem?_eq_none (by omega), Option.getD_none]
    omega
theorem dgN_eq {m : List Int} (h : Dg m) {i : Nat} (hi : i < 67) : (digits m).getD i 0 = (dgN m i : Int) := by
  unfold dgN
  have hl := digits_length m h.len
  rw [List.getD_eq_getElem?_getD, List.getElem?_eq_getElem (by omega), Option.getD_some]
  have := digits_small h _ (List.getElem_mem (show i < (digits m).length by omega))
  omega
def partZ (seed ad : List Int) (i : Nat) : List Int := atZ seed (setAd ad i 0 0)
def pubP (seed pub ad : List Int) (i : Nat) : List Int := runZ pub (setAd ad i 0 0) (partZ seed ad i) 0 15
def sigP (m seed pub ad : List Int) (i : Nat) : List Int := runZ pub (setAd ad i 0 0) (partZ seed ad i) 0 (dgN m i)
def fromP (l : List (List Int)) (m pub ad : List Int) (i : Nat) : List Int := runZ pub (setAd ad i 0 0) (l.getD i zD) (dgN m i) (15 - dgN m i)
theorem Dg.part (seed ad : List Int) (i : Nat) : Dg (partZ seed ad i) := Dg.at_ _ _
theorem Dg.pubP (seed pub ad : List Int) (i : Nat) : Dg (pubP seed pub ad i) := Dg.run (Dg.part _ _ _) _ _
theorem Dg.sigP (m seed pub ad : List Int) (i : Nat) : Dg (sigP m seed pub ad i) := Dg.run (Dg.part _ _ _) _ _
theorem Dg.getZ {l : List (List Int)} (h : ∀ d ∈ l, Dg d) (i : Nat) : Dg (l.getD i zD) := by
  by_cases hi : i < l.length
  · rw [List.getD_eq_getElem?_getD, List.getElem?_eq_getElem hi, Option.getD_some]
    exact h _ (List.getElem_mem hi)
  · rw [List.getD_eq_getElem?_getD, List.getElem?_eq_none (by omega), Option.getD_none]
    exact Dg.zero
theorem Dg.fromP {l : List (List Int)} (h : ∀ d ∈ l, Dg d) (m pub ad : List Int) (i : Nat) : Dg (fromP l m pub ad i) := Dg.run (Dg.getZ h i) _ _
theorem getZ {l : List (List Int)} {i : Nat} (h : i < l.length) : l.getD i zD = l.getD i [] := by
  simp [h]
set_option maxHeartbeats 4000000 in
theorem wrun_any (x pub ad : List Int) (from_ steps : Nat) (w : World) (hx : Dg x) (hpub : Dg pub) (had : Aw ad) (hf : from_ + steps ≤ 15) (tab : ShaTab w) :
    Calls Tryd.prog 73 #[(.agg (x.map (Value.int .u8)).toArray), .int .i64 from_, .int .i64 steps, (.agg (pub.map (Value.int .u8)).toArray), (.agg (ad.map (Value.int .u32)).toArray)] w fun e w' => e = .returned (.agg ((runZ pub ad x from_ steps).map (Value.int .u8)).toArray) ∧ Below w.heap.size w w' := by
  have HR := hid (Dg.run (pub := pub) (ad := ad) hx from_ steps)
  have C1 := hid (fun (W : World) (t : ShaTab W) => run_good x pub ad from_ steps W hx hpub had hf t)
  generalize runZ pub ad x from_ steps = R at *
  have b1 := (Below.refl w.heap.size w).alloc (Nat.le_refl _) (.cells (x.map (Value.int .u8)).toArray 23 (0, 0))
  have b2 := b1.alloc b1.size (.cells (pub.map (Value.int .u8)).toArray 23 (0, 0))
  have b3 := b2.alloc b2.size (.cells (ad.map (Value.int .u32)).toArray 26 (0, 0))
  have b4 := b3.alloc b3.size (.cells (byteCells 32 []) 23 (0, 0))
  have Kx := hid ((((Blk.new (w := w) (n := w.heap.size) rfl (x.map (Value.int .u8)).toArray 23).old (.cells (pub.map (Value.int .u8)).toArray 23 (0, 0))).old (.cells (ad.map (Value.int .u32)).toArray 26 (0, 0))).old (.cells (byteCells 32 []) 23 (0, 0)))
  have Kp := hid (((Blk.new (w := (w.alloc (.cells (x.map (Value.int .u8)).toArray 23 (0, 0)))) (n := w.heap.size + 1) (by simp only [World.size_alloc]) (pub.map (Value.int .u8)).toArray 23).old (.cells (ad.map (Value.int .u32)).toArray 26 (0, 0))).old (.cells (byteCells 32 []) 23 (0, 0)))
  have Kad := hid ((Blk.new (w := ((w.alloc (.cells (x.map (Value.int .u8)).toArray 23 (0, 0))).alloc (.cells (pub.map (Value.int .u8)).toArray 23 (0, 0)))) (n := w.heap.size + 1 + 1) (by simp only [World.size_alloc]) (ad.map (Value.int .u32)).toArray 26).old (.cells (byteCells 32 []) 23 (0, 0)))
  have Kr0 := hid (Blk.new (w := (((w.alloc (.cells (x.map (Value.int .u8)).toArray 23 (0, 0))).alloc (.cells (pub.map (Value.int .u8)).toArray 23 (0, 0))).alloc (.cells (ad.map (Value.int .u32)).toArray 26 (0, 0)))) (n := w.heap.size + 1 + 1 + 1) (by simp only [World.size_alloc]) (byteCells 32 []) 23)
  have Hb := hid b4
  have HzA := hid zsize
  have hbz := b4.size
  have Hbs := hid (show w.heap.size + 1 + 1 + 1 + 1 = ((((w.alloc (.cells (x.map (Value.int .u8)).toArray 23 (0, 0))).alloc (.cells (pub.map (Value.int .u8)).toArray 23 (0, 0))).alloc (.cells (ad.map (Value.int .u32)).toArray 26 (0, 0))).alloc (.cells (byteCells 32 []) 23 (0, 0))).heap.size by simp only [World.size_alloc])
  have Htab := hid tab
  clear b1 b2 b3 b4 tab
  go_enter Tryd.func73, Tryd.ntmps73
  go_wp2_with (first
     | (refine wpList_load_blk rfl 23 _ rfl (w.heap.size) rfl _ 23 Kx.out _ Tryd.underlying23 rfl 32 size_digest hx.size ?_)
     | (refine wpList_load_blk rfl 23 _ rfl (w.heap.size + 1) rfl _ 23 Kp.out _ Tryd.underlying23 rfl 32 size_digest hpub.size ?_)
     | (refine wpList_load_blk rfl 26 _ rfl (w.heap.size + 1 + 1) rfl _ 26 Kad.out _ Tryd.underlying26 rfl 8 sizeAdrs had.size ?_))
  refine (C1.out _ (Htab.out.below Hb.out)).mono ?_
  rintro e w1 ⟨rfl, bw1⟩
  have HBw1 := hid (Below.on Hb.out bw1)
  have hsw1 := HBw1.out.size
  have Kxw1 := hid (Kx.out.below bw1)
  have Kpw1 := hid (Kp.out.below bw1)
  have Kadw1 := hid (Kad.out.below bw1)
  have Kr0w1 := hid (Kr0.out.below bw1)
  clear bw1
  go_wp2_with (first
     | (
        refine wpList_store_blk rfl 23 _ _ rfl (w1.heap.size) (R.map (Value.int .u8)).toArray rfl rfl _ 23 (Blk.new rfl (byteCells 32 []) _) 32 size_digest HzA.out HR.out.size (ints_one _ _) ?_
        intro w2 hbw2 hkw2
        have HBw2 := hid (hbw2.below (HBw1.out.alloc HBw1.out.size _) (by simp only [World.size_alloc]; omega) (by have := HBw1.out.size; omega))
        have hsw2 := HBw2.out.size
        have Kyw2 := hid hkw2
        have Kxw2 := hid (hbw2.blk (Kxw1.out.old _) (by have := Kxw1.out.lt; omega))
        have Kpw2 := hid (hbw2.blk (Kpw1.out.old _) (by have := Kpw1.out.lt; omega))
        have Kadw2 := hid (hbw2.blk (Kadw1.out.old _) (by have := Kadw1.out.lt; omega))
        have Kr0w2 := hid (hbw2.blk (Kr0w1.out.old _) (by have := Kr0w1.out.lt; omega))
        clear hbw2 hkw2)
     | (refine wpList_load_blk rfl 23 _ rfl (w1.heap.size) rfl _ 23 Kyw2.out _ Tryd.underlying23 rfl 32 size_digest HR.out.size ?_)
     | (
      refine wpList_store_blk rfl 23 _ _ rfl (w.heap.size + 1 + 1 + 1) (R.map (Value.int .u8)).toArray rfl rfl _ 23 Kr0w2.out 32 size_digest HzA.out HR.out.size (ints_one _ _) ?_
      intro w9 hb9 hk9
      have HB9 := hid (hb9.below HBw2.out HBw2.out.size (by omega))
      have HK9 := hid hk9
      clear hb9 hk9))
  exact bodyPost_ret (v := (.agg (R.map (Value.int .u8)).toArray)) (results_blk Tryd.results73 _ (w.heap.size + 1 + 1 + 1) rfl _ 23 HK9.out _ Tryd.underlying23 rfl 32 size_digest HR.out.size) rfl ⟨rfl, HB9.out⟩
set_option maxHeartbeats 4000000 in
theorem public1_any (seed pub ad : List Int) (i bs bp : Nat) (w : World) (hseed : Dg seed) (hpub : Dg pub) (had : Aw ad) (ks : Blk w bs (seed.map (Value.int .u8)).toArray 23) (kp : Blk w bp (pub.map (Value.int .u8)).toArray 23) (tab : ShaTab w) :
    Calls Tryd.prog 72 #[.int .i64 i, (.agg (ad.map (Value.int .u32)).toArray), .pointer (some ⟨bs, 0, none⟩), .pointer (some ⟨bp, 0, none⟩)] w fun e w' => e = .returned (.agg ((runZ pub ad (atZ seed ad) 0 15).map (Value.int .u8)).toArray) ∧ Below w.heap.size w w' := by
  have HA := hid (Dg.at_ seed ad)
  have HR := hid (Dg.run (pub := pub) (ad := ad) HA.out 0 15)
  have C1 := hid (fun (W : World) (t : ShaTab W) => At_any seed ad W hseed had t)
  have C2 := hid (fun (W : World) (t : ShaTab W) => wrun_any (atZ seed ad) pub ad 0 15 W HA.out hpub had (by omega) t)
  generalize atZ seed ad = X at *
  generalize runZ pub ad X 0 15 = R at *
  have b1 := (Below.refl w.heap.size w).alloc (Nat.le_refl _) (.cells (ad.map (Value.int .u32)).toArray 26 (0, 0))
  have b2 := b1.alloc b1.size (.cells (byteCells 32 []) 23 (0, 0))
  have Ka := hid ((Blk.new (w := w) (n := w.heap.size) rfl (ad.map (Value.int .u32)).toArray 26).old (.cells (byteCells 32 []) 23 (0, 0)))
  have Kr0 := hid (Blk.new (w := (w.alloc (.cells (ad.map (Value.int .u32)).toArray 26 (0, 0)))) (n := w.heap.size + 1) (by simp only [World.size_alloc]) (byteCells 32 []) 23)
  have Hb := hid b2
  have HzA := hid zsize
  have hbz := b2.size
  have Hbs := hid (show w.heap.size + 1 + 1 = ((w.alloc (.cells (ad.map (Value.int .u32)).toArray 26 (0, 0))).alloc (.cells (byteCells 32 []) 23 (0, 0))).heap.size by simp only [World.size_alloc])
  have Ks := hid (ks.below b2)
  have Kp := hid (kp.below b2)
  have Htab := hid tab
  clear b1 b2 tab
  go_enter Tryd.func72, Tryd.ntmps72
  go_wp2_with fail
  refine wp_region_flow 6 (List.range 6) [] [] (by kernel_rfl) (by kernel_rfl) ?_
  apply Exists.intro
  refine ⟨fun w0 hb0 hF0 => ?_, ?_⟩
  · skip
    have x0 : ∀ w', (∃ x : Ext w0, w' = x.at_) → ∃ T, Blk w' (bs) (seed.map (Value.int .u8)).toArray T := fun w' ⟨x, hx⟩ => ⟨_, hx ▸ (Ks.out.below hb0).below x.same⟩
    have x1 : ∀ w', (∃ x : Ext w0, w' = x.at_) → ∃ T, Blk w' (bp) (pub.map (Value.int .u8)).toArray T := fun w' ⟨x, hx⟩ => ⟨_, hx ▸ (Kp.out.below hb0).below x.same⟩
    have x2 : ∀ w', (∃ x : Ext w0, w' = x.at_) → ∃ T, Blk w' (w.heap.size) (ad.map (Value.int .u32)).toArray T := fun w' ⟨x, hx⟩ => ⟨_, hx ▸ (Ka.out.below hb0).below x.same⟩
    have c0 := fun e : Ext w0 => C1.out e.at_ ((Htab.out.below (Below.on Hb.out hb0)).below e.same)
    have c1 := fun e : Ext w0 => C2.out e.at_ ((Htab.out.below (Below.on Hb.out hb0)).below e.same)
    simp only [pick, List.range, List.range.loop, List.getElem?_toArray, List.getElem?_cons_succ, List.getElem?_cons_zero, Option.toList_some, List.cons_append, List.nil_append]
    repeat (first | (go_big_quiet_want; refine quiet_load_blk 23 _ rfl (bs) rfl _ x0 _ Tryd.underlying23 rfl 32 size_digest hseed.size ?_; go_big_quiet_on; simp only [Act.put, List.setIfInBounds_toArray, List.set_cons_zero, List.set_cons_succ]) | (go_big_quiet_want; refine quiet_load_blk 23 _ rfl (bp) rfl _ x1 _ Tryd.underlying23 rfl 32 size_digest hpub.size ?_; go_big_quiet_on; simp only [Act.put, List.setIfInBounds_toArray, List.set_cons_zero, List.set_cons_succ]) | (go_big_quiet_want; refine quiet_load_blk 26 _ rfl (w.heap.size) rfl _ x2 _ Tryd.underlying26 rfl 8 sizeAdrs had.size ?_; go_big_quiet_on; simp only [Act.put, List.setIfInBounds_toArray, List.set_cons_zero, List.set_cons_succ]) | go_big_quiet_step (first | (go_at_call 69; with_reducible exact Calls.ext (c0 _)) | (go_at_call 73; with_reducible exact Calls.ext (c1 _))))
    exact wpQuiet_nil rfl
  refine AlChk.nil ?_
  refine Walk.fin fun w1 hw1 _ _ => ?_
  simp only [List.drop_succ_cons, List.drop_zero]
  have HBw1 := hid (Below.on Hb.out hw1)
  have hsw1 := HBw1.out.size
  have Kaw1 := hid (Ka.out.below hw1)
  have Kr0w1 := hid (Kr0.out.below hw1)
  have Ksw1 := hid (Ks.out.below hw1)
  have Kpw1 := hid (Kp.out.below hw1)
  clear hw1
  go_wp2_with (
      refine wpList_store_blk rfl 23 _ _ rfl (w.heap.size + 1) (R.map (Value.int .u8)).toArray rfl rfl _ 23 Kr0w1.out 32 size_digest HzA.out HR.out.size (ints_one _ _) ?_
      intro w9 hb9 hk9
      have HB9 := hid (hb9.below HBw1.out HBw1.out.size (by omega))
      have HK9 := hid hk9
      clear hb9 hk9)
  exact bodyPost_ret (v := (.agg (R.map (Value.int .u8)).toArray)) (results_blk Tryd.results72 _ (w.heap.size + 1) rfl _ 23 HK9.out _ Tryd.underlying23 rfl 32 size_digest HR.out.size) rfl ⟨rfl, HB9.out⟩
set_option maxHeartbeats 4000000 in
theorem sign1_any (seed pub ad st : List Int) (i n bs bt bp : Nat) (w : World) (hseed : Dg seed) (hpub : Dg pub) (had : Aw ad) (hi : i < 67) (hn : n ≤ 15) (hst : (st.map (Value.int .i64)).toArray[i]? = some (.int .i64 (n : Int)))
    (ks : Blk w bs (seed.map (Value.int .u8)).toArray 23) (kt : Blk w bt (st.map (Value.int .i64)).toArray 113) (kp : Blk w bp (pub.map (Value.int .u8)).toArray 23) (tab : ShaTab w) :
    Calls Tryd.prog 77 #[.int .i64 i, (.agg (ad.map (Value.int .u32)).toArray), .pointer (some ⟨bs, 0, none⟩), .pointer (some ⟨bt, 0, none⟩), .pointer (some ⟨bp, 0, none⟩)] w fun e w' => e = .returned (.agg ((runZ pub ad (atZ seed ad) 0 n).map (Value.int .u8)).toArray) ∧ Below w.heap.size w w' := by
  have HA := hid (Dg.at_ seed ad)
  have HD := hid hst
  have hi67 : (i : Int) < 67 := by omega
  clear hst
  have HR := hid (Dg.run (pub := pub) (ad := ad) HA.out 0 n)
  have C1 := hid (fun (W : World) (t : ShaTab W) => At_any seed ad W hseed had t)
  have C2 := hid (fun (W : World) (t : ShaTab W) => wrun_any (atZ seed ad) pub ad 0 n W HA.out hpub had (by omega) t)
  generalize atZ seed ad = X at *
  generalize runZ pub ad X 0 n = R at *
  have b1 := (Below.refl w.heap.size w).alloc (Nat.le_refl _) (.cells (ad.map (Value.int .u32)).toArray 26 (0, 0))
  have b2 := b1.alloc b1.size (.cells (byteCells 32 []) 23 (0, 0))
  have Ka := hid ((Blk.new (w := w) (n := w.heap.size) rfl (ad.map (Value.int .u32)).toArray 26).old (.cells (byteCells 32 []) 23 (0, 0)))
  have Kr0 := hid (Blk.new (w := (w.alloc (.cells (ad.map (Value.int .u32)).toArray 26 (0, 0)))) (n := w.heap.size + 1) (by simp only [World.size_alloc]) (byteCells 32 []) 23)
  have Hb := hid b2
  have HzA := hid zsize
  have hbz := b2.size
  have Hbs := hid (show w.heap.size + 1 + 1 = ((w.alloc (.cells (ad.map (Value.int .u32)).toArray 26 (0, 0))).alloc (.cells (byteCells 32 []) 23 (0, 0))).heap.size by simp only [World.size_alloc])
  have Ks := hid (ks.below b2)
  have Kt := hid (kt.below b2)
  have Kp := hid (kp.below b2)
  have Htab := hid tab
  clear b1 b2 tab
  go_enter Tryd.func77, Tryd.ntmps77
  go_wp2_with fail
  refine wp_region_flow 9 (List.range 9) [] [] (by kernel_rfl) (by kernel_rfl) ?_
  apply Exists.intro
  refine ⟨fun w0 hb0 hF0 => ?_, ?_⟩
  · skip
    have x0 : ∀ w', (∃ x : Ext w0, w' = x.at_) → ∃ T, Blk w' (bs) (seed.map (Value.int .u8)).toArray T := fun w' ⟨x, hx⟩ => ⟨_, hx ▸ (Ks.out.below hb0).below x.same⟩
    have x1 : ∀ w', (∃ x : Ext w0, w' = x.at_) → ∃ T, Blk w' (bp) (pub.map (Value.int .u8)).toArray T := fun w' ⟨x, hx⟩ => ⟨_, hx ▸ (Kp.out.below hb0).below x.same⟩
    have x2 : ∀ w', (∃ x : Ext w0, w' = x.at_) → ∃ T, Blk w' (w.heap.size) (ad.map (Value.int .u32)).toArray T := fun w' ⟨x, hx⟩ => ⟨_, hx ▸ (Ka.out.below hb0).below x.same⟩
    have c0 := fun e : Ext w0 => C1.out e.at_ ((Htab.out.below (Below.on Hb.out hb0)).below e.same)
    have c1 := fun e : Ext w0 => C2.out e.at_ ((Htab.out.below (Below.on Hb.out hb0)).below e.same)
    have y0 : ∀ w', (∃ x : Ext w0, w' = x.at_) → w'.cell? ⟨bt, i, none⟩ = some (.int .i64 (n : Int)) := fun w' ⟨x, hx⟩ => by rw [hx, (((Kt.out).below hb0).below x.same).cell, HD.out]
    simp only [pick, List.range, List.range.loop, List.getElem?_toArray, List.getElem?_cons_succ, List.getElem?_cons_zero, Option.toList_some, List.cons_append, List.nil_append]
    repeat (first | (go_big_quiet_want; refine quiet_load_blk 23 _ rfl (bs) rfl _ x0 _ Tryd.underlying23 rfl 32 size_digest hseed.size ?_; go_big_quiet_on; simp only [Act.put, List.setIfInBounds_toArray, List.set_cons_zero, List.set_cons_succ]) | (go_big_quiet_want; refine quiet_load_blk 23 _ rfl (bp) rfl _ x1 _ Tryd.underlying23 rfl 32 size_digest hpub.size ?_; go_big_quiet_on; simp only [Act.put, List.setIfInBounds_toArray, List.set_cons_zero, List.set_cons_succ]) | (go_big_quiet_want; refine quiet_load_blk 26 _ rfl (w.heap.size) rfl _ x2 _ Tryd.underlying26 rfl 8 sizeAdrs had.size ?_; go_big_quiet_on; simp only [Act.put, List.setIfInBounds_toArray, List.set_cons_zero, List.set_cons_succ]) | (go_big_quiet_want; refine quiet_load_one 3 _ rfl ⟨bt, i, none⟩ rfl _ y0 _ Tryd.underlying3 rfl ?_; go_big_quiet_on; simp only [Act.put, List.setIfInBounds_toArray, List.set_cons_zero, List.set_cons_succ]) | go_big_quiet_step (first | (go_at_call 69; with_reducible exact Calls.ext (c0 _)) | (go_at_call 73; with_reducible exact Calls.ext (c1 _))))
    exact wpQuiet_nil rfl
  refine AlChk.nil ?_
  refine Walk.fin fun w1 hw1 _ _ => ?_
  simp only [List.drop_succ_cons, List.drop_zero]
  have HBw1 := hid (Below.on Hb.out hw1)
  have hsw1 := HBw1.out.size
  have Kaw1 := hid (Ka.out.below hw1)
  have Kr0w1 := hid (Kr0.out.below hw1)
  have Ksw1 := hid (Ks.out.below hw1)
  have Ktw1 := hid (Kt.out.below hw1)
  have Kpw1 := hid (Kp.out.below hw1)
  clear hw1
  go_wp2_with (
      refine wpList_store_blk rfl 23 _ _ rfl (w.heap.size + 1) (R.map (Value.int .u8)).toArray rfl rfl _ 23 Kr0w1.out 32 size_digest HzA.out HR.out.size (ints_one _ _) ?_
      intro w9 hb9 hk9
      have HB9 := hid (hb9.below HBw1.out HBw1.out.size (by omega))
      have HK9 := hid hk9
      clear hb9 hk9)
  exact bodyPost_ret (v := (.agg (R.map (Value.int .u8)).toArray)) (results_blk Tryd.results77 _ (w.heap.size + 1) rfl _ 23 HK9.out _ Tryd.underlying23 rfl 32 size_digest HR.out.size) rfl ⟨rfl, HB9.out⟩
set_option maxHeartbeats 4000000 in
theorem from1_any (ls : List (List Int)) (na : Option Addr) (nc : Nat) (pub ad st : List Int) (i n bl bt bp : Nat) (w : World) (hN : DigsAt w na 67 nc ls) (hpub : Dg pub) (had : Aw ad) (hi : i < 67) (hn : n ≤ 15) (hst : (st.map (Value.int .i64)).toArray[i]? = some (.int .i64 (n : Int)))
    (kl : Blk w bl #[.slice na 67 nc] 28) (kt : Blk w bt (st.map (Value.int .i64)).toArray 113) (kp : Blk w bp (pub.map (Value.int .u8)).toArray 23) (tab : ShaTab w) :
    Calls Tryd.prog 79 #[.int .i64 i, (.agg (ad.map (Value.int .u32)).toArray), .pointer (some ⟨bl, 0, none⟩), .pointer (some ⟨bt, 0, none⟩), .pointer (some ⟨bp, 0, none⟩)] w fun e w' => e = .returned (.agg ((runZ pub ad (ls.getD i []) n (15 - n)).map (Value.int .u8)).toArray) ∧ Below w.heap.size w w' := by
  have HX := hid (hN.get (j := i) hi)
  have HD := hid hst
  have hi67 : (i : Int) < 67 := by omega
  have hmx := hN.max
  have hle := hN.le
  clear hst
  have HR := hid (Dg.run (pub := pub) (ad := ad) HX.out n (15 - n))
  have C2 := hid (show ∀ (W : World) (t : ShaTab W), Calls Tryd.prog 73 #[(.agg ((ls.getD i []).map (Value.int .u8)).toArray), .int .i64 n, .int .i64 (15 - (n : Int)), (.agg (pub.map (Value.int .u8)).toArray), (.agg (ad.map (Value.int .u32)).toArray)] W (fun e w' => e = .returned (.agg ((runZ pub ad (ls.getD i []) n (15 - n)).map (Value.int .u8)).toArray) ∧ Below W.heap.size W w') from fun W t => by
    have := wrun_any (ls.getD i []) pub ad n (15 - n) W HX.out hpub had (by omega) t
    rw [show ((15 - n : Nat) : Int) = 15 - (n : Int) by omega] at this
    exact this)
  have b1 := (Below.refl w.heap.size w).alloc (Nat.le_refl _) (.cells (ad.map (Value.int .u32)).toArray 26 (0, 0))
  have b2 := b1.alloc b1.size (.cells (byteCells 32 []) 23 (0, 0))
  have Ka := hid ((Blk.new (w := w) (n := w.heap.size) rfl (ad.map (Value.int .u32)).toArray 26).old (.cells (byteCells 32 []) 23 (0, 0)))
  have Kr0 := hid (Blk.new (w := (w.alloc (.cells (ad.map (Value.int .u32)).toArray 26 (0, 0)))) (n := w.heap.size + 1) (by simp only [World.size_alloc]) (byteCells 32 []) 23)
  have Hb := hid b2
  have HzA := hid zsize
  have hbz := b2.size
  have Hbs := hid (show w.heap.size + 1 + 1 = ((w.alloc (.cells (ad.map (Value.int .u32)).toArray 26 (0, 0))).alloc (.cells (byteCells 32 []) 23 (0, 0))).heap.size by simp only [World.size_alloc])
  have Kl := hid (kl.below b2)
  have Kt := hid (kt.below b2)
  have Kp := hid (kp.below b2)
  have Htab := hid tab
  clear b1 b2 tab
  obtain ⟨xs, xo, rfl, hxs, hcell⟩ := (hN.below Hb.out).at_ (by omega)
  have Hc := hid (hcell i hi)
  have Hxs := hid hxs
  clear hcell hxs hN
  generalize ls.getD i [] = X at *
  generalize runZ pub ad X n (15 - n) = R at *
  go_enter Tryd.func79, Tryd.ntmps79
  go_wp2_with fail
  refine wp_region_flow 14 (List.range 14) [] [] (by kernel_rfl) (by kernel_rfl) ?_
  apply Exists.intro
  refine ⟨fun w0 hb0 hF0 => ?_, ?_⟩
  · skip
    have x0 : ∀ w', (∃ x : Ext w0, w' = x.at_) → ∃ T, Blk w' (bp) (pub.map (Value.int .u8)).toArray T := fun w' ⟨x, hx⟩ => ⟨_, hx ▸ (Kp.out.below hb0).below x.same⟩
    have x1 : ∀ w', (∃ x : Ext w0, w' = x.at_) → ∃ T, Blk w' (w.heap.size) (ad.map (Value.int .u32)).toArray T := fun w' ⟨x, hx⟩ => ⟨_, hx ▸ (Ka.out.below hb0).below x.same⟩
    have c0 := fun e : Ext w0 => C2.out e.at_ ((Htab.out.below (Below.on Hb.out hb0)).below e.same)
    have y0 : ∀ w', (∃ x : Ext w0, w' = x.at_) → w'.cell? ⟨bt, i, none⟩ = some (.int .i64 (n : Int)) := fun w' ⟨x, hx⟩ => by rw [hx, (((Kt.out).below hb0).below x.same).cell, HD.out]
    have y1 : ∀ w', (∃ x : Ext w0, w' = x.at_) → w'.cell? ⟨bl, 0, none⟩ = some (.slice (some ⟨xs, xo, none⟩) 67 nc) := fun w' ⟨x, hx⟩ => by rw [hx, (((Kl.out).below hb0).below x.same).cell]; rfl
    have y2 : ∀ w', (∃ x : Ext w0, w' = x.at_) → w'.rangeAt xs (xo + i * 32) (X.map (Value.int .u8)) := fun w' ⟨x, hx⟩ => hx ▸ rangeAt_below (rangeAt_below Hc.out Hxs.out hb0) (Nat.lt_of_lt_of_le Hxs.out hb0.size) x.same
    simp only [pick, List.range, List.range.loop, List.getElem?_toArray, List.getElem?_cons_succ, List.getElem?_cons_zero, Option.toList_some, List.cons_append, List.nil_append]
    repeat (first | (go_big_quiet_want; refine quiet_load_blk 23 _ rfl (bp) rfl _ x0 _ Tryd.underlying23 rfl 32 size_digest hpub.size ?_; go_big_quiet_on; simp only [Act.put, List.setIfInBounds_toArray, List.set_cons_zero, List.set_cons_succ]) | (go_big_quiet_want; refine quiet_load_blk 26 _ rfl (w.heap.size) rfl _ x1 _ Tryd.underlying26 rfl 8 sizeAdrs had.size ?_; go_big_quiet_on; simp only [Act.put, List.setIfInBounds_toArray, List.set_cons_zero, List.set_cons_succ]) | (go_big_quiet_want; refine quiet_load_one 3 _ rfl ⟨bt, i, none⟩ rfl _ y0 _ Tryd.underlying3 rfl ?_; go_big_quiet_on; simp only [Act.put, List.setIfInBounds_toArray, List.set_cons_zero, List.set_cons_succ]) | (go_big_quiet_want; refine quiet_load_one 28 _ rfl ⟨bl, 0, none⟩ rfl _ y1 _ Tryd.underlying28 rfl ?_; go_big_quiet_on; simp only [Act.put, List.setIfInBounds_toArray, List.set_cons_zero, List.set_cons_succ]) | (go_big_quiet_want; refine quiet_index_digs 28 _ _ rfl Tryd.underlying28 size_digest xs xo 67 nc rfl _ _ rfl i (by omega) (by omega) ?_; go_big_quiet_on; simp only [Act.put, List.setIfInBounds_toArray, List.set_cons_zero, List.set_cons_succ]) | (go_big_quiet_want; refine quiet_load_mid 23 _ rfl xs (xo + i * 32) rfl _ y2 _ Tryd.underlying23 rfl (by rw [List.length_map, HX.out.len]; exact size_digest) ?_; go_big_quiet_on; simp only [Act.put, List.setIfInBounds_toArray, List.set_cons_zero, List.set_cons_succ]) | go_big_quiet_step (first | (go_at_call 73; with_reducible exact Calls.ext (c0 _))))
    exact wpQuiet_nil rfl
  refine AlChk.nil ?_
  refine Walk.fin fun w1 hw1 _ _ => ?_
  simp only [List.drop_succ_cons, List.drop_zero]
  have HBw1 := hid (Below.on Hb.out hw1)
  have hsw1 := HBw1.out.size
  have Kaw1 := hid (Ka.out.below hw1)
  have Kr0w1 := hid (Kr0.out.below hw1)
  have Klw1 := hid (Kl.out.below hw1)
  have Ktw1 := hid (Kt.out.below hw1)
  have Kpw1 := hid (Kp.out.below hw1)
  clear hw1
  go_wp2_with (
      refine wpList_store_blk rfl 23 _ _ rfl (w.heap.size + 1) (R.map (Value.int .u8)).toArray rfl rfl _ 23 Kr0w1.out 32 size_digest HzA.out HR.out.size (ints_one _ _) ?_
      intro w9 hb9 hk9
      have HB9 := hid (hb9.below HBw1.out HBw1.out.size (by omega))
      have HK9 := hid hk9
      clear hb9 hk9)
  exact bodyPost_ret (v := (.agg (R.map (Value.int .u8)).toArray)) (results_blk Tryd.results79 _ (w.heap.size + 1) rfl _ 23 HK9.out _ Tryd.underlying23 rfl 32 size_digest HR.out.size) rfl ⟨rfl, HB9.out⟩
end Go.Proofs.YtjkfbeillmeomaaDoor
namespace Go.Proofs.YtjkfbeillmeomaaDoor
set_option maxRecDepth 100000
open Go.ChangeShapes Go.WideShapes Go.ChangeAt Go.RowKit
theorem makeFunc_run (fn : Fn) (first cap : Array Value) (w : World) : (Instr.makeFunc fn first cap).run Tryd.prog w = .ok (.func fn first cap) w := rfl
set_option maxHeartbeats 4000000 in
theorem public_any (seed pub ad : List Int) (w : World) (hseed : Dg seed) (hpub : Dg pub) (had : Aw ad) (tab : ShaTab w) :
    Calls Tryd.prog 20 #[(.agg (seed.map (Value.int .u8)).toArray), (.agg (pub.map (Value.int .u8)).toArray), (.agg (ad.map (Value.int .u32)).toArray)] w fun e w' => ∃ g, w.heap.size ≤ g ∧ e = .returned (.slice (some ⟨g, 0, none⟩) 67 67) ∧ Below w.heap.size w w' ∧ Blk w' g (dcs (rowW (pubP seed pub ad))) 23 := by
  have b1 := (Below.refl w.heap.size w).alloc (Nat.le_refl _) (.cells (seed.map (Value.int .u8)).toArray 23 (0, 0))
  have b2 := b1.alloc b1.size (.cells (pub.map (Value.int .u8)).toArray 23 (0, 0))
  have b3 := b2.alloc b2.size (.cells (ad.map (Value.int .u32)).toArray 26 (0, 0))
  have Ks := hid (((Blk.new (w := w) (n := w.heap.size) rfl (seed.map (Value.int .u8)).toArray 23).old (.cells (pub.map (Value.int .u8)).toArray 23 (0, 0))).old (.cells (ad.map (Value.int .u32)).toArray 26 (0, 0)))
  have Kp := hid ((Blk.new (w := (w.alloc (.cells (seed.map (Value.int .u8)).toArray 23 (0, 0)))) (n := w.heap.size + 1) (by simp only [World.size_alloc]) (pub.map (Value.int .u8)).toArray 23).old (.cells (ad.map (Value.int .u32)).toArray 26 (0, 0)))
  have Kad := hid (Blk.new (w := ((w.alloc (.cells (seed.map (Value.int .u8)).toArray 23 (0, 0))).alloc (.cells (pub.map (Value.int .u8)).toArray 23 (0, 0)))) (n := w.heap.size + 1 + 1) (by simp only [World.size_alloc]) (ad.map (Value.int .u32)).toArray 26)
  have Hb := hid b3
  have HzA := hid zsize
  have hbz := b3.size
  have Hbs := hid (show w.heap.size + 1 + 1 + 1 = (((w.alloc (.cells (seed.map (Value.int .u8)).toArray 23 (0, 0))).alloc (.cells (pub.map (Value.int .u8)).toArray 23 (0, 0))).alloc (.cells (ad.map (Value.int .u32)).toArray 26 (0, 0))).heap.size by simp only [World.size_alloc])
  have Htab := hid tab
  clear b1 b2 b3 tab
  have hmf := makeFunc_run
  go_enter Tryd.func20, Tryd.ntmps20
  go_wp2_with (refine wpList_load_blk rfl 26 _ rfl (w.heap.size + 1 + 1) rfl _ 26 Kad.out _ Tryd.underlying26 rfl 8 sizeAdrs had.size ?_)
  refine (each_any ad 72 #[.pointer (some ⟨w.heap.size, 0, none⟩), .pointer (some ⟨w.heap.size + 1, 0, none⟩)] (pubP seed pub ad) _ had (Dg.pubP seed pub ad) (enter_run Tryd.func72 rfl rfl) (fun i hi W hb => ?_)).mono ?_
  · simp only [List.append_toArray, List.cons_append, List.nil_append]
    exact public1_any seed pub (setAd ad i 0 0) i w.heap.size (w.heap.size + 1) W hseed hpub (had.set (by omega) (by omega) (by omega)) (Ks.out.below hb) (Kp.out.below hb) ((Htab.out.below Hb.out).below hb)
  rintro e w9 ⟨g, hg, rfl, b9, kg⟩
  have hgw : w.heap.size ≤ g := Nat.le_trans Hb.out.size hg
  have HB9 := hid (Below.on Hb.out b9)
  have HG := hid kg
  clear b9 kg hg
  go_wp2_with fail
  go_ret
  exact ⟨g, hgw, rfl, HB9.out, HG.out⟩
set_option maxHeartbeats 4000000 in
theorem sign_any (m seed pub ad : List Int) (w : World) (hm : Dg m) (hseed : Dg seed) (hpub : Dg pub) (had : Aw ad) (tab : ShaTab w) :
    Calls Tryd.prog 23 #[(.agg (m.map (Value.int .u8)).toArray), (.agg (seed.map (Value.int .u8)).toArray), (.agg (pub.map (Value.int .u8)).toArray), (.agg (ad.map (Value.int .u32)).toArray)] w fun e w' => ∃ g, w.heap.size ≤ g ∧ e = .returned (.slice (some ⟨g, 0, none⟩) 67 67) ∧ Below w.heap.size w w' ∧ Blk w' g (dcs (rowW (sigP m seed pub ad))) 23 := by
  have Hdl := hid (show ((digits m).map (Value.int .i64)).toArray.size = 67 by simp [digits_length m hm.len])
  have Hz67 := hid zero67
  have hmf := makeFunc_run
  have b1 := (Below.refl w.heap.size w).alloc (Nat.le_refl _) (.cells (m.map (Value.int .u8)).toArray 23 (0, 0))
  have b2 := b1.alloc b1.size (.cells (seed.map (Value.int .u8)).toArray 23 (0, 0))
  have b3 := b2.alloc b2.size (.cells (pub.map (Value.int .u8)).toArray 23 (0, 0))
  have b4 := b3.alloc b3.size (.cells (ad.map (Value.int .u32)).toArray 26 (0, 0))
  have Km := hid ((((Blk.new (w := w) (n := w.heap.size) rfl (m.map (Value.int .u8)).toArray 23).old (.cells (seed.map (Value.int .u8)).toArray 23 (0, 0))).old (.cells (pub.map (Value.int .u8)).toArray 23 (0, 0))).old (.cells (ad.map (Value.int .u32)).toArray 26 (0, 0)))
  have Ks := hid (((Blk.new (w := (w.alloc (.cells (m.map (Value.int .u8)).toArray 23 (0, 0)))) (n := w.heap.size + 1) (by simp only [World.size_alloc]) (seed.map (Value.int .u8)).toArray 23).old (.cells (pub.map (Value.int .u8)).toArray 23 (0, 0))).old (.cells (ad.map (Value.int .u32)).toArray 26 (0, 0)))
  have Kp := hid ((Blk.new (w := ((w.alloc (.cells (m.map (Value.int .u8)).toArray 23 (0, 0))).alloc (.cells (seed.map (Value.int .u8)).toArray 23 (0, 0)))) (n := w.heap.size + 1 + 1) (by simp only [World.size_alloc]) (pub.map (Value.int .u8)).toArray 23).old (.cells (ad.map (Value.int .u32)).toArray 26 (0, 0)))
  have Kad := hid (Blk.new (w := (((w.alloc (.cells (m.map (Value.int .u8)).toArray 23 (0, 0))).alloc (.cells (seed.map (Value.int .u8)).toArray 23 (0, 0))).alloc (.cells (pub.map (Value.int .u8)).toArray 23 (0, 0)))) (n := w.heap.size + 1 + 1 + 1) (by simp only [World.size_alloc]) (ad.map (Value.int .u32)).toArray 26)
  have Hb := hid b4
  have HzA := hid zsize
  have hbz := b4.size
  have Hbs := hid (show w.heap.size + 1 + 1 + 1 + 1 = ((((w.alloc (.cells (m.map (Value.int .u8)).toArray 23 (0, 0))).alloc (.cells (seed.map (Value.int .u8)).toArray 23 (0, 0))).alloc (.cells (pub.map (Value.int .u8)).toArray 23 (0, 0))).alloc (.cells (ad.map (Value.int .u32)).toArray 26 (0, 0))).heap.size by simp only [World.size_alloc])
  have Htab := hid tab
  clear b1 b2 b3 b4 tab
  go_enter Tryd.func23, Tryd.ntmps23
  go_wp2_with (refine wpList_load_blk rfl 23 _ rfl (w.heap.size) rfl _ 23 Km.out _ Tryd.underlying23 rfl 32 size_digest hm.size ?_)
  refine (digits_any m hm.len hm.small _).mono ?_
  rintro e w1 ⟨rfl, bw1⟩
  have HBw1 := hid (Below.on Hb.out bw1)
  have hsw1 := HBw1.out.size
  have Kmw1 := hid (Km.out.below bw1)
  have Ksw1 := hid (Ks.out.below bw1)
  have Kpw1 := hid (Kp.out.below bw1)
  have Kadw1 := hid (Kad.out.below bw1)
  clear bw1
  go_wp2_with (first
     | (
        refine wpList_store_blk rfl 113 _ _ rfl (w1.heap.size) ((digits m).map (Value.int .i64)).toArray rfl rfl _ 113 (Blk.new rfl (zeros .i64 67) _) 67 size67 (by simp [zeros]) Hdl.out (ints_one _ _) ?_
        intro w2 hbw2 hkw2
        have HBw2 := hid (hbw2.below (HBw1.out.alloc HBw1.out.size _) (by simp only [World.size_alloc]; omega) (by have := HBw1.out.size; omega))
        have hsw2 := HBw2.out.size
        have Ktw2 := hid hkw2
        have Kmw2 := hid (hbw2.blk (Kmw1.out.old _) (by have := Kmw1.out.lt; omega))
        have Ksw2 := hid (hbw2.blk (Ksw1.out.old _) (by have := Ksw1.out.lt; omega))
        have Kpw2 := hid (hbw2.blk (Kpw1.out.old _) (by have := Kpw1.out.lt; omega))
        have Kadw2 := hid (hbw2.blk (Kadw1.out.old _) (by have := Kadw1.out.lt; omega))
        clear hbw2 hkw2)
     | (refine wpList_load_blk rfl 26 _ rfl (w.heap.size + 1 + 1 + 1) rfl _ 26 Kadw2.out _ Tryd.underlying26 rfl 8 sizeAdrs had.size ?_))
  refine (each_any ad 77 #[.pointer (some ⟨w.heap.size + 1, 0, none⟩), .pointer (some ⟨w1.heap.size, 0, none⟩), .pointer (some ⟨w.heap.size + 1 + 1, 0, none⟩)] (sigP m seed pub ad) _ had (Dg.sigP m seed pub ad) (enter_run Tryd.func77 rfl rfl) (fun i hi W hb => ?_)).mono ?_
  · simp only [List.append_toArray, List.cons_append, List.nil_append]
    exact sign1_any seed pub (setAd ad i 0 0) (digits m) i (dgN m i) (w.heap.size + 1) (w1.heap.size) (w.heap.size + 1 + 1) W hseed hpub (had.set (by omega) (by omega) (by omega)) hi (dgN_le hm i) (by simp only [List.getElem?_toArray, List.getElem?_map]; have := dgN_eq hm hi; rw [List.getD_eq_getElem?_getD] at this; rw [List.getElem?_eq_getElem (by rw [digits_length m hm.len]; exact hi)] at this ⊢; simpa using this) (Ksw2.out.below hb) (Ktw2.out.below hb) (Kpw2.out.below hb) ((Htab.out.below HBw2.out).below hb)
  rintro e w9 ⟨g, hg, rfl, b9, kg⟩
  have hgw : w.heap.size ≤ g := Nat.le_trans HBw2.out.size hg
  have HB9 := hid (Below.on HBw2.out b9)
  have HG := hid kg
  clear b9 kg hg
  go_wp2_with fail
  go_ret
  exact ⟨g, hgw, rfl, HB9.out, HG.out⟩
section
variable {P : Program} {ops : Array Oper} {rest : List Oper} {op : Oper} {a : Act} {w : World} {Q : Exit → Act → World → Prop}
theorem wpList_load_slice_blk (hgd : op.guard = none) (ty : TypeId) (x : Operand) (ho : op.op = .load ty x) (b : Nat) (hx : a.eval x = .pointer (some ⟨b, 0, none⟩)) (sa : Option Addr) (n c : Nat) (T : TypeId) (hk : Blk w b #[.slice sa n c] T)
    {e : TypeId} (hu : P.underlying ty = some (.slice e)) (h : wpList P ops Q rest (a.put op.dst (.slice sa n c)) w) : wpList P ops Q (op :: rest) a w :=
  wpList_plain hgd fun K hK => by
    have hc : w.cell? ⟨b, 0, none⟩ = some (.slice sa n c) := by rw [hk.cell]; rfl
    unfold Oper.wp execOp
    simp only [ho, hx, Instr.loadAt, Instr.sureAddr, Sem.run_bind, Sem.run_pure, Result.andThen_ok, run_load_one w hc _ hu rfl, Oper.upon_value]
    exact hK _ _ h
end
set_option maxHeartbeats 4000000 in
theorem from_good (ls : List (List Int)) (na : Option Addr) (nc : Nat) (m pub ad : List Int) (w : World) (hN : DigsAt w na 67 nc ls) (hm : Dg m) (hpub : Dg pub) (had : Aw ad) (tab : ShaTab w) :
    Calls Tryd.prog 25 #[.slice na 67 nc, (.agg (m.map (Value.int .u8)).toArray), (.agg (pub.map (Value.int .u8)).toArray), (.agg (ad.map (Value.int .u32)).toArray)] w fun e w' => ∃ g, w.heap.size ≤ g ∧ e = .returned (.tuple #[.slice (some ⟨g, 0, none⟩) 67 67, .int .i64 0]) ∧ Below w.heap.size w w' ∧ Blk w' g (dcs (rowW (fromP ls m pub ad))) 23 := by
  have HN := hid hN
  have HE := hid hN.each
  have Hnl := hid hN.length
  clear hN
  have Hdl := hid (show ((digits m).map (Value.int .i64)).toArray.size = 67 by simp [digits_length m hm.len])
  have Hz67 := hid zero67
  have hmf := makeFunc_run
  have b1 := (Below.refl w.heap.size w).alloc (Nat.le_refl _) (.cells #[.slice na 67 nc] 28 (0, 0))
  have b2 := b1.alloc b1.size (.cells (m.map (Value.int .u8)).toArray 23 (0, 0))
  have b3 := b2.alloc b2.size (.cells (pub.map (Value.int .u8)).toArray 23 (0, 0))
  have b4 := b3.alloc b3.size (.cells (ad.map (Value.int .u32)).toArray 26 (0, 0))
  have Kl := hid ((((Blk.new (w := w) (n := w.heap.size) rfl #[.slice na 67 nc] 28).old (.cells (m.map (Value.int .u8)).toArray 23 (0, 0))).old (.cells (pub.map (Value.int .u8)).toArray 23 (0, 0))).old (.cells (ad.map (Value.int .u32)).toArray 26 (0, 0)))
  have Km := hid (((Blk.new (w := w.alloc (.cells #[.slice na 67 nc] 28 (0, 0))) (n := w.heap.size + 1) (by simp only [World.size_alloc]) (m.map (Value.int .u8)).toArray 23).old (.cells (pub.map (Value.int .u8)).toArray 23 (0, 0))).old (.cells (ad.map (Value.int .u32)).toArray 26 (0, 0)))
  have Kp := hid ((Blk.new (w := (w.alloc (.cells #[.slice na 67 nc] 28 (0, 0))).alloc (.cells (m.map (Value.int .u8)).toArray 23 (0, 0))) (n := w.heap.size + 1 + 1) (by simp only [World.size_alloc]) (pub.map (Value.int .u8)).toArray 23).old (.cells (ad.map (Value.int .u32)).toArray 26 (0, 0)))
  have Kad := hid (Blk.new (w := ((w.alloc (.cells #[.slice na 67 nc] 28 (0, 0))).alloc (.cells (m.map (Value.int .u8)).toArray 23 (0, 0))).alloc (.cells (pub.map (Value.int .u8)).toArray 23 (0, 0))) (n := w.heap.size + 1 + 1 + 1) (by simp only [World.size_alloc]) (ad.map (Value.int .u32)).toArray 26)
  have Hb := hid b4
  have Htab := hid tab
  clear b1 b2 b3 b4 tab
  go_enter Tryd.func25, Tryd.ntmps25
  go_wp2_with (first
     | (refine wpList_load_slice_blk rfl 28 _ rfl (w.heap.size) rfl _ _ _ 28 Kl.out Tryd.underlying28 ?_)
     | (refine wpList_load_blk rfl 23 _ rfl (w.heap.size + 1) rfl _ 23 Km.out _ Tryd.underlying23 rfl 32 size_digest hm.size ?_))
  refine (digits_any m hm.len hm.small _).mono ?_
  rintro e w1 ⟨rfl, bw1⟩
  have HBw1 := hid (Below.on Hb.out bw1)
  have hsw1 := HBw1.out.size
  have Klw1 := hid (Kl.out.below bw1)
  have Kmw1 := hid (Km.out.below bw1)
  have Kpw1 := hid (Kp.out.below bw1)
  have Kadw1 := hid (Kad.out.below bw1)
  clear bw1
  go_wp2_with (first
     | (
        refine wpList_store_blk rfl 113 _ _ rfl (w1.heap.size) ((digits m).map (Value.int .i64)).toArray rfl rfl _ 113 (Blk.new rfl (zeros .i64 67) _) 67 size67 (by simp [zeros]) Hdl.out (ints_one _ _) ?_
        intro w2 hbw2 hkw2
        have HBw2 := hid (hbw2.below (HBw1.out.alloc HBw1.out.size _) (by simp only [World.size_alloc]; omega) (by have := HBw1.out.size; omega))
        have hsw2 := HBw2.out.size
        have Ktw2 := hid hkw2
        have Klw2 := hid (hbw2.blk (Klw1.out.old _) (by have := Klw1.out.lt; omega))
        have Kmw2 := hid (hbw2.blk (Kmw1.out.old _) (by have := Kmw1.out.lt; omega))
        have Kpw2 := hid (hbw2.blk (Kpw1.out.old _) (by have := Kpw1.out.lt; omega))
        have Kadw2 := hid (hbw2.blk (Kadw1.out.old _) (by have := Kadw1.out.lt; omega))
        clear hbw2 hkw2)
     | (refine wpList_load_blk rfl 26 _ rfl (w.heap.size + 1 + 1 + 1) rfl _ 26 Kadw2.out _ Tryd.underlying26 rfl 8 sizeAdrs had.size ?_))
  refine (each_any ad 79 #[.pointer (some ⟨w.heap.size, 0, none⟩), .pointer (some ⟨w1.heap.size, 0, none⟩), .pointer (some ⟨w.heap.size + 1 + 1, 0, none⟩)] (fromP ls m pub ad) _ had (Dg.fromP HE.out m pub ad) (enter_run Tryd.func79 rfl rfl) (fun i hi W hb => ?_)).mono ?_
  · simp only [List.append_toArray, List.cons_append, List.nil_append]
    exact by
      have := from1_any ls na nc pub (setAd ad i 0 0) (digits m) i (dgN m i) (w.heap.size) (w1.heap.size) (w.heap.size + 1 + 1) W (HN.out.below (Below.on HBw2.out hb)) hpub (had.set (by omega) (by omega) (by omega)) hi (dgN_le hm i) (by simp only [List.getElem?_toArray, List.getElem?_map]; have := dgN_eq hm hi; rw [List.getD_eq_getElem?_getD] at this; rw [List.getElem?_eq_getElem (by rw [digits_length m hm.len]; exact hi)] at this ⊢; simpa using this) (Klw2.out.below hb) (Ktw2.out.below hb) (Kpw2.out.below hb) ((Htab.out.below HBw2.out).below hb)
      rw [← getZ (l := ls) (i := i) (by rw [Hnl.out]; exact hi)] at this
      exact this
  rintro e w9 ⟨g, hg, rfl, b9, kg⟩
  have hgw : w.heap.size ≤ g := Nat.le_trans HBw2.out.size hg
  have HB9 := hid (Below.on HBw2.out b9)
  have HG := hid kg
  clear b9 kg hg
  go_wp2_with fail
  go_ret2
  exact ⟨g, hgw, rfl, HB9.out, HG.out⟩
end Go.Proofs.YtjkfbeillmeomaaDoor
namespace Go.Proofs.YtjkfbeillmeomaaDoor
set_option maxRecDepth 100000
open Go.ChangeShapes Go.WideShapes Go.ChangeAt Go.RowKit
def preW (P : Nat → List Int) (k : Nat) : List (List Int) := (List.range k).map P
/-- A row of digests, wherever it lies. -/
def RowV (n : Nat) (ds : List (List Int)) (v : Value) (w : World) : Prop := ∃ a cap, v = .slice a n cap ∧ DigsAt w a n cap ds
theorem RowV.below {n : Nat} {ds : List (List Int)} {v : Value} {w w' : World} (h : RowV n ds v w) (hb : Below w.heap.size w w') : RowV n ds v w' := by
  obtain ⟨a, c, h1, h2⟩ := h
  exact ⟨a, c, h1, h2.below hb⟩
theorem RowV.of_blk {w : World} {g : Nat} {T : TypeId} {ds : List (List Int)} (h : Blk w g (dcs ds) T) (hd : ∀ d ∈ ds, Dg d) (n : Nat) (hn : ds.length = n) (hm : n ≤ 9223372036854775807) : RowV n ds (.slice (some ⟨g, 0, none⟩) n n) w := by
  subst hn
  exact ⟨_, _, rfl, DigsAt.of_blk h hd rfl (Nat.le_refl _) hm⟩
theorem RowV.digs {w : World} {a : Option Addr} {n c m : Nat} {ds : List (List Int)} (h : RowV m ds (.slice a n c) w) : n = m ∧ DigsAt w a n c ds := by
  obtain ⟨a', c', h1, h2⟩ := h
  injection h1 with h3 h4 h5
  subst h3 h4 h5
  exact ⟨rfl, h2⟩
/-- 67 numbers, wherever they lie. -/
def IntV (F : Nat → Nat) (v : Value) (w : World) : Prop := ∃ g cap, v = .slice (some ⟨g, 0, none⟩) 67 cap ∧ g < w.heap.size ∧ ∀ i, i < 67 → w.cell? ⟨g, i, none⟩ = some (.int .i64 (F i : Int))
end Go.Proofs.YtjkfbeillmeomaaDoor
namespace Go.Proofs.YtjkfbeillmeomaaDoor
set_option maxRecDepth 100000
open Go.ChangeShapes Go.WideShapes Go.ChangeAt Go.RowKit
end Go.Proofs.YtjkfbeillmeomaaDoor
