/-
  Put together, as far as wanted: VPWots VPWotsK VPStack VPBuild VHyper VHyper2 VHyper4 VNFlowR VNSplit VSig VSigF VSigG VPlace VVer VVerR VVerL VLLogA VLLogB VLLogH VLLogI VLLogJ VLLogK.
-/
import Derived.Test.YtkakoiaahgchmaaGreatDoorVA3
namespace Go.Proofs.YtkakoiaahgchmaaGreatDoor
set_option maxRecDepth 100000
open Go.ChangeShapes Go.WideShapes Go.ChangeAt Go.RowKit
def rowW (P : Nat → List Int) : List (List Int) := (List.range 67).map P
def fillW (P : Nat → List Int) (k : Nat) : List (List Int) := (List.range k).map P ++ List.replicate (67 - k) zD
theorem fillW_length {P : Nat → List Int} {k : Nat} (h : k ≤ 67) : (fillW P k).length = 67 := by
  simp only [fillW, List.length_append, List.length_map, List.length_range, List.length_replicate]
  omega
theorem fillW_each {P : Nat → List Int} (h : ∀ i, Dg (P i)) (k : Nat) : ∀ d ∈ fillW P k, Dg d := fun d hd => by
  unfold fillW at hd
  rcases List.mem_append.1 hd with hd | hd
  · obtain ⟨i, _, rfl⟩ := List.mem_map.1 hd
    exact h i
  · exact zRow _ d hd
theorem fillW_set {P : Nat → List Int} {k : Nat} (h : k < 67) : (fillW P k).set k (P k) = fillW P (k + 1) := by
  unfold fillW
  rw [List.set_append_right _ _ (by simp), show 67 - k = (67 - (k + 1)) + 1 by omega, List.replicate_succ, List.range_succ, List.map_append]
  simp
theorem fillW_zero (P : Nat → List Int) : fillW P 0 = List.replicate 67 zD := by simp [fillW]
theorem fillW_done (P : Nat → List Int) : fillW P 67 = rowW P := by simp [fillW, rowW]
theorem rowW_length (P : Nat → List Int) : (rowW P).length = 67 := by simp [rowW]
theorem rowW_each {P : Nat → List Int} (h : ∀ i, Dg (P i)) : ∀ d ∈ rowW P, Dg d := fun d hd => by
  obtain ⟨i, _, rfl⟩ := List.mem_map.1 hd
  exact h i
theorem enter_run {P : Program} {f : FuncId} {fn : Func} {c : Code} (hf : P.funcs[f]? = some fn) (hname : (fn.name == "runtime.NumGoroutine") = false) (hb : fn.body = some c) (args : Array Value) (w : World) :
    (callFunc f args).run P w = .ok (.enter f args) w := by
  have h1 : fn.name ≠ "runtime.NumGoroutine" := by simpa using hname
  simp [callFunc, hf, h1, hb]
set_option maxHeartbeats 4000000 in
theorem each_any (ad : List Int) (f : FuncId) (cap : Array Value) (P : Nat → List Int) (w : World) (had : Aw ad) (hP : ∀ i, Dg (P i)) (hf : ∀ (args : Array Value) (W : World), (callFunc f args).run Tryz.prog W = .ok (.enter f args) W)
    (hp : ∀ i, i < 67 → ∀ W, Below w.heap.size w W → Calls Tryz.prog f (#[.int .i64 i, (.agg ((setAd ad i 0 0).map (Value.int .u32)).toArray)] ++ cap) W fun e w' => e = .returned (.agg ((P i).map (Value.int .u8)).toArray) ∧ Below W.heap.size W w') :
    Calls Tryz.prog 124 #[(.agg (ad.map (Value.int .u32)).toArray), .func (.func f) #[] cap] w fun e w' => ∃ g, w.heap.size ≤ g ∧ e = .returned (.slice (some ⟨g, 0, none⟩) 67 67) ∧ Below w.heap.size w w' ∧ Blk w' g (dcs (rowW P)) 25 := by
  have b1 := (Below.refl w.heap.size w).alloc (Nat.le_refl _) (.cells (ad.map (Value.int .u32)).toArray 66 (0, 0))
  have Kad := hid (Blk.new (w := w) (n := w.heap.size) rfl (ad.map (Value.int .u32)).toArray 66)
  have Hb := hid b1
  have HzA := hid zsize
  have hbz := b1.size
  have Hbs := hid (show w.heap.size + 1 = (w.alloc (.cells (ad.map (Value.int .u32)).toArray 66 (0, 0))).heap.size by simp only [World.size_alloc])
  clear b1
  have hb2 := Hb.out
  have b3 := hb2.alloc hb2.size (.cells (dcs (List.replicate 67 zD)) 25 (0, 0))
  have Kg3 := hid (Blk.new (w := (w.alloc (.cells (ad.map (Value.int .u32)).toArray 66 (0, 0)))) (n := (w.heap.size + 1)) (by simp only [World.size_alloc]) (dcs (List.replicate 67 zD)) 25)
  have Ka3 := hid (Kad.out.old (.cells (dcs (List.replicate 67 zD)) 25 (0, 0)))
  have Hb3 := hid b3
  clear b3 hb2
  have hmk := fun W : World => make_digs 67 67 rfl (by omega) W
  rw [← fillW_zero P] at Kg3
  go_enter Tryz.func124, Tryz.ntmps124
  go_wp2_with fail
  go_loopw [10] (fun v wr => ∃ k : Nat, k ≤ 67 ∧ v = .int .i64 k ∧ Blk wr (w.heap.size + 1) (dcs (fillW P k)) 25 ∧ Blk wr (w.heap.size) (ad.map (Value.int .u32)).toArray 66 ∧ Below w.heap.size w wr) (fun v _ => 67 - (intOf v).toNat)
  case atStart => exact ⟨0, Nat.zero_le _, rfl, Kg3.out, Ka3.out, Hb3.out⟩
  case round =>
    clear Kg3 Ka3 Hb3
    obtain ⟨k, hk, rfl, kg, ka, bel⟩ := hrel
    have Kgwr := hid kg
    have Kadwr := hid ka
    have HBwr := hid bel
    have hswr := bel.size
    clear kg ka bel
    by_cases hlt : k < 67
    · skip
      have hc0 : (k : Int) < 67 := by omega
      have HS := hid (fillW_set (P := P) hlt)
      have HC := hid (hp k hlt)
      have HP := hid (hP k)
      generalize hX : P k = X at *
      go_wp2_with (refine wpList_load_blk rfl 66 _ rfl (w.heap.size) rfl _ 66 Kadwr.out _ Tryz.underlying66 rfl 8 sizeAdrs had.size ?_)
      refine (at_list ad k 0 _ had).mono ?_
      rintro e w21 ⟨rfl, bw21⟩
      have HBw21 := hid (Below.on HBwr.out bw21)
      have hsw21 := HBw21.out.size
      have Kadw21 := hid (Kadwr.out.below bw21)
      have Kgw21 := hid (Kgwr.out.below bw21)
      clear bw21
      go_wp2_with fail
      refine (HC.out _ HBw21.out).mono ?_
      rintro e w22 ⟨rfl, bw22⟩
      have HBw22 := hid (Below.on HBw21.out bw22)
      have hsw22 := HBw22.out.size
      have Kadw22 := hid (Kadw21.out.below bw22)
      have Kgw22 := hid (Kgw21.out.below bw22)
      clear bw22
      go_wp2_with (first
         | (refine wpList_index_digs rfl 33 _ _ rfl Tryz.underlying33 size_digest (w.heap.size + 1) 0 67 67 rfl _ _ rfl k rfl hlt ?_)
         | (
            refine wpList_store_dig rfl _ _ _ rfl (w.heap.size + 1) k X rfl rfl _ 25 Kgw22.out (fillW_each hP k) HP.out (by rw [fillW_length hk]; exact hlt) size_digest ?_
            intro w6 hb6 hk6
            rw [HS.out] at hk6
            have H6 := hid (And.intro hk6 (And.intro (hb6.blk Kadw22.out (by omega)) (hb6.below HBw22.out HBw22.out.size (by omega))))
            clear hb6 hk6))
      exact ⟨⟨k + 1, by omega, by go_num, H6.out.1, H6.out.2.1, H6.out.2.2⟩, by simp [intOf]; omega⟩
    · skip
      have hk7 : k = 67 := by omega
      subst hk7
      have hc0 : ¬ ((67 : Int) < 67) := by omega
      rw [fillW_done] at Kgwr
      go_wp2_with fail
      go_ret
      exact ⟨(w.heap.size + 1), by omega, rfl, HBwr.out, Kgwr.out⟩
end Go.Proofs.YtkakoiaahgchmaaGreatDoor
namespace Go.Proofs.YtkakoiaahgchmaaGreatDoor
set_option maxRecDepth 100000
open Go.ChangeShapes Go.WideShapes Go.ChangeAt Go.RowKit
section
variable {P : Program} {ops : Array Oper} {rest : List Oper} {op : Oper} {a : Act} {w : World} {Q : Exit → Act → World → Prop}
theorem run_load_one {ty : TypeId} {ad : Addr} {v : Value} (w' : World) (hk : w'.cell? ad = some v) (d : TypeDesc) (hu : P.underlying ty = some d) (hd : d.isRow = false) : (loadVar ty ad).run P w' = .ok v w' := by
  have hagg : (isAgg ty).run P w' = .ok false w' := by
    unfold isAgg
    rw [Sem.run_bind, run_underlying hu w']
    cases d <;> simp_all
  simp [loadVar, Sem.run_bind, hagg, hk]
theorem quiet_load_one {C : World → Prop} {K : Act → Prop} (ty : TypeId) (x : Operand) (ho : op.op = .load ty x) (ad : Addr) (hx : a.eval x = .pointer (some ad)) (v : Value)
    (hk : ∀ w', C w' → w'.cell? ad = some v) (d : TypeDesc) (hu : P.underlying ty = some d) (hd : d.isRow = false)
    (h : K (a.put op.dst v)) : op.quiet P a C K :=
  ⟨v, fun w' hw' => by
    unfold Oper.quietAt execOp
    simp only [ho, hx, Instr.loadAt, Instr.sureAddr, Sem.run_bind, Sem.run_pure, Result.andThen_ok, run_load_one w' (hk w' hw') d hu hd]
    simp [Oper.quietUpon], h⟩
end
theorem digits_small {m : List Int} (h : Dg m) : ∀ x ∈ digits m, 0 ≤ x ∧ x ≤ 15 := fun x hx => by
  have hs := short_bounds (dig m) (dig_small m h.small)
  unfold digits at hx
  rcases List.mem_append.1 hx with hx | hx
  · exact dig_small m h.small x hx
  · simp only [List.mem_cons, List.not_mem_nil, or_false] at hx
    omega
/-- The digit at a place. -/
def dgN (m : List Int) (i : Nat) : Nat := ((digits m).getD i 0).toNat
theorem dgN_le {m : List Int} (h : Dg m) (i : Nat) : dgN m i ≤ 15 := by
  unfold dgN
  by_cases hi : i < (digits m).length
  · rw [List.getD_eq_getElem?_getD, List.getElem?_eq_getElem hi, Option.getD_some]
    have := digits_small h _ (List.getElem_mem hi)
    omega
  · rw [List.getD_eq_getElem?_getD, List.getElem?_eq_none (by omega), Option.getD_none]
    omega
theorem dgN_eq {m : List Int} (h : Dg m) {i : Nat} (hi : i < 67) : (digits m).getD i 0 = (dgN m i : Int) := by
  unfold dgN
  have hl := digits_length m h.len
  rw [List.getD_eq_getElem?_getD, List.getElem?_eq_getElem (by omega), Option.getD_some]
  have := digits_small h _ (List.getElem_mem (show i < (digits m).length by omega))
  omega
def partZ (seed ad : List Int) (i : Nat) : List Int := atZ seed (setAd ad i 0 0)
def pubP (seed pub ad : List Int) (i : Nat) : List Int := runZ pub (setAd ad i 0 0) (partZ seed ad i) 0 15
def sigP (m seed pub ad : List Int) (i : Nat) : List Int := runZ pub (setAd ad i 0 0) (partZ seed ad i) 0 (dgN m i)
def fromP (l : List (List Int)) (m pub ad : List Int) (i : Nat) : List Int := runZ pub (setAd ad i 0 0) (l.getD i zD) (dgN m i) (15 - dgN m i)
theorem Dg.getZ {l : List (List Int)} (h : ∀ d ∈ l, Dg d) (i : Nat) : Dg (l.getD i zD) := by
  by_cases hi : i < l.length
  · rw [List.getD_eq_getElem?_getD, List.getElem?_eq_getElem hi, Option.getD_some]
    exact h _ (List.getElem_mem hi)
  · rw [List.getD_eq_getElem?_getD, List.getElem?_eq_none (by omega), Option.getD_none]
    exact Dg.zero
theorem Dg.fromP {l : List (List Int)} (h : ∀ d ∈ l, Dg d) (m pub ad : List Int) (i : Nat) : Dg (fromP l m pub ad i) := Dg.run (Dg.getZ h i) _ _
theorem getZ {l : List (List Int)} {i : Nat} (h : i < l.length) : l.getD i zD = l.getD i [] := by
  simp [h]
set_option maxHeartbeats 4000000 in
theorem wrun_any (x pub ad : List Int) (from_ steps : Nat) (w : World) (hx : Dg x) (hpub : Dg pub) (had : Aw ad) (hf : from_ + steps ≤ 15) (tab : ShaTab w) :
    Calls Tryz.prog 126 #[(.agg (x.map (Value.int .u8)).toArray), .int .i64 from_, .int .i64 steps, (.agg (pub.map (Value.int .u8)).toArray), (.agg (ad.map (Value.int .u32)).toArray)] w fun e w' => e = .returned (.agg ((runZ pub ad x from_ steps).map (Value.int .u8)).toArray) ∧ Below w.heap.size w w' := by
  have HR := hid (Dg.run (pub := pub) (ad := ad) hx from_ steps)
  have C1 := hid (fun (W : World) (t : ShaTab W) => run_good x pub ad from_ steps W hx hpub had hf t)
  generalize runZ pub ad x from_ steps = R at *
  have b1 := (Below.refl w.heap.size w).alloc (Nat.le_refl _) (.cells (x.map (Value.int .u8)).toArray 25 (0, 0))
  have b2 := b1.alloc b1.size (.cells (pub.map (Value.int .u8)).toArray 25 (0, 0))
  have b3 := b2.alloc b2.size (.cells (ad.map (Value.int .u32)).toArray 66 (0, 0))
  have b4 := b3.alloc b3.size (.cells (byteCells 32 []) 25 (0, 0))
  have Kx := hid ((((Blk.new (w := w) (n := w.heap.size) rfl (x.map (Value.int .u8)).toArray 25).old (.cells (pub.map (Value.int .u8)).toArray 25 (0, 0))).old (.cells (ad.map (Value.int .u32)).toArray 66 (0, 0))).old (.cells (byteCells 32 []) 25 (0, 0)))
  have Kp := hid (((Blk.new (w := (w.alloc (.cells (x.map (Value.int .u8)).toArray 25 (0, 0)))) (n := w.heap.size + 1) (by simp only [World.size_alloc]) (pub.map (Value.int .u8)).toArray 25).old (.cells (ad.map (Value.int .u32)).toArray 66 (0, 0))).old (.cells (byteCells 32 []) 25 (0, 0)))
  have Kad := hid ((Blk.new (w := ((w.alloc (.cells (x.map (Value.int .u8)).toArray 25 (0, 0))).alloc (.cells (pub.map (Value.int .u8)).toArray 25 (0, 0)))) (n := w.heap.size + 1 + 1) (by simp only [World.size_alloc]) (ad.map (Value.int .u32)).toArray 66).old (.cells (byteCells 32 []) 25 (0, 0)))
  have Kr0 := hid (Blk.new (w := (((w.alloc (.cells (x.map (Value.int .u8)).toArray 25 (0, 0))).alloc (.cells (pub.map (Value.int .u8)).toArray 25 (0, 0))).alloc (.cells (ad.map (Value.int .u32)).toArray 66 (0, 0)))) (n := w.heap.size + 1 + 1 + 1) (by simp only [World.size_alloc]) (byteCells 32 []) 25)
  have Hb := hid b4
  have HzA := hid zsize
  have hbz := b4.size
  have Hbs := hid (show w.heap.size + 1 + 1 + 1 + 1 = ((((w.alloc (.cells (x.map (Value.int .u8)).toArray 25 (0, 0))).alloc (.cells (pub.map (Value.int .u8)).toArray 25 (0, 0))).alloc (.cells (ad.map (Value.int .u32)).toArray 66 (0, 0))).alloc (.cells (byteCells 32 []) 25 (0, 0))).heap.size by simp only [World.size_alloc])
  have Htab := hid tab
  clear b1 b2 b3 b4 tab
  go_enter Tryz.func126, Tryz.ntmps126
  go_wp2_with (first
     | (refine wpList_load_blk rfl 25 _ rfl (w.heap.size) rfl _ 25 Kx.out _ Tryz.underlying25 rfl 32 size_digest hx.size ?_)
     | (refine wpList_load_blk rfl 25 _ rfl (w.heap.size + 1) rfl _ 25 Kp.out _ Tryz.underlying25 rfl 32 size_digest hpub.size ?_)
     | (refine wpList_load_blk rfl 66 _ rfl (w.heap.size + 1 + 1) rfl _ 66 Kad.out _ Tryz.underlying66 rfl 8 sizeAdrs had.size ?_))
  refine (C1.out _ (Htab.out.below Hb.out)).mono ?_
  rintro e w1 ⟨rfl, bw1⟩
  have HBw1 := hid (Below.on Hb.out bw1)
  have hsw1 := HBw1.out.size
  have Kxw1 := hid (Kx.out.below bw1)
  have Kpw1 := hid (Kp.out.below bw1)
  have Kadw1 := hid (Kad.out.below bw1)
  have Kr0w1 := hid (Kr0.out.below bw1)
  clear bw1
  go_wp2_with (first
     | (
        refine wpList_store_blk rfl 25 _ _ rfl (w1.heap.size) (R.map (Value.int .u8)).toArray rfl rfl _ 25 (Blk.new rfl (byteCells 32 []) _) 32 size_digest HzA.out HR.out.size (ints_one _ _) ?_
        intro w2 hbw2 hkw2
        have HBw2 := hid (hbw2.below (HBw1.out.alloc HBw1.out.size _) (by simp only [World.size_alloc]; omega) (by have := HBw1.out.size; omega))
        have hsw2 := HBw2.out.size
        have Kyw2 := hid hkw2
        have Kxw2 := hid (hbw2.blk (Kxw1.out.old _) (by have := Kxw1.out.lt; omega))
        have Kpw2 := hid (hbw2.blk (Kpw1.out.old _) (by have := Kpw1.out.lt; omega))
        have Kadw2 := hid (hbw2.blk (Kadw1.out.old _) (by have := Kadw1.out.lt; omega))
        have Kr0w2 := hid (hbw2.blk (Kr0w1.out.old _) (by have := Kr0w1.out.lt; omega))
        clear hbw2 hkw2)
     | (refine wpList_load_blk rfl 25 _ rfl (w1.heap.size) rfl _ 25 Kyw2.out _ Tryz.underlying25 rfl 32 size_digest HR.out.size ?_)
     | (
      refine wpList_store_blk rfl 25 _ _ rfl (w.heap.size + 1 + 1 + 1) (R.map (Value.int .u8)).toArray rfl rfl _ 25 Kr0w2.out 32 size_digest HzA.out HR.out.size (ints_one _ _) ?_
      intro w9 hb9 hk9
      have HB9 := hid (hb9.below HBw2.out HBw2.out.size (by omega))
      have HK9 := hid hk9
      clear hb9 hk9))
  exact bodyPost_ret (v := (.agg (R.map (Value.int .u8)).toArray)) (results_blk Tryz.results126 _ (w.heap.size + 1 + 1 + 1) rfl _ 25 HK9.out _ Tryz.underlying25 rfl 32 size_digest HR.out.size) rfl ⟨rfl, HB9.out⟩
set_option maxHeartbeats 4000000 in
theorem from1_any (ls : List (List Int)) (na : Option Addr) (nc : Nat) (pub ad st : List Int) (i n bl bt bp : Nat) (w : World) (hN : DigsAt w na 67 nc ls) (hpub : Dg pub) (had : Aw ad) (hi : i < 67) (hn : n ≤ 15) (hst : (st.map (Value.int .i64)).toArray[i]? = some (.int .i64 (n : Int)))
    (kl : Blk w bl #[.slice na 67 nc] 33) (kt : Blk w bt (st.map (Value.int .i64)).toArray 159) (kp : Blk w bp (pub.map (Value.int .u8)).toArray 25) (tab : ShaTab w) :
    Calls Tryz.prog 125 #[.int .i64 i, (.agg (ad.map (Value.int .u32)).toArray), .pointer (some ⟨bl, 0, none⟩), .pointer (some ⟨bt, 0, none⟩), .pointer (some ⟨bp, 0, none⟩)] w fun e w' => e = .returned (.agg ((runZ pub ad (ls.getD i []) n (15 - n)).map (Value.int .u8)).toArray) ∧ Below w.heap.size w w' := by
  have HX := hid (hN.get (j := i) hi)
  have HD := hid hst
  have hi67 : (i : Int) < 67 := by omega
  have hmx := hN.max
  have hle := hN.le
  clear hst
  have HR := hid (Dg.run (pub := pub) (ad := ad) HX.out n (15 - n))
  have C2 := hid (show ∀ (W : World) (t : ShaTab W), Calls Tryz.prog 126 #[(.agg ((ls.getD i []).map (Value.int .u8)).toArray), .int .i64 n, .int .i64 (15 - (n : Int)), (.agg (pub.map (Value.int .u8)).toArray), (.agg (ad.map (Value.int .u32)).toArray)] W (fun e w' => e = .returned (.agg ((runZ pub ad (ls.getD i []) n (15 - n)).map (Value.int .u8)).toArray) ∧ Below W.heap.size W w') from fun W t => by
    have := wrun_any (ls.getD i []) pub ad n (15 - n) W HX.out hpub had (by omega) t
    rw [show ((15 - n : Nat) : Int) = 15 - (n : Int) by omega] at this
    exact this)
  have b1 := (Below.refl w.heap.size w).alloc (Nat.le_refl _) (.cells (ad.map (Value.int .u32)).toArray 66 (0, 0))
  have b2 := b1.alloc b1.size (.cells (byteCells 32 []) 25 (0, 0))
  have Ka := hid ((Blk.new (w := w) (n := w.heap.size) rfl (ad.map (Value.int .u32)).toArray 66).old (.cells (byteCells 32 []) 25 (0, 0)))
  have Kr0 := hid (Blk.new (w := (w.alloc (.cells (ad.map (Value.int .u32)).toArray 66 (0, 0)))) (n := w.heap.size + 1) (by simp only [World.size_alloc]) (byteCells 32 []) 25)
  have Hb := hid b2
  have HzA := hid zsize
  have hbz := b2.size
  have Hbs := hid (show w.heap.size + 1 + 1 = ((w.alloc (.cells (ad.map (Value.int .u32)).toArray 66 (0, 0))).alloc (.cells (byteCells 32 []) 25 (0, 0))).heap.size by simp only [World.size_alloc])
  have Kl := hid (kl.below b2)
  have Kt := hid (kt.below b2)
  have Kp := hid (kp.below b2)
  have Htab := hid tab
  clear b1 b2 tab
  obtain ⟨xs, xo, rfl, hxs, hcell⟩ := (hN.below Hb.out).at_ (by omega)
  have Hc := hid (hcell i hi)
  have Hxs := hid hxs
  clear hcell hxs hN
  generalize ls.getD i [] = X at *
  generalize runZ pub ad X n (15 - n) = R at *
  go_enter Tryz.func125, Tryz.ntmps125
  go_wp2_with fail
  refine wp_region_flow 14 (List.range 14) [] [] (by kernel_rfl) (by kernel_rfl) ?_
  apply Exists.intro
  refine ⟨fun w0 hb0 hF0 => ?_, ?_⟩
  · skip
    have x0 : ∀ w', (∃ x : Ext w0, w' = x.at_) → ∃ T, Blk w' (bp) (pub.map (Value.int .u8)).toArray T := fun w' ⟨x, hx⟩ => ⟨_, hx ▸ (Kp.out.below hb0).below x.same⟩
    have x1 : ∀ w', (∃ x : Ext w0, w' = x.at_) → ∃ T, Blk w' (w.heap.size) (ad.map (Value.int .u32)).toArray T := fun w' ⟨x, hx⟩ => ⟨_, hx ▸ (Ka.out.below hb0).below x.same⟩
    have c0 := fun e : Ext w0 => C2.out e.at_ ((Htab.out.below (Below.on Hb.out hb0)).below e.same)
    have y0 : ∀ w', (∃ x : Ext w0, w' = x.at_) → w'.cell? ⟨bt, i, none⟩ = some (.int .i64 (n : Int)) := fun w' ⟨x, hx⟩ => by rw [hx, (((Kt.out).below hb0).below x.same).cell, HD.out]
    have y1 : ∀ w', (∃ x : Ext w0, w' = x.at_) → w'.cell? ⟨bl, 0, none⟩ = some (.slice (some ⟨xs, xo, none⟩) 67 nc) := fun w' ⟨x, hx⟩ => by rw [hx, (((Kl.out).below hb0).below x.same).cell]; rfl
    have y2 : ∀ w', (∃ x : Ext w0, w' = x.at_) → w'.rangeAt xs (xo + i * 32) (X.map (Value.int .u8)) := fun w' ⟨x, hx⟩ => hx ▸ rangeAt_below (rangeAt_below Hc.out Hxs.out hb0) (Nat.lt_of_lt_of_le Hxs.out hb0.size) x.same
    simp only [pick, List.range, List.range.loop, List.getElem?_toArray, List.getElem?_cons_succ, List.getElem?_cons_zero, Option.toList_some, List.cons_append, List.nil_append]
    repeat (first | (go_big_quiet_want; refine quiet_load_blk 25 _ rfl (bp) rfl _ x0 _ Tryz.underlying25 rfl 32 size_digest hpub.size ?_; go_big_quiet_on; simp only [Act.put, List.setIfInBounds_toArray, List.set_cons_zero, List.set_cons_succ]) | (go_big_quiet_want; refine quiet_load_blk 66 _ rfl (w.heap.size) rfl _ x1 _ Tryz.underlying66 rfl 8 sizeAdrs had.size ?_; go_big_quiet_on; simp only [Act.put, List.setIfInBounds_toArray, List.set_cons_zero, List.set_cons_succ]) | (go_big_quiet_want; refine quiet_load_one 3 _ rfl ⟨bt, i, none⟩ rfl _ y0 _ Tryz.underlying3 rfl ?_; go_big_quiet_on; simp only [Act.put, List.setIfInBounds_toArray, List.set_cons_zero, List.set_cons_succ]) | (go_big_quiet_want; refine quiet_load_one 33 _ rfl ⟨bl, 0, none⟩ rfl _ y1 _ Tryz.underlying33 rfl ?_; go_big_quiet_on; simp only [Act.put, List.setIfInBounds_toArray, List.set_cons_zero, List.set_cons_succ]) | (go_big_quiet_want; refine quiet_index_digs 33 _ _ rfl Tryz.underlying33 size_digest xs xo 67 nc rfl _ _ rfl i (by omega) (by omega) ?_; go_big_quiet_on; simp only [Act.put, List.setIfInBounds_toArray, List.set_cons_zero, List.set_cons_succ]) | (go_big_quiet_want; refine quiet_load_mid 25 _ rfl xs (xo + i * 32) rfl _ y2 _ Tryz.underlying25 rfl (by rw [List.length_map, HX.out.len]; exact size_digest) ?_; go_big_quiet_on; simp only [Act.put, List.setIfInBounds_toArray, List.set_cons_zero, List.set_cons_succ]) | go_big_quiet_step (first | (go_at_call 126; with_reducible exact Calls.ext (c0 _))))
    exact wpQuiet_nil rfl
  refine AlChk.nil ?_
  refine Walk.fin fun w1 hw1 _ _ => ?_
  simp only [List.drop_succ_cons, List.drop_zero]
  have HBw1 := hid (Below.on Hb.out hw1)
  have hsw1 := HBw1.out.size
  have Kaw1 := hid (Ka.out.below hw1)
  have Kr0w1 := hid (Kr0.out.below hw1)
  have Klw1 := hid (Kl.out.below hw1)
  have Ktw1 := hid (Kt.out.below hw1)
  have Kpw1 := hid (Kp.out.below hw1)
  clear hw1
  go_wp2_with (
      refine wpList_store_blk rfl 25 _ _ rfl (w.heap.size + 1) (R.map (Value.int .u8)).toArray rfl rfl _ 25 Kr0w1.out 32 size_digest HzA.out HR.out.size (ints_one _ _) ?_
      intro w9 hb9 hk9
      have HB9 := hid (hb9.below HBw1.out HBw1.out.size (by omega))
      have HK9 := hid hk9
      clear hb9 hk9)
  exact bodyPost_ret (v := (.agg (R.map (Value.int .u8)).toArray)) (results_blk Tryz.results125 _ (w.heap.size + 1) rfl _ 25 HK9.out _ Tryz.underlying25 rfl 32 size_digest HR.out.size) rfl ⟨rfl, HB9.out⟩
end Go.Proofs.YtkakoiaahgchmaaGreatDoor
namespace Go.Proofs.YtkakoiaahgchmaaGreatDoor
set_option maxRecDepth 100000
open Go.ChangeShapes Go.WideShapes Go.ChangeAt Go.RowKit
theorem makeFunc_run (fn : Fn) (first cap : Array Value) (w : World) : (Instr.makeFunc fn first cap).run Tryz.prog w = .ok (.func fn first cap) w := rfl
section
variable {P : Program} {ops : Array Oper} {rest : List Oper} {op : Oper} {a : Act} {w : World} {Q : Exit → Act → World → Prop}
theorem wpList_load_slice_blk (hgd : op.guard = none) (ty : TypeId) (x : Operand) (ho : op.op = .load ty x) (b : Nat) (hx : a.eval x = .pointer (some ⟨b, 0, none⟩)) (sa : Option Addr) (n c : Nat) (T : TypeId) (hk : Blk w b #[.slice sa n c] T)
    {e : TypeId} (hu : P.underlying ty = some (.slice e)) (h : wpList P ops Q rest (a.put op.dst (.slice sa n c)) w) : wpList P ops Q (op :: rest) a w :=
  wpList_plain hgd fun K hK => by
    have hc : w.cell? ⟨b, 0, none⟩ = some (.slice sa n c) := by rw [hk.cell]; rfl
    unfold Oper.wp execOp
    simp only [ho, hx, Instr.loadAt, Instr.sureAddr, Sem.run_bind, Sem.run_pure, Result.andThen_ok, run_load_one w hc _ hu rfl, Oper.upon_value]
    exact hK _ _ h
end
set_option maxHeartbeats 4000000 in
theorem from_good (ls : List (List Int)) (na : Option Addr) (nc : Nat) (m pub ad : List Int) (w : World) (hN : DigsAt w na 67 nc ls) (hm : Dg m) (hpub : Dg pub) (had : Aw ad) (tab : ShaTab w) :
    Calls Tryz.prog 100 #[.slice na 67 nc, (.agg (m.map (Value.int .u8)).toArray), (.agg (pub.map (Value.int .u8)).toArray), (.agg (ad.map (Value.int .u32)).toArray)] w fun e w' => ∃ g, w.heap.size ≤ g ∧ e = .returned (.tuple #[.slice (some ⟨g, 0, none⟩) 67 67, .int .i64 0]) ∧ Below w.heap.size w w' ∧ Blk w' g (dcs (rowW (fromP ls m pub ad))) 25 := by
  have HN := hid hN
  have HE := hid hN.each
  have Hnl := hid hN.length
  clear hN
  have Hdl := hid (show ((digits m).map (Value.int .i64)).toArray.size = 67 by simp [digits_length m hm.len])
  have Hz67 := hid zero67
  have hmf := makeFunc_run
  have b1 := (Below.refl w.heap.size w).alloc (Nat.le_refl _) (.cells #[.slice na 67 nc] 33 (0, 0))
  have b2 := b1.alloc b1.size (.cells (m.map (Value.int .u8)).toArray 25 (0, 0))
  have b3 := b2.alloc b2.size (.cells (pub.map (Value.int .u8)).toArray 25 (0, 0))
  have b4 := b3.alloc b3.size (.cells (ad.map (Value.int .u32)).toArray 66 (0, 0))
  have Kl := hid ((((Blk.new (w := w) (n := w.heap.size) rfl #[.slice na 67 nc] 33).old (.cells (m.map (Value.int .u8)).toArray 25 (0, 0))).old (.cells (pub.map (Value.int .u8)).toArray 25 (0, 0))).old (.cells (ad.map (Value.int .u32)).toArray 66 (0, 0)))
  have Km := hid (((Blk.new (w := w.alloc (.cells #[.slice na 67 nc] 33 (0, 0))) (n := w.heap.size + 1) (by simp only [World.size_alloc]) (m.map (Value.int .u8)).toArray 25).old (.cells (pub.map (Value.int .u8)).toArray 25 (0, 0))).old (.cells (ad.map (Value.int .u32)).toArray 66 (0, 0)))
  have Kp := hid ((Blk.new (w := (w.alloc (.cells #[.slice na 67 nc] 33 (0, 0))).alloc (.cells (m.map (Value.int .u8)).toArray 25 (0, 0))) (n := w.heap.size + 1 + 1) (by simp only [World.size_alloc]) (pub.map (Value.int .u8)).toArray 25).old (.cells (ad.map (Value.int .u32)).toArray 66 (0, 0)))
  have Kad := hid (Blk.new (w := ((w.alloc (.cells #[.slice na 67 nc] 33 (0, 0))).alloc (.cells (m.map (Value.int .u8)).toArray 25 (0, 0))).alloc (.cells (pub.map (Value.int .u8)).toArray 25 (0, 0))) (n := w.heap.size + 1 + 1 + 1) (by simp only [World.size_alloc]) (ad.map (Value.int .u32)).toArray 66)
  have Hb := hid b4
  have Htab := hid tab
  clear b1 b2 b3 b4 tab
  go_enter Tryz.func100, Tryz.ntmps100
  go_wp2_with (first
     | (refine wpList_load_slice_blk rfl 33 _ rfl (w.heap.size) rfl _ _ _ 33 Kl.out Tryz.underlying33 ?_)
     | (refine wpList_load_blk rfl 25 _ rfl (w.heap.size + 1) rfl _ 25 Km.out _ Tryz.underlying25 rfl 32 size_digest hm.size ?_))
  refine (digits_any m hm.len hm.small _).mono ?_
  rintro e w1 ⟨rfl, bw1⟩
  have HBw1 := hid (Below.on Hb.out bw1)
  have hsw1 := HBw1.out.size
  have Klw1 := hid (Kl.out.below bw1)
  have Kmw1 := hid (Km.out.below bw1)
  have Kpw1 := hid (Kp.out.below bw1)
  have Kadw1 := hid (Kad.out.below bw1)
  clear bw1
  go_wp2_with (first
     | (
        refine wpList_store_blk rfl 159 _ _ rfl (w1.heap.size) ((digits m).map (Value.int .i64)).toArray rfl rfl _ 159 (Blk.new rfl (zeros .i64 67) _) 67 size67 (by simp [zeros]) Hdl.out (ints_one _ _) ?_
        intro w2 hbw2 hkw2
        have HBw2 := hid (hbw2.below (HBw1.out.alloc HBw1.out.size _) (by simp only [World.size_alloc]; omega) (by have := HBw1.out.size; omega))
        have hsw2 := HBw2.out.size
        have Ktw2 := hid hkw2
        have Klw2 := hid (hbw2.blk (Klw1.out.old _) (by have := Klw1.out.lt; omega))
        have Kmw2 := hid (hbw2.blk (Kmw1.out.old _) (by have := Kmw1.out.lt; omega))
        have Kpw2 := hid (hbw2.blk (Kpw1.out.old _) (by have := Kpw1.out.lt; omega))
        have Kadw2 := hid (hbw2.blk (Kadw1.out.old _) (by have := Kadw1.out.lt; omega))
        clear hbw2 hkw2)
     | (refine wpList_load_blk rfl 66 _ rfl (w.heap.size + 1 + 1 + 1) rfl _ 66 Kadw2.out _ Tryz.underlying66 rfl 8 sizeAdrs had.size ?_))
  refine (each_any ad 125 #[.pointer (some ⟨w.heap.size, 0, none⟩), .pointer (some ⟨w1.heap.size, 0, none⟩), .pointer (some ⟨w.heap.size + 1 + 1, 0, none⟩)] (fromP ls m pub ad) _ had (Dg.fromP HE.out m pub ad) (enter_run Tryz.func125 rfl rfl) (fun i hi W hb => ?_)).mono ?_
  · simp only [List.append_toArray, List.cons_append, List.nil_append]
    exact by
      have := from1_any ls na nc pub (setAd ad i 0 0) (digits m) i (dgN m i) (w.heap.size) (w1.heap.size) (w.heap.size + 1 + 1) W (HN.out.below (Below.on HBw2.out hb)) hpub (had.set (by omega) (by omega) (by omega)) hi (dgN_le hm i) (by simp only [List.getElem?_toArray, List.getElem?_map]; have := dgN_eq hm hi; rw [List.getD_eq_getElem?_getD] at this; rw [List.getElem?_eq_getElem (by rw [digits_length m hm.len]; exact hi)] at this ⊢; simpa using this) (Klw2.out.below hb) (Ktw2.out.below hb) (Kpw2.out.below hb) ((Htab.out.below HBw2.out).below hb)
      rw [← getZ (l := ls) (i := i) (by rw [Hnl.out]; exact hi)] at this
      exact this
  rintro e w9 ⟨g, hg, rfl, b9, kg⟩
  have hgw : w.heap.size ≤ g := Nat.le_trans HBw2.out.size hg
  have HB9 := hid (Below.on HBw2.out b9)
  have HG := hid kg
  clear b9 kg hg
  go_wp2_with fail
  go_ret2
  exact ⟨g, hgw, rfl, HB9.out, HG.out⟩
end Go.Proofs.YtkakoiaahgchmaaGreatDoor
namespace Go.Proofs.YtkakoiaahgchmaaGreatDoor
set_option maxRecDepth 100000
open Go.ChangeShapes Go.WideShapes Go.ChangeAt Go.RowKit
def preW (P : Nat → List Int) (k : Nat) : List (List Int) := (List.range k).map P
/-- A row of digests, wherever it lies. -/
def RowV (n : Nat) (ds : List (List Int)) (v : Value) (w : World) : Prop := ∃ a cap, v = .slice a n cap ∧ DigsAt w a n cap ds
theorem RowV.below {n : Nat} {ds : List (List Int)} {v : Value} {w w' : World} (h : RowV n ds v w) (hb : Below w.heap.size w w') : RowV n ds v w' := by
  obtain ⟨a, c, h1, h2⟩ := h
  exact ⟨a, c, h1, h2.below hb⟩
/-- 67 numbers, wherever they lie. -/
def IntV (F : Nat → Nat) (v : Value) (w : World) : Prop := ∃ g cap, v = .slice (some ⟨g, 0, none⟩) 67 cap ∧ g < w.heap.size ∧ ∀ i, i < 67 → w.cell? ⟨g, i, none⟩ = some (.int .i64 (F i : Int))
end Go.Proofs.YtkakoiaahgchmaaGreatDoor
namespace Go.Proofs.YtkakoiaahgchmaaGreatDoor
set_option maxRecDepth 100000
open Go.ChangeShapes Go.WideShapes Go.ChangeAt Go.RowKit
end Go.Proofs.YtkakoiaahgchmaaGreatDoor
namespace Go.Proofs.YtkakoiaahgchmaaGreatDoor
set_option maxRecDepth 100000
open Go.ChangeShapes Go.WideShapes Go.ChangeAt Go.RowKit
/-- A row, and that there is no error. -/
def TupV (n : Nat) (ds : List (List Int)) (v : Value) (w : World) : Prop := ∃ a cap, v = .tuple #[.slice a n cap, .int .i64 0] ∧ DigsAt w a n cap ds
theorem TupV.below {n : Nat} {ds : List (List Int)} {v : Value} {w w' : World} (h : TupV n ds v w) (hb : Below w.heap.size w w') : TupV n ds v w' := by
  obtain ⟨a, c, h1, h2⟩ := h
  exact ⟨a, c, h1, h2.below hb⟩
theorem TupV.digs {n c : Nat} {a : Option Addr} {ds : List (List Int)} {w : World} (h : TupV n ds (.tuple #[.slice a n c, .int .i64 0]) w) : DigsAt w a n c ds := by
  obtain ⟨a', c', h1, h2⟩ := h
  simp only [Value.tuple.injEq, Array.mk.injEq, List.cons.injEq, Value.slice.injEq] at h1
  obtain ⟨⟨rfl, _, rfl⟩, _⟩ := h1
  exact h2
theorem from_v (ls : List (List Int)) (na : Option Addr) (nc : Nat) (m pub ad : List Int) (W : World) (hN : DigsAt W na 67 nc ls) (hm : Dg m) (hpub : Dg pub) (had : Aw ad) (tab : ShaTab W) :
    Calls Tryz.prog 100 #[.slice na 67 nc, (.agg (m.map (Value.int .u8)).toArray), (.agg (pub.map (Value.int .u8)).toArray), (.agg (ad.map (Value.int .u32)).toArray)] W fun e w' => ∃ v, e = .returned v ∧ Below W.heap.size W w' ∧ TupV 67 (rowW (fromP ls m pub ad)) v w' :=
  (from_good ls na nc m pub ad W hN hm hpub had tab).mono fun _ _ ⟨_, _, h1, h2, h3⟩ => ⟨_, h1, h2, _, _, rfl, DigsAt.of_blk h3 (rowW_each (Dg.fromP hN.each m pub ad)) (rowW_length _) (Nat.le_refl _) (by omega)⟩
end Go.Proofs.YtkakoiaahgchmaaGreatDoor
namespace Go.Proofs.YtkakoiaahgchmaaGreatDoor
set_option maxRecDepth 100000
open Go.ChangeShapes Go.WideShapes Go.ChangeAt Go.RowKit
end Go.Proofs.YtkakoiaahgchmaaGreatDoor
namespace Go.Proofs.YtkakoiaahgchmaaGreatDoor
set_option maxRecDepth 100000
open Go.ChangeShapes Go.WideShapes Go.ChangeAt Go.RowKit
theorem fill_part (place : Nat → Option (Nat × Nat)) (cells : Array Value) (i off : Nat) (v : Value) (rest : List (Nat × Value)) (hp : place i = some (off, v.cells.size)) (hs : off + v.cells.size ≤ cells.size) :
    Instr.fill place cells ((i, v) :: rest) = Instr.fill place (splice cells.toList off v.cells.toList).toArray rest := by
  rw [Instr.fill]
  simp only [hp]
  rw [if_neg (by simp only [ne_eq, not_true_eq_false, decide_false, Bool.false_or, decide_eq_true_eq]; omega)]
  congr 1
  have hf := fold_set v.cells.toList 0 off cells (by simpa using hs)
  apply Array.ext'
  rw [Nat.add_zero] at hf
  rw [← hf]
  have : v.cells.zipIdx = ((v.cells.toList.zipIdx 0)).toArray := by
    apply Array.ext'
    simp
  rw [this, List.foldl_toArray']
  all_goals first | rfl | simp
section
variable {P : Program} {ops : Array Oper} {rest : List Oper} {op : Oper} {a : Act} {w : World} {Q : Exit → Act → World → Prop} {t e : TypeId}
/-- One cell is stored. -/
theorem run_store_one {ty : TypeId} {b o : Nat} {v : Value} {cs : Array Value} {T : TypeId} (w : World) (hk : Blk w b cs T) (ho : o < cs.size) (hi : (P.info? ty).map (·.size) = some 1) (h1 : v.oneCell' = true) (hc : v.cells = #[v]) :
    (storeVar ty ⟨b, o, none⟩ v).run P w = .ok () (w.setCells b o [v]) := by
  have h := run_storeVar_mid (P := P) w b o ty #[v] (fun j hj => ⟨by
    simp only [List.size_toArray, List.length_cons, List.length_nil] at hj
    rw [hk.cell, Array.getElem?_eq_getElem (by omega)]; rfl, hk.free _⟩) (by rw [hi]; rfl) (by simp [h1])
  unfold storeVar at *
  rw [hc]
  exact h
theorem wpList_store_cell (hgd : op.guard = none) (ty : TypeId) (x y : Operand) (ho : op.op = .store ty x y) (b o : Nat) (v : Value) (hx : a.eval x = .pointer (some ⟨b, o, none⟩)) (hy : a.eval y = v) (h1 : v.oneCell' = true) (hc : v.cells = #[v])
    (cs : Array Value) (T : TypeId) (hk : Blk w b cs T) (hlt : o < cs.size) (hi : (P.info? ty).map (·.size) = some 1)
    (h : ∀ w', But b w w' → Blk w' b (cs.setIfInBounds o v) T → wpList P ops Q rest (a.put op.dst undef) w') : wpList P ops Q (op :: rest) a w :=
  wpList_plain hgd fun K hK => by
    unfold Oper.wp execOp
    simp only [ho, hx, hy, Instr.storeAt, Instr.sureAddr, Sem.run_bind, Sem.run_pure, Result.andThen_ok, run_store_one w hk hlt hi h1 hc, Oper.upon_skip]
    exact hK _ _ (h _ (But.setCells [v] o w (But.of (Below.refl _ _))) (hk.set o v))
end
/-! Rows of structs. -/
end Go.Proofs.YtkakoiaahgchmaaGreatDoor
namespace Go.Proofs.YtkakoiaahgchmaaGreatDoor
set_option maxRecDepth 100000
open Go.ChangeShapes Go.WideShapes Go.ChangeAt Go.RowKit
/-- A secret's cells. -/
def secL (seed prf pub : List Int) : List Int := seed ++ (prf ++ pub)
def otsZ (la tr i : Int) : List Int := [la, tr / 4294967296, tr % 4294967296, 0, i, 0, 0, 0]
def ltrZ (la tr i : Int) : List Int := [la, tr / 4294967296, tr % 4294967296, 1, i, 0, 0, 0]
theorem Aw.ots {la tr i : Int} (hl : 0 ≤ la ∧ la < 4294967296) (ht : 0 ≤ tr ∧ tr < 18446744073709551616) (hi : 0 ≤ i ∧ i < 4294967296) : Aw (otsZ la tr i) := ⟨rfl, fun x hx => by
  simp only [otsZ, List.mem_cons, List.not_mem_nil, or_false] at hx
  omega⟩
theorem Aw.ltr {la tr i : Int} (hl : 0 ≤ la ∧ la < 4294967296) (ht : 0 ≤ tr ∧ tr < 18446744073709551616) (hi : 0 ≤ i ∧ i < 4294967296) : Aw (ltrZ la tr i) := ⟨rfl, fun x hx => by
  simp only [ltrZ, List.mem_cons, List.not_mem_nil, or_false] at hx
  omega⟩
@[irreducible] def leafZ (seed pub : List Int) (la tr i : Int) : List Int := compZ pub (ltrZ la tr i) 67 0 (rowW (pubP seed pub (otsZ la tr i)))
theorem ots_list (la tr i : Int) (w : World) (h0 : 0 ≤ tr) (h1 : tr < 18446744073709551616) :
    Calls Tryz.prog 127 #[.int .u32 la, .int .u64 tr, .int .u32 i] w fun e w' => e = .returned (.agg ((otsZ la tr i).map (Value.int .u32)).toArray) ∧ Below w.heap.size w w' := ots_any la tr i w h0 h1
theorem ltr_list (la tr i : Int) (w : World) (h0 : 0 ≤ tr) (h1 : tr < 18446744073709551616) :
    Calls Tryz.prog 103 #[.int .u32 la, .int .u64 tr, .int .u32 i] w fun e w' => e = .returned (.agg ((ltrZ la tr i).map (Value.int .u32)).toArray) ∧ Below w.heap.size w w' := ltree_any la tr i w h0 h1
end Go.Proofs.YtkakoiaahgchmaaGreatDoor
namespace Go.Proofs.YtkakoiaahgchmaaGreatDoor
set_option maxRecDepth 100000
open Go.ChangeShapes Go.WideShapes Go.ChangeAt Go.RowKit
structure Nod where
  d : List Int
  l : Nat
  q : Nat
def nodC (x : Nod) : List Value := x.d.map (Value.int .u8) ++ [.int .i64 x.l, .int .i64 x.q]
def nodZ : Array Value := (nodC ⟨zD, 0, 0⟩).toArray
def nodsC (l : List Nod) : List Value := (l.map nodC).flatten
end Go.Proofs.YtkakoiaahgchmaaGreatDoor
namespace Go.Proofs.YtkakoiaahgchmaaGreatDoor
set_option maxRecDepth 100000
open Go.ChangeShapes Go.WideShapes Go.ChangeAt Go.RowKit
end Go.Proofs.YtkakoiaahgchmaaGreatDoor
namespace Go.Proofs.YtkakoiaahgchmaaGreatDoor
set_option maxRecDepth 100000
open Go.ChangeShapes Go.WideShapes Go.ChangeAt Go.RowKit
/-- The number of the node beside a leaf's way, at a level. -/
def sibN (leaf l : Nat) : Nat := if leaf / 2 ^ l % 2 = 0 then leaf / 2 ^ l + 1 else leaf / 2 ^ l - 1
def pickM (leaf : Nat) (path : List (List Int)) (x : Nod) : List (List Int) := if x.l < path.length ∧ x.q = sibN leaf x.l then path.set x.l x.d else path
/-- A builder's cells. -/
def bldC (v : Value) (pub ad : List Int) (leaf : Nat) (pv : Value) : Array Value := (v :: (pub.map (Value.int .u8) ++ (ad.map (Value.int .u32) ++ [.int .i64 (leaf : Int), pv]))).toArray
end Go.Proofs.YtkakoiaahgchmaaGreatDoor
namespace Go.Proofs.YtkakoiaahgchmaaGreatDoor
set_option maxRecDepth 100000
open Go.ChangeShapes Go.WideShapes Go.ChangeAt Go.RowKit
def upN (pub ad : List Int) (t x : Nod) : Nod := ⟨joinZ t.d x.d pub (setAd ad x.l (t.q / 2 : Nat) 0), x.l + 1, t.q / 2⟩
/-- What adding a node that was looked at comes to: the stack, its last node first; the path. -/
def addR (pub ad : List Int) (leaf : Nat) : List Nod → List (List Int) → Nod → List Nod × List (List Int)
  | [], path, x => ([x], path)
  | t :: s, path, x => if t.l = x.l then addR pub ad leaf s (pickM leaf path (upN pub ad t x)) (upN pub ad t x) else (x :: t :: s, path)
section
variable {w w' : World} {base b pg n leaf : Nat} {pub ad : List Int} {v v' : Value} {stk s : List Nod} {path : List (List Int)} {x t : Nod}
end
end Go.Proofs.YtkakoiaahgchmaaGreatDoor
namespace Go.Proofs.YtkakoiaahgchmaaGreatDoor
set_option maxRecDepth 100000
open Go.ChangeShapes Go.WideShapes Go.ChangeAt Go.RowKit
/-- What the first leaves come to. -/
def addAll (pub ad : List Int) (leaf n : Nat) (lf : Nat → List Int) : Nat → List Nod × List (List Int)
  | 0 => ([], List.replicate n zD)
  | k + 1 => addR pub ad leaf (addAll pub ad leaf n lf k).1 (pickM leaf (addAll pub ad leaf n lf k).2 ⟨lf k, 0, k⟩) ⟨lf k, 0, k⟩
/-- The node of a level, at a number. -/
def nodeZ (pub ad : List Int) (lf : Nat → List Int) : Nat → Nat → List Int
  | 0, j => lf j
  | k + 1, j => joinZ (nodeZ pub ad lf k (2 * j)) (nodeZ pub ad lf k (2 * j + 1)) pub (setAd ad (k : Nat) (j : Nat) 0)
def wayZ (pub ad : List Int) (lf : Nat → List Int) (leaf n : Nat) : List (List Int) := (List.range n).map fun k => nodeZ pub ad lf k (sibN leaf k)
/-- A world in which a builder may have changed but for its path's slice. -/
structure ButBld (b r : Nat) (a c : World) : Prop where
  inn : FlowB.ButIn [b, r] a c
  cell : b < a.heap.size → c.cell? ⟨b, 42, none⟩ = a.cell? ⟨b, 42, none⟩
end Go.Proofs.YtkakoiaahgchmaaGreatDoor
namespace Go.Proofs.YtkakoiaahgchmaaGreatDoor
set_option maxRecDepth 100000
open Go.ChangeShapes Go.WideShapes Go.ChangeAt Go.RowKit
end Go.Proofs.YtkakoiaahgchmaaGreatDoor
namespace Go.Proofs.YtkakoiaahgchmaaGreatDoor
set_option maxRecDepth 100000
open Go.ChangeShapes Go.WideShapes Go.ChangeAt Go.RowKit
def rowN (pub ad : List Int) (lf : Nat → List Int) (k m : Nat) : List (List Int) := (List.range m).map (nodeZ pub ad lf k)
/-- The rows, wherever they lie. -/
def RowsV (pub ad : List Int) (lf : Nat → List Int) (n : Nat) (v : Value) (w : World) : Prop := ∃ g cap, v = .slice (some ⟨g, 0, none⟩) (n + 1) cap ∧ n + 1 ≤ cap ∧ g < w.heap.size ∧ ∀ j, j ≤ n → ∃ u, w.cell? ⟨g, j, none⟩ = some u ∧ RowV (2 ^ (n - j)) (rowN pub ad lf j (2 ^ (n - j))) u w
end Go.Proofs.YtkakoiaahgchmaaGreatDoor
namespace Go.Proofs.YtkakoiaahgchmaaGreatDoor
set_option maxRecDepth 100000
open Go.ChangeShapes Go.WideShapes Go.ChangeAt Go.RowKit
end Go.Proofs.YtkakoiaahgchmaaGreatDoor
namespace Go.Proofs.YtkakoiaahgchmaaGreatDoor
set_option maxRecDepth 100000
open Go.ChangeShapes Go.WideShapes Go.ChangeAt Go.RowKit
end Go.Proofs.YtkakoiaahgchmaaGreatDoor
namespace Go.Proofs.YtkakoiaahgchmaaGreatDoor
set_option maxRecDepth 100000
open Go.ChangeShapes Go.WideShapes Go.ChangeAt Go.RowKit
/-- Is a shape right? -/
def rightS (L V : Int) : Bool := decide (1 ≤ L ∧ L ≤ 4 ∧ 1 ≤ V ∧ V ≤ 4)
def shC (L V : Int) : Array Value := #[.int .i64 L, .int .i64 V]
theorem size_shape : (Tryz.prog.info? 23).map (·.size) = some 2 := by kernel_rfl
set_option maxHeartbeats 4000000 in
theorem hright_any (L V : Int) (w : World) : Calls Tryz.prog 96 #[.agg (shC L V)] w fun e w' => e = .returned (.bool (rightS L V)) ∧ Below w.heap.size w w' := by
  unfold shC
  by_cases h1 : 1 ≤ L
  · by_cases h2 : L ≤ 4
    · by_cases h3 : 1 ≤ V
      · by_cases h4 : V ≤ 4
        · go_enter Tryz.func96, Tryz.ntmps96
          go_wp2
          go_returns
          exact ⟨by simp [rightS, *] <;> omega, by go_grown⟩
        · have h4b : 4 < V := by omega
          go_enter Tryz.func96, Tryz.ntmps96
          go_wp2
          go_returns
          exact ⟨by simp [rightS, *] <;> omega, by go_grown⟩
      · have h3b : V < 1 := by omega
        go_enter Tryz.func96, Tryz.ntmps96
        go_wp2
        go_returns
        exact ⟨by simp [rightS, *] <;> omega, by go_grown⟩
    · have h2b : 4 < L := by omega
      go_enter Tryz.func96, Tryz.ntmps96
      go_wp2
      go_returns
      exact ⟨by simp [rightS, *] <;> omega, by go_grown⟩
  · have h1b : L < 1 := by omega
    go_enter Tryz.func96, Tryz.ntmps96
    go_wp2
    go_returns
    exact ⟨by simp [rightS, *] <;> omega, by go_grown⟩
/-- How many indices a shape has. -/
def manyS (L V : Int) : Int := if rightS L V = true then ((2 ^ (L * V).toNat : Nat) : Int) else 0
theorem manyS_bad {L V : Int} (h : rightS L V = false) : manyS L V = 0 := by simp [manyS, h]
theorem hright_b (L V : Int) (b : Bool) (hb : rightS L V = b) (w : World) : Calls Tryz.prog 96 #[.agg (shC L V)] w fun e w' => e = .returned (.bool b) ∧ Below w.heap.size w w' := by
  rw [← hb]; exact hright_any L V w
theorem wrap_pow16 {n : Nat} (h : n ≤ 16) : wrap64 ((2 : Int) ^ n) = ((2 ^ n : Nat) : Int) := (by decide +kernel : ∀ i : Fin 17, wrap64 ((2 : Int) ^ i.val) = ((2 ^ i.val : Nat) : Int)) ⟨n, by omega⟩
set_option maxHeartbeats 4000000 in
theorem many_bad (L V : Int) (w : World) (hr : rightS L V = false) : Calls Tryz.prog 97 #[.agg (shC L V)] w fun e w' => e = .returned (.int .i64 (manyS L V)) ∧ Below w.heap.size w w' := by
  have b1 := (Below.refl w.heap.size w).alloc (Nat.le_refl _) (.cells (shC L V) 23 (0, 0))
  have Ksh := hid (Blk.new (w := w) (n := w.heap.size) rfl (shC L V) 23)
  have Hb := hid b1
  have Hsz2 := hid (show (shC L V).size = 2 from rfl)
  have c0 : (w.alloc (.cells (shC L V) 23 (0, 0))).cell? ⟨w.heap.size, 0, none⟩ = some (.int .i64 L) := by rw [Ksh.out.cell]; rfl
  have c1 : (w.alloc (.cells (shC L V) 23 (0, 0))).cell? ⟨w.heap.size, 1, none⟩ = some (.int .i64 V) := by rw [Ksh.out.cell]; rfl
  clear b1
  go_enter Tryz.func97, Tryz.ntmps97
  go_wp2_with (refine wpList_load_blk rfl 23 _ rfl (w.heap.size) rfl _ 23 Ksh.out _ Tryz.underlying23 rfl 2 size_shape Hsz2.out ?_)
  refine (hright_b L V false hr _).mono ?_
  rintro e w1 ⟨rfl, bw1⟩
  have HBw1 := hid (Below.on Hb.out bw1)
  have hsw1 := HBw1.out.size
  have Kshw1 := hid (Ksh.out.below bw1)
  clear bw1
  go_wp2_with fail
  go_returns
  exact ⟨by rw [manyS_bad hr]; rfl, HBw1.out⟩
set_option maxHeartbeats 4000000 in
theorem many_good (L V : Int) (w : World) (hr : rightS L V = true) : Calls Tryz.prog 97 #[.agg (shC L V)] w fun e w' => e = .returned (.int .i64 (manyS L V)) ∧ Below w.heap.size w w' := by
  have hr2 := hr
  simp only [rightS, decide_eq_true_eq] at hr2
  obtain ⟨n, hn⟩ : ∃ n : Nat, L * V = (n : Int) := ⟨(L * V).toNat, by have := Int.mul_nonneg (show 0 ≤ L by omega) (show 0 ≤ V by omega); omega⟩
  have hm16 : n ≤ 16 := by
    have h1 : L * V ≤ 4 * 4 := Int.mul_le_mul (by omega) (by omega) (by omega) (by omega)
    omega
  have hmz : manyS L V = ((2 ^ n : Nat) : Int) := by rw [manyS, if_pos hr, hn]; rfl
  rw [hmz]
  have b1 := (Below.refl w.heap.size w).alloc (Nat.le_refl _) (.cells (shC L V) 23 (0, 0))
  have Ksh := hid (Blk.new (w := w) (n := w.heap.size) rfl (shC L V) 23)
  have Hb := hid b1
  have Hsz2 := hid (show (shC L V).size = 2 from rfl)
  have c0 : (w.alloc (.cells (shC L V) 23 (0, 0))).cell? ⟨w.heap.size, 0, none⟩ = some (.int .i64 L) := by rw [Ksh.out.cell]; rfl
  have c1 : (w.alloc (.cells (shC L V) 23 (0, 0))).cell? ⟨w.heap.size, 1, none⟩ = some (.int .i64 V) := by rw [Ksh.out.cell]; rfl
  clear b1
  go_enter Tryz.func97, Tryz.ntmps97
  go_wp2_with (refine wpList_load_blk rfl 23 _ rfl (w.heap.size) rfl _ 23 Ksh.out _ Tryz.underlying23 rfl 2 size_shape Hsz2.out ?_)
  refine (hright_b L V true hr _).mono ?_
  rintro e w1 ⟨rfl, bw1⟩
  have HBw1 := hid (Below.on Hb.out bw1)
  have hsw1 := HBw1.out.size
  have Kshw1 := hid (Ksh.out.below bw1)
  clear bw1
  have d0 : w1.cell? ⟨w.heap.size, 0, none⟩ = some (.int .i64 L) := by rw [Kshw1.out.cell]; rfl
  have d1 : w1.cell? ⟨w.heap.size, 1, none⟩ = some (.int .i64 V) := by rw [Kshw1.out.cell]; rfl
  have hw := wrap_pow16 hm16
  go_wp2_with fail
  go_returns
  exact ⟨by simp [hw], HBw1.out⟩
theorem many_any (L V : Int) (w : World) : Calls Tryz.prog 97 #[.agg (shC L V)] w fun e w' => e = .returned (.int .i64 (manyS L V)) ∧ Below w.heap.size w w' := by
  cases hr : rightS L V with
  | false => exact many_bad L V w hr
  | true => exact many_good L V w hr
end Go.Proofs.YtkakoiaahgchmaaGreatDoor
namespace Go.Proofs.YtkakoiaahgchmaaGreatDoor
set_option maxRecDepth 100000
open Go.ChangeShapes Go.WideShapes Go.ChangeAt Go.RowKit
/-- A key's cells. -/
def pubC (L V : Int) (root pub : List Int) : List Value := .int .i64 L :: .int .i64 V :: (root.map (Value.int .u8) ++ pub.map (Value.int .u8))
theorem pubC_length {L V : Int} {root pub : List Int} (h1 : Dg root) (h2 : Dg pub) : (pubC L V root pub).length = 66 := by simp [pubC, h1.len, h2.len]
theorem pubC_size {L V : Int} {root pub : List Int} (h1 : Dg root) (h2 : Dg pub) : (pubC L V root pub).toArray.size = 66 := by rw [List.size_toArray, pubC_length h1 h2]
theorem pubC_shape {L V : Int} {root pub : List Int} {w : World} {b : Nat} {T : TypeId} (k : Blk w b (pubC L V root pub).toArray T) : w.rangeAt b 0 (shC L V).toList := fun j v hv => by
  rw [Nat.zero_add, k.cell, List.getElem?_toArray, ← hv]
  match j, hv with
  | 0, _ => rfl
  | 1, _ => rfl
  | j + 2, h => simp [shC] at h
theorem pubC_root {L V : Int} {root pub : List Int} {w : World} {b : Nat} {T : TypeId} (k : Blk w b (pubC L V root pub).toArray T) : w.rangeAt b 2 (root.map (Value.int .u8)) := fun j v hv => by
  have hj : j < root.length := by have := (List.getElem?_eq_some_iff.1 hv).1; simpa using this
  rw [k.cell, List.getElem?_toArray, ← hv]
  unfold pubC
  rw [show 2 + j = j + 1 + 1 by omega, List.getElem?_cons_succ, List.getElem?_cons_succ, List.getElem?_append_left (by rw [List.length_map]; exact hj)]
theorem pubC_pub {L V : Int} {root pub : List Int} (h1 : Dg root) {w : World} {b : Nat} {T : TypeId} (k : Blk w b (pubC L V root pub).toArray T) : w.rangeAt b 34 (pub.map (Value.int .u8)) := fun j v hv => by
  rw [k.cell, List.getElem?_toArray, ← hv]
  unfold pubC
  rw [show 34 + j = (32 + j) + 1 + 1 by omega, List.getElem?_cons_succ, List.getElem?_cons_succ, List.getElem?_append_right (by rw [List.length_map, h1.len]; omega), List.length_map, h1.len, show 32 + j - 32 = j by omega]
/-- A signature's cells. -/
def sigC (i : Int) (r : List Int) (pv : Value) : List Value := .int .i64 i :: (r.map (Value.int .u8) ++ [pv])
theorem sigC_size {i : Int} {r : List Int} {pv : Value} (h : Dg r) : (sigC i r pv).toArray.size = 34 := by simp [sigC, h.len]
theorem size_public : (Tryz.prog.info? 27).map (·.size) = some 66 := by kernel_rfl
theorem size_sig : (Tryz.prog.info? 32).map (·.size) = some 34 := by kernel_rfl
def zPub : List Value := pubC 0 0 zD zD
def zSig : List Value := sigC 0 zD (.slice none 0 0)
end Go.Proofs.YtkakoiaahgchmaaGreatDoor
namespace Go.Proofs.YtkakoiaahgchmaaGreatDoor
set_option maxRecDepth 100000
open Go.ChangeShapes Go.WideShapes Go.ChangeAt Go.RowKit
set_option maxHeartbeats 4000000 in
theorem formed_bad (L V : Int) (gs : Array Value) (w : World) (hr : rightS L V = false) : Calls Tryz.prog 69 #[.agg (shC L V), .agg gs] w fun e w' => e = .returned (.bool false) ∧ Below w.heap.size w w' := by
  have b1 := (Below.refl w.heap.size w).alloc (Nat.le_refl _) (.cells (shC L V) 23 (0, 0))
  have b2 := b1.alloc b1.size (.cells gs 32 (0, 0))
  have Ksh := hid ((Blk.new (w := w) (n := w.heap.size) rfl (shC L V) 23).old (.cells gs 32 (0, 0)))
  have Hb := hid b2
  clear b1 b2
  go_enter Tryz.func69, Tryz.ntmps69
  go_wp2_with fail
  refine wp_region_flow 23 (List.range 23) [] [] (by kernel_rfl) (by kernel_rfl) ?_
  apply Exists.intro
  refine ⟨fun w0 hb0 hF0 => ?_, ?_⟩
  · skip
    have c0 := fun e : Ext w0 => hright_b L V false hr e.at_
    have xs : ∀ w', (∃ x : Ext w0, w' = x.at_) → ∃ T, Blk w' (w.heap.size) (shC L V) T := fun w' ⟨x, hx⟩ => ⟨_, hx ▸ (Ksh.out.below hb0).below x.same⟩
    simp only [pick, List.range, List.range.loop, List.getElem?_toArray, List.getElem?_cons_succ, List.getElem?_cons_zero, Option.toList_some, List.cons_append, List.nil_append]
    repeat (first | (go_big_quiet_want; refine quiet_load_blk 23 _ rfl (w.heap.size) rfl _ xs _ Tryz.underlying23 rfl 2 size_shape rfl ?_; go_big_quiet_on; simp only [Act.put, List.setIfInBounds_toArray, List.set_cons_zero, List.set_cons_succ]) | go_big_quiet_step (first | (go_at_call 96; with_reducible exact Calls.ext (c0 _))))
    exact wpQuiet_nil rfl
  refine AlChk.nil ?_
  refine Walk.fin fun w1 hw1 _ _ => ?_
  simp only [List.drop_succ_cons, List.drop_zero]
  have HBw1 := hid (Below.on Hb.out hw1)
  have hsw1 := HBw1.out.size
  have Kshw1 := hid (Ksh.out.below hw1)
  clear hw1
  go_wp2_with fail
  go_returns
  exact ⟨rfl, HBw1.out⟩
set_option maxHeartbeats 4000000 in
theorem verify_bad (L V : Int) (root pub : List Int) (gs : Array Value) (v : Value) (w : World) (hr : rightS L V = false) (hgs : gs.size = 34) : Calls Tryz.prog 31 #[.agg (pubC L V root pub).toArray, .agg gs, v] w fun e w' => e = .returned (.bool false) ∧ Below w.heap.size w w' := by
  have b1 := (Below.refl w.heap.size w).alloc (Nat.le_refl _) (.cells (pubC L V root pub).toArray 27 (0, 0))
  have b2 := b1.alloc b1.size (.cells gs 32 (0, 0))
  have Kp := hid ((Blk.new (w := w) (n := w.heap.size) rfl (pubC L V root pub).toArray 27).old (.cells gs 32 (0, 0)))
  have K2 := hid (Blk.new (w := w.alloc (.cells (pubC L V root pub).toArray 27 (0, 0))) (n := w.heap.size + 1) (by simp only [World.size_alloc]) gs 32)
  have Hb := hid b2
  have hbs := b2.size
  clear b1 b2
  go_enter Tryz.func31, Tryz.ntmps31
  go_wp2_with (first
     | (refine wpList_load_mid rfl 23 _ rfl (w.heap.size) 0 rfl _ _ (pubC_shape Kp.out) Tryz.underlying23 rfl (by exact size_shape) ?_)
     | (refine wpList_load_blk rfl 32 _ rfl (w.heap.size + 1) rfl _ 32 K2.out _ Tryz.underlying32 rfl 34 size_sig hgs ?_))
  refine (formed_bad L V gs _ hr).mono ?_
  rintro e w1 ⟨rfl, bw1⟩
  have HBw1 := hid (Below.on Hb.out bw1)
  have hsw1 := HBw1.out.size
  have Kpw1 := hid (Kp.out.below bw1)
  have K2w1 := hid (K2.out.below bw1)
  clear bw1
  go_wp2_with fail
  go_returns
  exact ⟨rfl, HBw1.out⟩
end Go.Proofs.YtkakoiaahgchmaaGreatDoor
namespace Go.Proofs.YtkakoiaahgchmaaGreatDoor
set_option maxRecDepth 100000
namespace FlowR
open Go.RowKit
/-- The order in which two operations stand that change places. -/
def swap (x y j : Nat) : Nat := if j = y then 2 * x - 1 else 2 * j
section
variable {P : Program} {ops : Array Oper} {md : Region.Mode}
/-- An operation waits for another one, by way of others too. -/
def waitB_ (md : Region.Mode) (ops : Array Oper) : Nat → Nat → Nat → Bool
  | 0, t, i => Region.waitsFor md ops t i
  | n + 1, t, i => Region.waitsFor md ops t i || (List.range t).any fun j => Region.waitsFor md ops t j && waitB_ md ops n j i
/-- What the theorem asks of the region. -/
structure Fg (md : Region.Mode) (ops : Array Oper) (N1 : Nat) : Prop where
  sel : ∀ (j : Nat) (o : Oper) cs b, ops[j]? = some o → o.op ≠ .select cs b
  le : N1 ≤ ops.size
  apart : ∀ i j, i < N1 → j < N1 → i ≠ j → ∀ d, (ops[i]?).bind (·.dst) = some d → (ops[j]?).bind (·.dst) ≠ some d
  tail : ∀ t i, t < ops.size → N1 ≤ t → i < N1 → waitB_ md ops 5 t i = true
  down : ∃ rk : Nat → Nat, ∀ (j : Nat) (o : Oper) e, ops[j]? = some o → e ∈ o.after → Region.binds md e = true → rk e.on < rk j ∧ e.on < ops.size
  seq : Region.seqB md ops (ops.size - N1) N1 (full ops.size N1) = true
/-- A step of the walk: a call in its turn; a block that is made, met where it is first wanted. -/
inductive Nd where
  | c (j : Nat)
  | b (j : Nat)
abbrev Pend := List (Nat × (Nat → Value) × Obj)
/-- The operation makes this block, and yields a value made of its number. -/
def AlOK (P : Program) (ops : Array Oper) (R : World → World → Prop) (w : World) (A : Act) (F : World → Prop) (mk : Nat → Value) (obj : Obj) (o : Oper) : Prop :=
  Region.wanted o (yielded ops A.tmps) = true ∧ ∀ w1, R w w1 → F w1 → (execOp A.eval o).run P w1 = .ok (.value (mk w1.heap.size)) (w1.alloc obj)
def AlChk (P : Program) (ops : Array Oper) (R : World → World → Prop) (w : World) (A : Act) (F : World → Prop) (K : Pend → Prop) : List Nat → Pend → Prop
  | [], pd => K pd
  | j :: al, pd => ∃ o, ops[j]? = some o ∧ ∃ mk obj, AlOK P ops R w A F mk obj o ∧ AlChk P ops R w A F K al ((j, mk, obj) :: pd)
def After (P : Program) (ops : Array Oper) (R : World → World → Prop) (w : World) (F : World → Prop) (K : Pend → Act → Prop) (lv al : List Nat) (pd : Pend) (A : Act) : Prop :=
  ∃ A', (∀ w1, R w w1 → F w1 → wpQuiet P ops (fun w' => ∃ x : Ext w1, w' = x.at_) (fun a' => a' = A') (pick ops lv) A) ∧ AlChk P ops R w A' F (fun pd' => K pd' A') al pd
def Walk (P : Program) (ops : Array Oper) (R : World → World → Prop) (w : World) (Fin : Act → World → Prop) : List (Nd × List Nat × List Nat) → Pend → Act → (World → Prop) → (World → Prop) → Prop
  | [], _, A, F, G => ∀ w1, R w w1 → F w1 → G w1 → Fin A w1
  | (.c j, lv, al) :: ph, pd, A, F, G => ∃ o, ops[j]? = some o ∧ ∃ Fact Gact : Value → World → Prop, (∀ v w' w'', R w w' → Fact v w' → R w' w'' → Fact v w'') ∧ (∀ v w' w'', Gact v w' → Below w'.heap.size w' w'' → Gact v w'') ∧
      (∀ w1, R w w1 → F w1 → G w1 → NdOK P ops R A w1 (fun v w2 => Fact v w2 ∧ Gact v w2) o) ∧
      ∀ v w0, R w w0 → F w0 → Fact v w0 → After P ops R w (fun w1 => F w1 ∧ Fact v w1) (fun pd' A' => Walk P ops R w Fin ph pd' A' (fun w1 => F w1 ∧ Fact v w1) (Gact v)) lv al pd (A.put o.dst v)
  | (.b j, lv, al) :: ph, pd, A, F, G => ∃ o, ops[j]? = some o ∧ ∃ mk obj, (j, mk, obj) ∈ pd ∧
      ∀ b w0, R w w0 → F w0 → w.heap.size ≤ b → w0.heap[b]? = some obj → After P ops R w (fun w1 => F w1 ∧ w1.heap[b]? = some obj) (fun pd' A' => Walk P ops R w Fin ph pd' A' (fun w1 => F w1 ∧ w1.heap[b]? = some obj) G) lv al pd (A.put o.dst (mk b))
/-- the operations that these steps bring in -/
def intro_ : List (Nd × List Nat × List Nat) → List Nat
  | [] => []
  | (.c j, lv, al) :: ph => j :: (lv ++ al ++ intro_ ph)
  | (.b _, lv, al) :: ph => lv ++ al ++ intro_ ph
def alB (md : Region.Mode) (ops : Array Oper) (N1 : Nat) (from_ pend : List Nat) (al : List Nat) : Bool :=
  al.all fun j => decide (j < N1) && !from_.contains j && !pend.contains j && looksB md ops N1 from_ j
def waitB (md : Region.Mode) (ops : Array Oper) (j : Nat) (later : List Nat) : Bool :=
  later.all fun i => (j :: later).any fun i' => Region.waitsFor md ops i i'
def fB (md : Region.Mode) (ops : Array Oper) (N1 : Nat) : List Nat → List Nat → List (Nd × List Nat × List Nat) → Bool
  | from_, pend, [] => pend.all fun j => from_.contains j
  | from_, pend, (.c j, lv, al) :: ph => decide (j < N1) && !from_.contains j && !pend.contains j && looksB md ops N1 from_ j && levB md ops N1 (from_ ++ [j]) lv && (lv.all fun k => !pend.contains k) && alB md ops N1 (from_ ++ [j] ++ lv) pend al &&
      waitB md ops j (lv ++ al ++ intro_ ph) && fB md ops N1 (from_ ++ [j] ++ lv) (pend ++ al) ph
  | from_, pend, (.b j, lv, al) :: ph => pend.contains j && !from_.contains j && levB md ops N1 (from_ ++ [j]) lv && (lv.all fun k => !pend.contains k) && alB md ops N1 (from_ ++ [j] ++ lv) pend al &&
      waitB md ops j (lv ++ al ++ intro_ ph) && fB md ops N1 (from_ ++ [j] ++ lv) (pend ++ al) ph
def flowB (rk : Nat → Nat) (md : Region.Mode) (ops : Array Oper) (N1 : Nat) (lev al : List Nat) (ph : List (Nd × List Nat × List Nat)) : Bool :=
  Region.noSelect ops && decide (N1 ≤ ops.size) &&
  ((List.range N1).all fun i => (List.range N1).all fun j => decide (j ≤ i) || match (ops[i]?).bind (·.dst) with
    | some d => (ops[j]?).bind (·.dst) != some d
    | none => true) &&
  levB md ops N1 [] lev && alB md ops N1 lev [] al && fB md ops N1 lev al ph && ((List.range N1).all fun i => (lev ++ al ++ intro_ ph).contains i) &&
  ((List.range ops.size).all fun t => decide (t < N1) || (List.range N1).all fun i => waitB_ md ops 5 t i) &&
  ((List.range ops.size).all fun j => match ops[j]? with
    | some o => o.after.all fun e => !Region.binds md e || (decide (rk e.on < rk j) && decide (e.on < ops.size))
    | none => true) &&
  Region.seqB md ops (ops.size - N1) N1 (full ops.size N1)
/-- What a slot reads as behind a write, in a frame of n slots. -/
def slotV (n d : Nat) (v : Value) : Option Value := if d < n then some v else none
structure FInv (R : World → World → Prop) (P : Program) (md : Region.Mode) (ops : Array Oper) (N1 : Nat) (a0 : Act) (w : World) (from_ : List Nat) (pd : Pend) (A : Act) (F G : World → Prop) (listed : Array Bool) : Prop where
  lt : ∀ j ∈ from_, j < N1
  looks : ∀ j ∈ from_, looksB md ops N1 from_ j = true
  det : ∀ j ∈ from_, ∀ o, ops[j]? = some o → listed.getD j false = false → Det P ops R w A F o
  plt : ∀ p ∈ pd, p.1 < N1
  plooks : ∀ p ∈ pd, looksB md ops N1 from_ p.1 = true
  pok : ∀ p ∈ pd, ∀ o, ops[p.1]? = some o → AlOK P ops R w A F p.2.1 p.2.2 o
  old : ∀ d, (∀ k ∈ from_, (ops[k]?).bind (·.dst) ≠ some d) → A.tmps[d]? = a0.tmps[d]?
  sz : A.tmps.size = a0.tmps.size
  df : A.defers = a0.defers
  stab : ∀ w' w'', R w w' → F w' → R w' w'' → F w''
  gstab : ∀ w' w'', G w' → Below w'.heap.size w' w'' → G w''
structure FAt (R : World → World → Prop) (ops : Array Oper) (a0 : Act) (w : World) (from_ : List Nat) (pd : Pend) (A : Act) (F G : World → Prop) (listed : Array Bool) (a' : Act) (w' : World) : Prop where
  rel : R w w'
  fact : F w'
  gact : G w'
  sz : a'.tmps.size = A.tmps.size
  df : a'.defers = A.defers
  sub : ∀ j, listed.getD j false = true → j ∈ from_ ∨ ∃ p ∈ pd, p.1 = j
  on : ∀ j d, j ∈ from_ → listed.getD j false = true → (ops[j]?).bind (·.dst) = some d → a'.tmps[d]? = A.tmps[d]?
  onp : ∀ p ∈ pd, p.1 ∉ from_ → listed.getD p.1 false = true → ∃ b, w.heap.size ≤ b ∧ w'.heap[b]? = some p.2.2 ∧ ∀ d, (ops[p.1]?).bind (·.dst) = some d → a'.tmps[d]? = slotV a'.tmps.size d (p.2.1 b)
  off : ∀ d, (∀ j, listed.getD j false = true → (ops[j]?).bind (·.dst) ≠ some d) → a'.tmps[d]? = a0.tmps[d]?
end
end FlowR
end Go.Proofs.YtkakoiaahgchmaaGreatDoor
namespace Go.Proofs.YtkakoiaahgchmaaGreatDoor
set_option maxRecDepth 100000
open Go.RowKit
section
variable {P : Program} {Q : Exit → Act → World → Prop}
/-- Operations that never call. -/
def noCall (o : Oper) : Bool := match o.op with
  | .move _ | .nilCheck _ | .fieldAddr _ _ _ | .load _ _ | .extract _ _ | .alloc _ | .store _ _ _ | .assign _ => true
  | _ => false
def Stays (r : Result Next) : Prop := match r with
  | .ok (.enter _ _) _ => False
  | .ok (.row _ _) _ => False
  | _ => True
namespace FlowR
end FlowR
end
end Go.Proofs.YtkakoiaahgchmaaGreatDoor
namespace Go.Proofs.YtkakoiaahgchmaaGreatDoor
set_option maxRecDepth 100000
open Go.ChangeShapes Go.WideShapes Go.ChangeAt Go.RowKit
/-- A part: its one-time signature, and its way. -/
abbrev Prt := List (List Int) × List (List Int)
/-- Parts, in memory that was there. -/
structure PartsAt (w : World) (a : Option Addr) (len cap : Nat) (ps : List Prt) : Prop where
  length : ps.length = len
  le : len ≤ cap
  max : cap ≤ 9223372036854775807
  mem : (a = none ∧ len = 0 ∧ cap = 0) ∨ ∃ x o s, a = some ⟨x, o, s⟩ ∧ ∀ j, j < len → s = none ∧ x < w.heap.size ∧ ∃ u v, w.cell? ⟨x, o + j * 2, none⟩ = some u ∧ w.cell? ⟨x, o + j * 2 + 1, none⟩ = some v ∧ RowV (ps.getD j ([], [])).1.length (ps.getD j ([], [])).1 u w ∧ RowV (ps.getD j ([], [])).2.length (ps.getD j ([], [])).2 v w
theorem PartsAt.below {w w' : World} {a : Option Addr} {len cap : Nat} {ps : List Prt} (h : PartsAt w a len cap ps) (hb : Below w.heap.size w w') : PartsAt w' a len cap ps := by
  obtain ⟨h1, h2, h3, h | ⟨x, o, s, rfl, hc⟩⟩ := h
  · exact ⟨h1, h2, h3, .inl h⟩
  · refine ⟨h1, h2, h3, .inr ⟨x, o, s, rfl, fun j hj => ?_⟩⟩
    obtain ⟨q0, q1, u, v, q2, q3, q4, q5⟩ := hc j hj
    exact ⟨q0, Nat.lt_of_lt_of_le q1 hb.size, u, v, by rw [hb.cell (p := ⟨x, o + j * 2, none⟩) q1]; exact q2, by rw [hb.cell (p := ⟨x, o + j * 2 + 1, none⟩) q1]; exact q3, q4.below hb, q5.below hb⟩
theorem PartsAt.nil (w : World) : PartsAt w none 0 0 [] := ⟨rfl, Nat.le_refl _, by omega, .inl ⟨rfl, rfl, rfl⟩⟩
theorem PartsAt.at_ {w : World} {a : Option Addr} {len cap : Nat} {ps : List Prt} (h : PartsAt w a len cap ps) (h0 : 0 < len) : ∃ x o, a = some ⟨x, o, none⟩ ∧ x < w.heap.size ∧ ∀ j, j < len → ∃ u v, w.cell? ⟨x, o + j * 2, none⟩ = some u ∧ w.cell? ⟨x, o + j * 2 + 1, none⟩ = some v ∧ RowV (ps.getD j ([], [])).1.length (ps.getD j ([], [])).1 u w ∧ RowV (ps.getD j ([], [])).2.length (ps.getD j ([], [])).2 v w := by
  obtain ⟨h1, h2, h3, ⟨_, h, _⟩ | ⟨x, o, s, rfl, hc⟩⟩ := h
  · omega
  · obtain ⟨rfl, hx, _⟩ := hc 0 h0
    exact ⟨x, o, rfl, hx, fun j hj => (hc j hj).2.2⟩
theorem digs_cells {H : Type} {enc : TypeId × Value → H} {P : Program} {W : World} {n : Nat} {t e q : TypeId} {cs : List Value} {x : DataW H × List MemPlace} (hu : P.underlying t = some (.slice e)) (he : P.underlying e = some (.array 32 q)) (hq : P.underlying q = some (.int .u8))
    (ce : P.cellsOf e = 32) (cq : P.cellsOf q = 1) (h : DataW.trod enc P W 0 (fun _ => true) true n t cs = some x) :
    ∃ (a : Option Addr) (len cap : Nat) (ds : List (List Int)), cs = [.slice a len cap] ∧ DigsAt W a len cap ds := by
  rcases Go.Deep.open_slice hu h with ⟨rfl, _⟩ | ⟨x, len, cap, m, n, D, Pl, rfl, _, hl, hm, hmm, _, hall⟩
  · exact ⟨none, 0, 0, [], rfl, DigsAt.nil W⟩
  · obtain ⟨b, off, s⟩ := x
    simp only [if_true] at hmm
    have hall' : ∀ i, i < cap → ∃ dd : List Int, Dg dd ∧ W.cells? 0 ((⟨b, off, s⟩ : Addr).add (i * 32)) 32 = some (dd.map (Value.int .u8)) := fun i hi => by
      obtain ⟨cs', h1, h2⟩ := hall i (by omega)
      rw [ce] at h1
      obtain ⟨dd, h3, rfl⟩ := digest_cells he hq ce cq h2
      exact ⟨dd, h3, h1⟩
    let f : Nat → List Int := fun i => if h : i < cap then Classical.choose (hall' i h) else []
    have hf : ∀ i, i < cap → Dg (f i) ∧ W.cells? 0 ((⟨b, off, s⟩ : Addr).add (i * 32)) 32 = some ((f i).map (Value.int .u8)) := fun i hi => by
      simp only [f, hi, dif_pos]
      exact Classical.choose_spec (hall' i hi)
    refine ⟨_, len, cap, (List.range len).map f, rfl, ⟨by simp, hl, by unfold maxLen at hm; omega, fun d hd => ?_, .inr ⟨b, off, s, rfl, fun i hi => ?_⟩⟩⟩
    · simp only [List.mem_map, List.mem_range] at hd
      obtain ⟨i, hi, rfl⟩ := hd
      exact (hf i (by omega)).1
    · have hc := (World.cells?_some (hf i (by omega)).2).2.2
      have h0 := (World.cells?_some (hf 0 (by omega)).2).2.2 0 (by omega)
      have hl0 := (hf 0 (by omega)).1.len
      have hli := (hf i (by omega)).1.len
      rw [List.getElem?_map, List.getElem?_eq_getElem (by omega)] at h0
      have hs : s = none := by
        have := World.cell?_spot h0
        simpa [Addr.add] using this
      subst hs
      have hx : b < W.heap.size := by
        rw [Addr.add_mid, Addr.add_mid] at h0
        exact World.block_lt_of_cell? W _ h0
      refine ⟨rfl, hx, fun k v hv => ?_⟩
      have e : ((List.range len).map f).getD i [] = f i := by simp [hi]
      rw [e] at hv
      have hk : k < 32 := by
        have := (List.getElem?_eq_some_iff.1 hv).1
        simp only [List.length_map, hli] at this
        exact this
      have := hc k hk
      rw [Addr.add_mid, Addr.add_mid] at this
      rw [this]
      exact hv
end Go.Proofs.YtkakoiaahgchmaaGreatDoor
namespace Go.Proofs.YtkakoiaahgchmaaGreatDoor
set_option maxRecDepth 100000
open Go.ChangeShapes Go.WideShapes Go.ChangeAt Go.RowKit
section
variable {P : Program} {ops : Array Oper} {rest : List Oper} {op : Oper} {a : Act} {w : World} {Q : Exit → Act → World → Prop} {t e : TypeId}
/-- An element's address, of elements of s cells. -/
theorem run_indexAt_s (s : Nat) (ht : P.underlying t = some (.slice e)) (hs : (P.info? e).map (·.size) = some s) (b o len cap : Nat) (k : IntKind) (i : Int) (j : Nat) (hi : i = j) (hj : j < len) (w : World) :
    (Instr.indexAt t (.slice (some ⟨b, o, none⟩) len cap) (.int k i)).run P w = .ok (.pointer (some ⟨b, o + j * s, none⟩)) w := by
  subst hi
  obtain ⟨i0, hi0, h32⟩ := Option.map_eq_some_iff.1 hs
  have hlt : (0 : Int) ≤ j ∧ (j : Int) < len := by omega
  unfold Instr.indexAt
  simp [asIntOf, Sem.run_bind, run_underlying ht, hlt, sizeOf, typeInfo, hi0, h32, hj, Addr.add_mid]
theorem wpList_index_s (s : Nat) (hw : Region.wanted op (yielded ops a.tmps) = true) (ty : TypeId) (x ix : Operand) (ho : op.op = .indexAddr ty x ix) (ht : P.underlying ty = some (.slice e)) (hs : (P.info? e).map (·.size) = some s) (b o len cap : Nat) (hx : a.eval x = .slice (some ⟨b, o, none⟩) len cap)
    (k : IntKind) (i : Int) (hix : a.eval ix = .int k i) (j : Nat) (hi : i = j) (hj : j < len) (h : wpList P ops Q rest (a.put op.dst (.pointer (some ⟨b, o + j * s, none⟩))) w) : wpList P ops Q (op :: rest) a w := by
  unfold wpList
  rw [if_pos hw]
  refine .inl ?_
  unfold Oper.wp execOp
  simp only [ho, hx, hix, Sem.run_bind, Sem.run_pure, Result.andThen_ok, run_indexAt_s s ht hs b o len cap k i j hi hj, Oper.upon_value]
  exact h
end
theorem size_part : (Tryz.prog.info? 58).map (·.size) = some 2 := by kernel_rfl
theorem sigC_index {i : Int} {r : List Int} {pv : Value} {w : World} {b : Nat} {T : TypeId} (k : Blk w b (sigC i r pv).toArray T) : w.cell? ⟨b, 0, none⟩ = some (.int .i64 i) := by rw [k.cell]; rfl
theorem sigC_parts {i : Int} {r : List Int} {pv : Value} {w : World} {b : Nat} {T : TypeId} (h : Dg r) (k : Blk w b (sigC i r pv).toArray T) : w.cell? ⟨b, 33, none⟩ = some pv := by
  rw [k.cell]
  simp [sigC, h.len]
theorem sigC_r {i : Int} {r : List Int} {pv : Value} {w : World} {b : Nat} {T : TypeId} (k : Blk w b (sigC i r pv).toArray T) : w.rangeAt b 1 (r.map (Value.int .u8)) := fun j v hv => by
  have hj : j < r.length := by have := (List.getElem?_eq_some_iff.1 hv).1; simpa using this
  rw [k.cell, List.getElem?_toArray, ← hv, Nat.add_comm]
  unfold sigC
  rw [List.getElem?_cons_succ, List.getElem?_append_left (by rw [List.length_map]; exact hj)]
/-- What a part's place holds. -/
structure PartC (w : World) (x o : Nat) (p : Prt) (oa : Option Addr) (oc : Nat) (aa : Option Addr) (ac : Nat) : Prop where
  lt : x < w.heap.size
  c0 : w.cell? ⟨x, o, none⟩ = some (.slice oa p.1.length oc)
  c1 : w.cell? ⟨x, o + 1, none⟩ = some (.slice aa p.2.length ac)
  ots : DigsAt w oa p.1.length oc p.1
  auth : DigsAt w aa p.2.length ac p.2
theorem PartC.range {w : World} {x o : Nat} {p : Prt} {oa : Option Addr} {oc : Nat} {aa : Option Addr} {ac : Nat} (h : PartC w x o p oa oc aa ac) : w.rangeAt x o [.slice oa p.1.length oc, .slice aa p.2.length ac] := fun j v hv => by
  match j, hv with
  | 0, hv => rw [Nat.add_zero, h.c0]; exact hv
  | 1, hv => rw [h.c1]; exact hv
  | j + 2, hv => simp at hv
theorem PartC.below {w w' : World} {x o : Nat} {p : Prt} {oa : Option Addr} {oc : Nat} {aa : Option Addr} {ac : Nat} (h : PartC w x o p oa oc aa ac) (hb : Below w.heap.size w w') : PartC w' x o p oa oc aa ac :=
  ⟨Nat.lt_of_lt_of_le h.lt hb.size, by rw [hb.cell (p := ⟨x, o, none⟩) h.lt]; exact h.c0, by rw [hb.cell (p := ⟨x, o + 1, none⟩) h.lt]; exact h.c1, h.ots.below hb, h.auth.below hb⟩
theorem PartsAt.part {w : World} {a : Option Addr} {len cap : Nat} {ps : List Prt} (h : PartsAt w a len cap ps) {k : Nat} (hk : k < len) :
    ∃ x o oa oc aa ac, a = some ⟨x, o, none⟩ ∧ PartC w x (o + k * 2) (ps.getD k ([], [])) oa oc aa ac := by
  obtain ⟨x, o, rfl, hx, hc⟩ := h.at_ (by omega)
  obtain ⟨u, v, c0, c1, ⟨oa, oc, rfl, h0⟩, ⟨aa, ac, rfl, h1⟩⟩ := hc k hk
  exact ⟨x, o, oa, oc, aa, ac, rfl, hx, c0, c1, h0, h1⟩
/-- Are a signature's parts few? -/
def fewP (ps : List Prt) : Bool := decide (∀ j, j < ps.length → (ps.getD j ([], [])).1.length ≤ 100 ∧ (ps.getD j ([], [])).2.length ≤ 100) && decide (ps.length ≤ 20)
end Go.Proofs.YtkakoiaahgchmaaGreatDoor
namespace Go.Proofs.YtkakoiaahgchmaaGreatDoor
set_option maxRecDepth 100000
open Go.ChangeShapes Go.WideShapes Go.ChangeAt Go.RowKit
/-- Has a signature the parts that a shape asks for? -/
def formB (L V i : Int) (ps : List Prt) : Bool := rightS L V && decide (0 ≤ i) && decide (i < manyS L V) && decide ((ps.length : Int) = L) && decide (∀ j, j < ps.length → (ps.getD j ([], [])).1.length = 67 ∧ ((ps.getD j ([], [])).2.length : Int) = V)
theorem formB_neg {L V i : Int} {ps : List Prt} (h : i < 0) : formB L V i ps = false := by simp [formB, show ¬ 0 ≤ i by omega]
theorem formB_many {L V i : Int} {ps : List Prt} (h : manyS L V ≤ i) : formB L V i ps = false := by simp [formB, show ¬ i < manyS L V by omega]
theorem formB_len {L V i : Int} {ps : List Prt} (h : ¬ (ps.length : Int) = L) : formB L V i ps = false := by simp [formB, h]
theorem formB_part {L V i : Int} {ps : List Prt} {k : Nat} (hk : k < ps.length) (h : ¬ ((ps.getD k ([], [])).1.length = 67 ∧ ((ps.getD k ([], [])).2.length : Int) = V)) : formB L V i ps = false := by
  have hn : ¬ ∀ j, j < ps.length → (ps.getD j ([], [])).1.length = 67 ∧ ((ps.getD j ([], [])).2.length : Int) = V := fun hh => h (hh k hk)
  unfold formB
  rw [decide_eq_false hn, Bool.and_false]
theorem formB_right {L V i : Int} {ps : List Prt} (h : rightS L V = false) : formB L V i ps = false := by simp [formB, h]
theorem formB_good {L V i : Int} {ps : List Prt} (h : rightS L V = true) (h0 : 0 ≤ i) (h1 : i < manyS L V) (h2 : (ps.length : Int) = L) (h3 : ∀ j, j < ps.length → (ps.getD j ([], [])).1.length = 67 ∧ ((ps.getD j ([], [])).2.length : Int) = V) : formB L V i ps = true := by
  unfold formB
  rw [decide_eq_true h3, decide_eq_true h2, decide_eq_true h1, decide_eq_true h0, h]
  rfl
set_option maxHeartbeats 4000000 in
theorem formed_right (L V i : Int) (r : List Int) (a : Option Addr) (n c : Nat) (ps : List Prt) (w : World) (hrt : rightS L V = true) (hr : Dg r) (hP : PartsAt w a n c ps) :
    Calls Tryz.prog 69 #[.agg (shC L V), .agg (sigC i r (.slice a n c)).toArray] w fun e w' => e = .returned (.bool (formB L V i ps)) ∧ Below w.heap.size w w' := by
  have hmx := hP.max
  have hle := hP.le
  have b1 := (Below.refl w.heap.size w).alloc (Nat.le_refl _) (.cells (shC L V) 23 (0, 0))
  have b2 := b1.alloc b1.size (.cells (sigC i r (.slice a n c)).toArray 32 (0, 0))
  have Ksh := hid ((Blk.new (w := w) (n := w.heap.size) rfl (shC L V) 23).old (.cells (sigC i r (.slice a n c)).toArray 32 (0, 0)))
  have Kg := hid (Blk.new (w := (w.alloc (.cells (shC L V) 23 (0, 0)))) (n := w.heap.size + 1) (by simp only [World.size_alloc]) (sigC i r (.slice a n c)).toArray 32)
  have Hb := hid b2
  have hbz := b2.size
  have Hbs := hid (show w.heap.size + 1 + 1 = ((w.alloc (.cells (shC L V) 23 (0, 0))).alloc (.cells (sigC i r (.slice a n c)).toArray 32 (0, 0))).heap.size by simp only [World.size_alloc])
  clear b1 b2 
  go_enter Tryz.func69, Tryz.ntmps69
  go_wp2_with fail
  have CM := hid (fun W : World => many_any L V W)
  obtain ⟨M, hM⟩ : ∃ M, manyS L V = M := ⟨_, rfl⟩
  have HM := hid hM
  rw [hM] at CM
  clear hM
  by_cases h0 : i < 0
  · skip
    have hd0 : decide (i < 0) = true := decide_eq_true h0
    refine wp_region_flow 23 (List.range 23) [] [] (by kernel_rfl) (by kernel_rfl) ?_
    apply Exists.intro
    refine ⟨fun w0 hb0 hF0 => ?_, ?_⟩
    · skip
      have x0 : ∀ w', (∃ x : Ext w0, w' = x.at_) → ∃ T, Blk w' (w.heap.size) (shC L V) T := fun w' ⟨x, hx⟩ => ⟨_, hx ▸ (Ksh.out.below hb0).below x.same⟩
      have y0 : ∀ w', (∃ x : Ext w0, w' = x.at_) → w'.cell? ⟨w.heap.size + 1, 0, none⟩ = some (.int .i64 i) := fun w' ⟨x, hx⟩ => by rw [hx, ((Kg.out.below hb0).below x.same).cell]; rfl
      have c0 := fun e : Ext w0 => hright_b L V true hrt e.at_
      have c1 := fun e : Ext w0 => CM.out e.at_
      simp only [pick, List.range, List.range.loop, List.getElem?_toArray, List.getElem?_cons_succ, List.getElem?_cons_zero, Option.toList_some, List.cons_append, List.nil_append]
      repeat (first | (go_big_quiet_want; refine quiet_load_blk 23 _ rfl (w.heap.size) rfl _ x0 _ Tryz.underlying23 rfl 2 size_shape rfl ?_; go_big_quiet_on; simp only [Act.put, List.setIfInBounds_toArray, List.set_cons_zero, List.set_cons_succ]) | (go_big_quiet_want; refine quiet_load_one 3 _ rfl ⟨w.heap.size + 1, 0, none⟩ rfl _ y0 _ Tryz.underlying3 rfl ?_; go_big_quiet_on; simp only [Act.put, List.setIfInBounds_toArray, List.set_cons_zero, List.set_cons_succ]) | go_big_quiet_step (first | (go_at_call 96; with_reducible exact Calls.ext (c0 _)) | (go_at_call 97; with_reducible exact Calls.ext (c1 _))))
      exact wpQuiet_nil rfl
    refine AlChk.nil ?_
    refine Walk.fin fun w1 hw1 _ _ => ?_
    simp only [List.drop_succ_cons, List.drop_zero]
    have HBw1 := hid (Below.on Hb.out hw1)
    have hsw1 := HBw1.out.size
    have Kshw1 := hid (Ksh.out.below hw1)
    have Kgw1 := hid (Kg.out.below hw1)
    clear hw1
    go_wp2_with fail
    go_returns
    exact ⟨by rw [formB_neg h0]; rfl, HBw1.out⟩
  have hd0 : decide (i < 0) = false := decide_eq_false h0
  by_cases h1 : i ≥ M
  · skip
    have hd1 : decide (i ≥ M) = true := decide_eq_true h1
    have hd1 : decide (M ≤ i) = true := decide_eq_true h1
    refine wp_region_flow 23 (List.range 23) [] [] (by kernel_rfl) (by kernel_rfl) ?_
    apply Exists.intro
    refine ⟨fun w0 hb0 hF0 => ?_, ?_⟩
    · skip
      have x0 : ∀ w', (∃ x : Ext w0, w' = x.at_) → ∃ T, Blk w' (w.heap.size) (shC L V) T := fun w' ⟨x, hx⟩ => ⟨_, hx ▸ (Ksh.out.below hb0).below x.same⟩
      have y0 : ∀ w', (∃ x : Ext w0, w' = x.at_) → w'.cell? ⟨w.heap.size + 1, 0, none⟩ = some (.int .i64 i) := fun w' ⟨x, hx⟩ => by rw [hx, ((Kg.out.below hb0).below x.same).cell]; rfl
      have c0 := fun e : Ext w0 => hright_b L V true hrt e.at_
      have c1 := fun e : Ext w0 => CM.out e.at_
      simp only [pick, List.range, List.range.loop, List.getElem?_toArray, List.getElem?_cons_succ, List.getElem?_cons_zero, Option.toList_some, List.cons_append, List.nil_append]
      repeat (first | (go_big_quiet_want; refine quiet_load_blk 23 _ rfl (w.heap.size) rfl _ x0 _ Tryz.underlying23 rfl 2 size_shape rfl ?_; go_big_quiet_on; simp only [Act.put, List.setIfInBounds_toArray, List.set_cons_zero, List.set_cons_succ]) | (go_big_quiet_want; refine quiet_load_one 3 _ rfl ⟨w.heap.size + 1, 0, none⟩ rfl _ y0 _ Tryz.underlying3 rfl ?_; go_big_quiet_on; simp only [Act.put, List.setIfInBounds_toArray, List.set_cons_zero, List.set_cons_succ]) | go_big_quiet_step (first | (go_at_call 96; with_reducible exact Calls.ext (c0 _)) | (go_at_call 97; with_reducible exact Calls.ext (c1 _))))
      exact wpQuiet_nil rfl
    refine AlChk.nil ?_
    refine Walk.fin fun w1 hw1 _ _ => ?_
    simp only [List.drop_succ_cons, List.drop_zero]
    have HBw1 := hid (Below.on Hb.out hw1)
    have hsw1 := HBw1.out.size
    have Kshw1 := hid (Ksh.out.below hw1)
    have Kgw1 := hid (Kg.out.below hw1)
    clear hw1
    go_wp2_with fail
    go_returns
    exact ⟨by rw [formB_many (by rw [HM.out]; exact h1)]; rfl, HBw1.out⟩
  have hd1 : decide (i ≥ M) = false := decide_eq_false h1
  have hd1 : decide (M ≤ i) = false := decide_eq_false h1
  by_cases h2 : (n : Int) = L
  · skip
    have hd2 : ((n : Int) != L) = false := by simp [h2]
    have hd2 : ((n : Int) == L) = true := by simp [h2]
    have H2 := hid h2
    clear h2
    refine wp_region_flow 23 (List.range 23) [] [] (by kernel_rfl) (by kernel_rfl) ?_
    apply Exists.intro
    refine ⟨fun w0 hb0 hF0 => ?_, ?_⟩
    · skip
      have x0 : ∀ w', (∃ x : Ext w0, w' = x.at_) → ∃ T, Blk w' (w.heap.size) (shC L V) T := fun w' ⟨x, hx⟩ => ⟨_, hx ▸ (Ksh.out.below hb0).below x.same⟩
      have y0 : ∀ w', (∃ x : Ext w0, w' = x.at_) → w'.cell? ⟨w.heap.size + 1, 0, none⟩ = some (.int .i64 i) := fun w' ⟨x, hx⟩ => by rw [hx, ((Kg.out.below hb0).below x.same).cell]; rfl
      have y1 : ∀ w', (∃ x : Ext w0, w' = x.at_) → w'.cell? ⟨w.heap.size, 0, none⟩ = some (.int .i64 L) := fun w' ⟨x, hx⟩ => by rw [hx, ((Ksh.out.below hb0).below x.same).cell]; rfl
      have c0 := fun e : Ext w0 => hright_b L V true hrt e.at_
      have c1 := fun e : Ext w0 => CM.out e.at_
      have yp : ∀ w', (∃ x : Ext w0, w' = x.at_) → w'.cell? ⟨w.heap.size + 1, 33, none⟩ = some (.slice a n c) := fun w' ⟨x, hx⟩ => hx ▸ sigC_parts hr ((Kg.out.below hb0).below x.same)
      simp only [pick, List.range, List.range.loop, List.getElem?_toArray, List.getElem?_cons_succ, List.getElem?_cons_zero, Option.toList_some, List.cons_append, List.nil_append]
      repeat (first | (go_big_quiet_want; refine quiet_load_blk 23 _ rfl (w.heap.size) rfl _ x0 _ Tryz.underlying23 rfl 2 size_shape rfl ?_; go_big_quiet_on; simp only [Act.put, List.setIfInBounds_toArray, List.set_cons_zero, List.set_cons_succ]) | (go_big_quiet_want; refine quiet_load_one 3 _ rfl ⟨w.heap.size + 1, 0, none⟩ rfl _ y0 _ Tryz.underlying3 rfl ?_; go_big_quiet_on; simp only [Act.put, List.setIfInBounds_toArray, List.set_cons_zero, List.set_cons_succ]) | (go_big_quiet_want; refine quiet_load_one 3 _ rfl ⟨w.heap.size, 0, none⟩ rfl _ y1 _ Tryz.underlying3 rfl ?_; go_big_quiet_on; simp only [Act.put, List.setIfInBounds_toArray, List.set_cons_zero, List.set_cons_succ]) | (go_big_quiet_want; refine quiet_load_one 30 _ rfl ⟨w.heap.size + 1, 33, none⟩ rfl _ yp _ Tryz.underlying30 rfl ?_; go_big_quiet_on; simp only [Act.put, List.setIfInBounds_toArray, List.set_cons_zero, List.set_cons_succ]) | go_big_quiet_step (first | (go_at_call 96; with_reducible exact Calls.ext (c0 _)) | (go_at_call 97; with_reducible exact Calls.ext (c1 _))))
      exact wpQuiet_nil rfl
    refine AlChk.nil ?_
    refine Walk.fin fun w1 hw1 _ _ => ?_
    simp only [List.drop_succ_cons, List.drop_zero]
    have HBw1 := hid (Below.on Hb.out hw1)
    have hsw1 := HBw1.out.size
    have Kshw1 := hid (Ksh.out.below hw1)
    have Kgw1 := hid (Kg.out.below hw1)
    clear hw1
    have g33 := sigC_parts hr Kgw1.out
    go_wp2_with fail
    go_loopw [33] (fun iv wr => ∃ k : Nat, k ≤ n ∧ iv = .int .i64 k ∧ Blk wr (w.heap.size) (shC L V) 23 ∧ Blk wr (w.heap.size + 1) (sigC i r (.slice a n c)).toArray 32 ∧ Below w.heap.size w wr ∧ ∀ j, j < k → (ps.getD j ([], [])).1.length = 67 ∧ ((ps.getD j ([], [])).2.length : Int) = V) (fun iv _ => n - (intOf iv).toNat)
    case atStart => exact ⟨0, Nat.zero_le _, rfl, Kshw1.out, Kgw1.out, HBw1.out, fun j hj => absurd hj (by omega)⟩
    case round =>
      obtain ⟨k, hk, rfl, ksh, kg, bel, hall⟩ := hrel
      have Kshwr := hid ksh
      have Kgwr := hid kg
      have HBwr := hid bel
      have hswr := bel.size
      have Hall := hid hall
      have g33 := sigC_parts hr kg
      have s1 : wr.cell? ⟨w.heap.size, 1, none⟩ = some (.int .i64 V) := by rw [ksh.cell]; rfl
      clear ksh kg bel hall
      by_cases hlt : k < n
      · have hc0 : (k : Int) < n := by omega
        obtain ⟨x, o, oa, oc, aa, ac, rfl, hpc⟩ := (hP.below HBwr.out).part hlt
        have HPC := hid hpc
        have p0 := hpc.c0
        have p1 := hpc.c1
        clear hpc
        have hkl : k < ps.length := by rw [hP.length]; exact hlt
        have Hbad := hid (formB_part (L := L) (V := V) (i := i) hkl)
        obtain ⟨q, hq⟩ : ∃ q, ps.getD k ([], []) = q := ⟨_, rfl⟩
        have Hq := hid hq
        rw [hq] at Hbad HPC p0 p1
        clear hq
        by_cases h3 : q.1.length = 67
        · have hd3 : ((q.1.length : Int) != 67) = false := by simp; omega
          have hd3 : ((q.1.length : Int) == 67) = true := by simp; omega
          have H3 := hid h3
          clear h3
          by_cases h4 : (q.2.length : Int) = V
          · skip
            have hd4 : ((q.2.length : Int) != V) = false := by simp [h4]
            have hd4 : ((q.2.length : Int) == V) = true := by simp [h4]
            have H4 := hid h4
            clear h4
            have Kshw2 := hid (Kshwr.out.old (.cells #[.slice oa q.1.length oc, .slice aa q.2.length ac] 58 (0, 0)))
            have hlshw2 := Kshwr.out.lt
            have Kgw2 := hid (Kgwr.out.old (.cells #[.slice oa q.1.length oc, .slice aa q.2.length ac] 58 (0, 0)))
            have hlgw2 := Kgwr.out.lt
            have Kxw2 := hid (Blk.new (w := wr) rfl #[.slice oa q.1.length oc, .slice aa q.2.length ac] 58)
            have HBw2 := hid (HBwr.out.alloc HBwr.out.size (.cells #[.slice oa q.1.length oc, .slice aa q.2.length ac] 58 (0, 0)))
            have hsw2 := HBw2.out.size
            have hfw2 : w.heap.size ≤ wr.heap.size := HBwr.out.size
            have v1 : (wr.alloc (.cells #[.slice oa q.1.length oc, .slice aa q.2.length ac] 58 (0, 0))).cell? ⟨w.heap.size, 1, none⟩ = some (.int .i64 V) := by rw [Kshw2.out.cell]; rfl
            have hne : ¬ wr.heap.size = w.heap.size := by omega
            have hne2 : ¬ w.heap.size = wr.heap.size := by omega
            go_wp2_with (first
               | (refine wpList_index_s 2 (by first | rfl | go_simp) 30 _ _ rfl Tryz.underlying30 size_part x (o) (n) (c) rfl _ _ rfl k (by omega) (by omega) ?_)
               | (refine wpList_load_mid rfl 58 _ rfl x (o + k * 2) rfl _ _ HPC.out.range Tryz.underlying58 rfl (by exact size_part) ?_))
            exact ⟨⟨k + 1, by omega, by first | rfl | simp, Kshw2.out, Kgw2.out, HBw2.out, fun j hj => by
              by_cases hjk : j = k
              · subst hjk; rw [Hq.out]; exact ⟨H3.out, H4.out⟩
              · exact Hall.out j (by omega)⟩, by simp [intOf]; omega⟩
          · skip
            have hd4 : ((q.2.length : Int) != V) = true := by simp [h4]
            have hd4 : ((q.2.length : Int) == V) = false := by simp [h4]
            have Kshw2 := hid (Kshwr.out.old (.cells #[.slice oa q.1.length oc, .slice aa q.2.length ac] 58 (0, 0)))
            have hlshw2 := Kshwr.out.lt
            have Kgw2 := hid (Kgwr.out.old (.cells #[.slice oa q.1.length oc, .slice aa q.2.length ac] 58 (0, 0)))
            have hlgw2 := Kgwr.out.lt
            have Kxw2 := hid (Blk.new (w := wr) rfl #[.slice oa q.1.length oc, .slice aa q.2.length ac] 58)
            have HBw2 := hid (HBwr.out.alloc HBwr.out.size (.cells #[.slice oa q.1.length oc, .slice aa q.2.length ac] 58 (0, 0)))
            have hsw2 := HBw2.out.size
            have hfw2 : w.heap.size ≤ wr.heap.size := HBwr.out.size
            have v1 : (wr.alloc (.cells #[.slice oa q.1.length oc, .slice aa q.2.length ac] 58 (0, 0))).cell? ⟨w.heap.size, 1, none⟩ = some (.int .i64 V) := by rw [Kshw2.out.cell]; rfl
            have hne : ¬ wr.heap.size = w.heap.size := by omega
            have hne2 : ¬ w.heap.size = wr.heap.size := by omega
            go_wp2_with (first
               | (refine wpList_index_s 2 (by first | rfl | go_simp) 30 _ _ rfl Tryz.underlying30 size_part x (o) (n) (c) rfl _ _ rfl k (by omega) (by omega) ?_)
               | (refine wpList_load_mid rfl 58 _ rfl x (o + k * 2) rfl _ _ HPC.out.range Tryz.underlying58 rfl (by exact size_part) ?_))
            go_returns
            exact ⟨by rw [Hbad.out (fun h => h4 h.2)]; rfl, HBw2.out⟩
        · have hd3 : ((q.1.length : Int) != 67) = true := by simp; omega
          have hd3 : ((q.1.length : Int) == 67) = false := by simp; omega
          skip
          have Kshw2 := hid (Kshwr.out.old (.cells #[.slice oa q.1.length oc, .slice aa q.2.length ac] 58 (0, 0)))
          have hlshw2 := Kshwr.out.lt
          have Kgw2 := hid (Kgwr.out.old (.cells #[.slice oa q.1.length oc, .slice aa q.2.length ac] 58 (0, 0)))
          have hlgw2 := Kgwr.out.lt
          have Kxw2 := hid (Blk.new (w := wr) rfl #[.slice oa q.1.length oc, .slice aa q.2.length ac] 58)
          have HBw2 := hid (HBwr.out.alloc HBwr.out.size (.cells #[.slice oa q.1.length oc, .slice aa q.2.length ac] 58 (0, 0)))
          have hsw2 := HBw2.out.size
          have hfw2 : w.heap.size ≤ wr.heap.size := HBwr.out.size
          have v1 : (wr.alloc (.cells #[.slice oa q.1.length oc, .slice aa q.2.length ac] 58 (0, 0))).cell? ⟨w.heap.size, 1, none⟩ = some (.int .i64 V) := by rw [Kshw2.out.cell]; rfl
          have hne : ¬ wr.heap.size = w.heap.size := by omega
          have hne2 : ¬ w.heap.size = wr.heap.size := by omega
          go_wp2_with (first
             | (refine wpList_index_s 2 (by first | rfl | go_simp) 30 _ _ rfl Tryz.underlying30 size_part x (o) (n) (c) rfl _ _ rfl k (by omega) (by omega) ?_)
             | (refine wpList_load_mid rfl 58 _ rfl x (o + k * 2) rfl _ _ HPC.out.range Tryz.underlying58 rfl (by exact size_part) ?_))
          go_returns
          exact ⟨by rw [Hbad.out (fun h => h3 h.1)]; rfl, HBw2.out⟩
      · obtain rfl : k = n := by omega
        have hc0 : ¬ ((k : Int) < k) := by omega
        have hl := hP.length
        go_wp2_with fail
        go_returns
        exact ⟨by rw [formB_good hrt (by omega) (by rw [HM.out]; omega) (by rw [hl]; exact H2.out) (fun j hj => Hall.out j (by omega))]; rfl, HBwr.out⟩
  · skip
    have hd2 : ((n : Int) != L) = true := by simp [h2]
    have hd2 : ((n : Int) == L) = false := by simp [h2]
    refine wp_region_flow 23 (List.range 23) [] [] (by kernel_rfl) (by kernel_rfl) ?_
    apply Exists.intro
    refine ⟨fun w0 hb0 hF0 => ?_, ?_⟩
    · skip
      have x0 : ∀ w', (∃ x : Ext w0, w' = x.at_) → ∃ T, Blk w' (w.heap.size) (shC L V) T := fun w' ⟨x, hx⟩ => ⟨_, hx ▸ (Ksh.out.below hb0).below x.same⟩
      have y0 : ∀ w', (∃ x : Ext w0, w' = x.at_) → w'.cell? ⟨w.heap.size + 1, 0, none⟩ = some (.int .i64 i) := fun w' ⟨x, hx⟩ => by rw [hx, ((Kg.out.below hb0).below x.same).cell]; rfl
      have y1 : ∀ w', (∃ x : Ext w0, w' = x.at_) → w'.cell? ⟨w.heap.size, 0, none⟩ = some (.int .i64 L) := fun w' ⟨x, hx⟩ => by rw [hx, ((Ksh.out.below hb0).below x.same).cell]; rfl
      have c0 := fun e : Ext w0 => hright_b L V true hrt e.at_
      have c1 := fun e : Ext w0 => CM.out e.at_
      have yp : ∀ w', (∃ x : Ext w0, w' = x.at_) → w'.cell? ⟨w.heap.size + 1, 33, none⟩ = some (.slice a n c) := fun w' ⟨x, hx⟩ => hx ▸ sigC_parts hr ((Kg.out.below hb0).below x.same)
      simp only [pick, List.range, List.range.loop, List.getElem?_toArray, List.getElem?_cons_succ, List.getElem?_cons_zero, Option.toList_some, List.cons_append, List.nil_append]
      repeat (first | (go_big_quiet_want; refine quiet_load_blk 23 _ rfl (w.heap.size) rfl _ x0 _ Tryz.underlying23 rfl 2 size_shape rfl ?_; go_big_quiet_on; simp only [Act.put, List.setIfInBounds_toArray, List.set_cons_zero, List.set_cons_succ]) | (go_big_quiet_want; refine quiet_load_one 3 _ rfl ⟨w.heap.size + 1, 0, none⟩ rfl _ y0 _ Tryz.underlying3 rfl ?_; go_big_quiet_on; simp only [Act.put, List.setIfInBounds_toArray, List.set_cons_zero, List.set_cons_succ]) | (go_big_quiet_want; refine quiet_load_one 3 _ rfl ⟨w.heap.size, 0, none⟩ rfl _ y1 _ Tryz.underlying3 rfl ?_; go_big_quiet_on; simp only [Act.put, List.setIfInBounds_toArray, List.set_cons_zero, List.set_cons_succ]) | (go_big_quiet_want; refine quiet_load_one 30 _ rfl ⟨w.heap.size + 1, 33, none⟩ rfl _ yp _ Tryz.underlying30 rfl ?_; go_big_quiet_on; simp only [Act.put, List.setIfInBounds_toArray, List.set_cons_zero, List.set_cons_succ]) | go_big_quiet_step (first | (go_at_call 96; with_reducible exact Calls.ext (c0 _)) | (go_at_call 97; with_reducible exact Calls.ext (c1 _))))
      exact wpQuiet_nil rfl
    refine AlChk.nil ?_
    refine Walk.fin fun w1 hw1 _ _ => ?_
    simp only [List.drop_succ_cons, List.drop_zero]
    have HBw1 := hid (Below.on Hb.out hw1)
    have hsw1 := HBw1.out.size
    have Kshw1 := hid (Ksh.out.below hw1)
    have Kgw1 := hid (Kg.out.below hw1)
    clear hw1
    go_wp2_with fail
    go_returns
    exact ⟨by rw [formB_len (by rw [hP.length]; exact h2)]; rfl, HBw1.out⟩
end Go.Proofs.YtkakoiaahgchmaaGreatDoor
namespace Go.Proofs.YtkakoiaahgchmaaGreatDoor
set_option maxRecDepth 100000
open Go.ChangeShapes Go.WideShapes Go.ChangeAt Go.RowKit
theorem size_place : (Tryz.prog.info? 110).map (·.size) = some 4 := by kernel_rfl
/-- What a part of a signature of a digest leads to. -/
@[irreducible] def rootZ (pub : List Int) (V : Nat) (la tr leaf : Int) (o a : List (List Int)) (m : List Int) : List Int :=
  climbZ pub (treeZ la tr) leaf a (compZ pub (ltrZ la tr leaf) 67 0 (rowW (fromP o m pub (otsZ la tr leaf)))) V
set_option maxHeartbeats 4000000 in
theorem within_1 (la0 tr leaf0 la : Int) (w : World) (h0 : 0 ≤ tr) (h1 : tr < 18446744073709551616) :
    Calls Tryz.prog 99 #[.agg #[.int .u32 la0, .int .u64 tr, .int .i64 leaf0, .int .i64 1], .int .u32 la] w fun e w' => e = .returned (.agg #[.int .u32 la, .int .u64 (tr / 2), .int .i64 (tr % 2), .int .i64 1]) ∧ Below w.heap.size w w' := by
  have b1 := (Below.refl w.heap.size w).alloc (Nat.le_refl _) (.cells #[.int .u32 la0, .int .u64 tr, .int .i64 leaf0, .int .i64 1] 110 (0, 0))
  have b2 := b1.alloc b1.size (.cells #[.int .u32 0, .int .u64 0, .int .i64 0, .int .i64 0] 110 (0, 0))
  have Kp := hid ((Blk.new (w := w) (n := w.heap.size) rfl #[.int .u32 la0, .int .u64 tr, .int .i64 leaf0, .int .i64 1] 110).old (.cells #[.int .u32 0, .int .u64 0, .int .i64 0, .int .i64 0] 110 (0, 0)))
  have Kr := hid (Blk.new (w := (w.alloc (.cells #[.int .u32 la0, .int .u64 tr, .int .i64 leaf0, .int .i64 1] 110 (0, 0)))) (n := w.heap.size + 1) (by simp only [World.size_alloc]) #[.int .u32 0, .int .u64 0, .int .i64 0, .int .i64 0] 110)
  have Hb := hid b2
  have hbz := b2.size
  have Hbs := hid (show w.heap.size + 1 + 1 = ((w.alloc (.cells #[.int .u32 la0, .int .u64 tr, .int .i64 leaf0, .int .i64 1] 110 (0, 0))).alloc (.cells #[.int .u32 0, .int .u64 0, .int .i64 0, .int .i64 0] 110 (0, 0))).heap.size by simp only [World.size_alloc])
  clear b1 b2 
  go_enter Tryz.func99, Tryz.ntmps99
  go_wp2_with fail
  refine wp_region_flow 13 (List.range 13) [] [] (by kernel_rfl) (by kernel_rfl) ?_
  apply Exists.intro
  refine ⟨fun w0 hb0 hF0 => ?_, ?_⟩
  · skip
    have y0 : ∀ w', (∃ x : Ext w0, w' = x.at_) → w'.cell? ⟨w.heap.size, 1, none⟩ = some (.int .u64 tr) := fun w' ⟨x, hx⟩ => by rw [hx, ((Kp.out.below hb0).below x.same).cell]; rfl
    have y1 : ∀ w', (∃ x : Ext w0, w' = x.at_) → w'.cell? ⟨w.heap.size, 3, none⟩ = some (.int .i64 1) := fun w' ⟨x, hx⟩ => by rw [hx, ((Kp.out.below hb0).below x.same).cell]; rfl
    have hw : wrap64 (tr % 2) = tr % 2 := by unfold wrap64; omega
    simp only [pick, List.range, List.range.loop, List.getElem?_toArray, List.getElem?_cons_succ, List.getElem?_cons_zero, Option.toList_some, List.cons_append, List.nil_append]
    repeat (first | (go_big_quiet_want; refine quiet_load_one 68 _ rfl ⟨w.heap.size, 1, none⟩ rfl _ y0 _ Tryz.underlying68 rfl ?_; go_big_quiet_on; simp only [Act.put, List.setIfInBounds_toArray, List.set_cons_zero, List.set_cons_succ]) | (go_big_quiet_want; refine quiet_load_one 3 _ rfl ⟨w.heap.size, 3, none⟩ rfl _ y1 _ Tryz.underlying3 rfl ?_; go_big_quiet_on; simp only [Act.put, List.setIfInBounds_toArray, List.set_cons_zero, List.set_cons_succ]) | go_big_quiet_step (fail))
    exact wpQuiet_nil rfl
  refine AlChk.nil ?_
  refine Walk.fin fun w1 hw1 _ _ => ?_
  simp only [List.drop_succ_cons, List.drop_zero]
  have HBw1 := hid (Below.on Hb.out hw1)
  have hsw1 := HBw1.out.size
  have Kpw1 := hid (Kp.out.below hw1)
  have Krw1 := hid (Kr.out.below hw1)
  clear hw1
  have Kpw2 : Hid (Blk ((((w1.setCell ⟨w.heap.size + 1, 0, none⟩ (.int .u32 la)).setCell ⟨w.heap.size + 1, 1, none⟩ (.int .u64 (tr / 2))).setCell ⟨w.heap.size + 1, 2, none⟩ (.int .i64 (tr % 2))).setCell ⟨w.heap.size + 1, 3, none⟩ (.int .i64 1)) (w.heap.size) #[.int .u32 la0, .int .u64 tr, .int .i64 leaf0, .int .i64 1] 110) := hid (Blk.setAll_other (b := w.heap.size + 1) (by have := Kpw1.out.lt; omega) [.int .u32 la, .int .u64 (tr / 2), .int .i64 (tr % 2), .int .i64 1] 0 _ Kpw1.out)
  have q0w2 := (Krw1.out.cell 0).trans (show _ = some _ from rfl)
  have r0w2 := Krw1.out.free 0
  have q1w2 := (Krw1.out.cell 1).trans (show _ = some _ from rfl)
  have r1w2 := Krw1.out.free 1
  have q2w2 := (Krw1.out.cell 2).trans (show _ = some _ from rfl)
  have r2w2 := Krw1.out.free 2
  have q3w2 := (Krw1.out.cell 3).trans (show _ = some _ from rfl)
  have r3w2 := Krw1.out.free 3
  have Krw2 : Hid (Blk ((((w1.setCell ⟨w.heap.size + 1, 0, none⟩ (.int .u32 la)).setCell ⟨w.heap.size + 1, 1, none⟩ (.int .u64 (tr / 2))).setCell ⟨w.heap.size + 1, 2, none⟩ (.int .i64 (tr % 2))).setCell ⟨w.heap.size + 1, 3, none⟩ (.int .i64 1)) (w.heap.size + 1) #[.int .u32 la, .int .u64 (tr / 2), .int .i64 (tr % 2), .int .i64 1] 110) := hid (Blk.setAll_self Krw1.out [.int .u32 la, .int .u64 (tr / 2), .int .i64 (tr % 2), .int .i64 1] rfl)
  have HBw2 : Hid (Below w.heap.size w ((((w1.setCell ⟨w.heap.size + 1, 0, none⟩ (.int .u32 la)).setCell ⟨w.heap.size + 1, 1, none⟩ (.int .u64 (tr / 2))).setCell ⟨w.heap.size + 1, 2, none⟩ (.int .i64 (tr % 2))).setCell ⟨w.heap.size + 1, 3, none⟩ (.int .i64 1))) := hid (Below.setAll (by omega) [.int .u32 la, .int .u64 (tr / 2), .int .i64 (tr % 2), .int .i64 1] 0 _ HBw1.out)
  have hsw2 := HBw2.out.size
  go_wp2_with fail
  exact bodyPost_ret (v := .agg #[.int .u32 la, .int .u64 (tr / 2), .int .i64 (tr % 2), .int .i64 1]) (results_blk Tryz.results99 _ (w.heap.size + 1) rfl _ 110 Krw2.out _ Tryz.underlying110 rfl 4 size_place rfl) rfl ⟨rfl, HBw2.out⟩
set_option maxHeartbeats 4000000 in
theorem within_2 (la0 tr leaf0 la : Int) (w : World) (h0 : 0 ≤ tr) (h1 : tr < 18446744073709551616) :
    Calls Tryz.prog 99 #[.agg #[.int .u32 la0, .int .u64 tr, .int .i64 leaf0, .int .i64 2], .int .u32 la] w fun e w' => e = .returned (.agg #[.int .u32 la, .int .u64 (tr / 4), .int .i64 (tr % 4), .int .i64 2]) ∧ Below w.heap.size w w' := by
  have b1 := (Below.refl w.heap.size w).alloc (Nat.le_refl _) (.cells #[.int .u32 la0, .int .u64 tr, .int .i64 leaf0, .int .i64 2] 110 (0, 0))
  have b2 := b1.alloc b1.size (.cells #[.int .u32 0, .int .u64 0, .int .i64 0, .int .i64 0] 110 (0, 0))
  have Kp := hid ((Blk.new (w := w) (n := w.heap.size) rfl #[.int .u32 la0, .int .u64 tr, .int .i64 leaf0, .int .i64 2] 110).old (.cells #[.int .u32 0, .int .u64 0, .int .i64 0, .int .i64 0] 110 (0, 0)))
  have Kr := hid (Blk.new (w := (w.alloc (.cells #[.int .u32 la0, .int .u64 tr, .int .i64 leaf0, .int .i64 2] 110 (0, 0)))) (n := w.heap.size + 1) (by simp only [World.size_alloc]) #[.int .u32 0, .int .u64 0, .int .i64 0, .int .i64 0] 110)
  have Hb := hid b2
  have hbz := b2.size
  have Hbs := hid (show w.heap.size + 1 + 1 = ((w.alloc (.cells #[.int .u32 la0, .int .u64 tr, .int .i64 leaf0, .int .i64 2] 110 (0, 0))).alloc (.cells #[.int .u32 0, .int .u64 0, .int .i64 0, .int .i64 0] 110 (0, 0))).heap.size by simp only [World.size_alloc])
  clear b1 b2 
  go_enter Tryz.func99, Tryz.ntmps99
  go_wp2_with fail
  refine wp_region_flow 13 (List.range 13) [] [] (by kernel_rfl) (by kernel_rfl) ?_
  apply Exists.intro
  refine ⟨fun w0 hb0 hF0 => ?_, ?_⟩
  · skip
    have y0 : ∀ w', (∃ x : Ext w0, w' = x.at_) → w'.cell? ⟨w.heap.size, 1, none⟩ = some (.int .u64 tr) := fun w' ⟨x, hx⟩ => by rw [hx, ((Kp.out.below hb0).below x.same).cell]; rfl
    have y1 : ∀ w', (∃ x : Ext w0, w' = x.at_) → w'.cell? ⟨w.heap.size, 3, none⟩ = some (.int .i64 2) := fun w' ⟨x, hx⟩ => by rw [hx, ((Kp.out.below hb0).below x.same).cell]; rfl
    have hw : wrap64 (tr % 4) = tr % 4 := by unfold wrap64; omega
    simp only [pick, List.range, List.range.loop, List.getElem?_toArray, List.getElem?_cons_succ, List.getElem?_cons_zero, Option.toList_some, List.cons_append, List.nil_append]
    repeat (first | (go_big_quiet_want; refine quiet_load_one 68 _ rfl ⟨w.heap.size, 1, none⟩ rfl _ y0 _ Tryz.underlying68 rfl ?_; go_big_quiet_on; simp only [Act.put, List.setIfInBounds_toArray, List.set_cons_zero, List.set_cons_succ]) | (go_big_quiet_want; refine quiet_load_one 3 _ rfl ⟨w.heap.size, 3, none⟩ rfl _ y1 _ Tryz.underlying3 rfl ?_; go_big_quiet_on; simp only [Act.put, List.setIfInBounds_toArray, List.set_cons_zero, List.set_cons_succ]) | go_big_quiet_step (fail))
    exact wpQuiet_nil rfl
  refine AlChk.nil ?_
  refine Walk.fin fun w1 hw1 _ _ => ?_
  simp only [List.drop_succ_cons, List.drop_zero]
  have HBw1 := hid (Below.on Hb.out hw1)
  have hsw1 := HBw1.out.size
  have Kpw1 := hid (Kp.out.below hw1)
  have Krw1 := hid (Kr.out.below hw1)
  clear hw1
  have Kpw2 : Hid (Blk ((((w1.setCell ⟨w.heap.size + 1, 0, none⟩ (.int .u32 la)).setCell ⟨w.heap.size + 1, 1, none⟩ (.int .u64 (tr / 4))).setCell ⟨w.heap.size + 1, 2, none⟩ (.int .i64 (tr % 4))).setCell ⟨w.heap.size + 1, 3, none⟩ (.int .i64 2)) (w.heap.size) #[.int .u32 la0, .int .u64 tr, .int .i64 leaf0, .int .i64 2] 110) := hid (Blk.setAll_other (b := w.heap.size + 1) (by have := Kpw1.out.lt; omega) [.int .u32 la, .int .u64 (tr / 4), .int .i64 (tr % 4), .int .i64 2] 0 _ Kpw1.out)
  have q0w2 := (Krw1.out.cell 0).trans (show _ = some _ from rfl)
  have r0w2 := Krw1.out.free 0
  have q1w2 := (Krw1.out.cell 1).trans (show _ = some _ from rfl)
  have r1w2 := Krw1.out.free 1
  have q2w2 := (Krw1.out.cell 2).trans (show _ = some _ from rfl)
  have r2w2 := Krw1.out.free 2
  have q3w2 := (Krw1.out.cell 3).trans (show _ = some _ from rfl)
  have r3w2 := Krw1.out.free 3
  have Krw2 : Hid (Blk ((((w1.setCell ⟨w.heap.size + 1, 0, none⟩ (.int .u32 la)).setCell ⟨w.heap.size + 1, 1, none⟩ (.int .u64 (tr / 4))).setCell ⟨w.heap.size + 1, 2, none⟩ (.int .i64 (tr % 4))).setCell ⟨w.heap.size + 1, 3, none⟩ (.int .i64 2)) (w.heap.size + 1) #[.int .u32 la, .int .u64 (tr / 4), .int .i64 (tr % 4), .int .i64 2] 110) := hid (Blk.setAll_self Krw1.out [.int .u32 la, .int .u64 (tr / 4), .int .i64 (tr % 4), .int .i64 2] rfl)
  have HBw2 : Hid (Below w.heap.size w ((((w1.setCell ⟨w.heap.size + 1, 0, none⟩ (.int .u32 la)).setCell ⟨w.heap.size + 1, 1, none⟩ (.int .u64 (tr / 4))).setCell ⟨w.heap.size + 1, 2, none⟩ (.int .i64 (tr % 4))).setCell ⟨w.heap.size + 1, 3, none⟩ (.int .i64 2))) := hid (Below.setAll (by omega) [.int .u32 la, .int .u64 (tr / 4), .int .i64 (tr % 4), .int .i64 2] 0 _ HBw1.out)
  have hsw2 := HBw2.out.size
  go_wp2_with fail
  exact bodyPost_ret (v := .agg #[.int .u32 la, .int .u64 (tr / 4), .int .i64 (tr % 4), .int .i64 2]) (results_blk Tryz.results99 _ (w.heap.size + 1) rfl _ 110 Krw2.out _ Tryz.underlying110 rfl 4 size_place rfl) rfl ⟨rfl, HBw2.out⟩
set_option maxHeartbeats 4000000 in
theorem within_3 (la0 tr leaf0 la : Int) (w : World) (h0 : 0 ≤ tr) (h1 : tr < 18446744073709551616) :
    Calls Tryz.prog 99 #[.agg #[.int .u32 la0, .int .u64 tr, .int .i64 leaf0, .int .i64 3], .int .u32 la] w fun e w' => e = .returned (.agg #[.int .u32 la, .int .u64 (tr / 8), .int .i64 (tr % 8), .int .i64 3]) ∧ Below w.heap.size w w' := by
  have b1 := (Below.refl w.heap.size w).alloc (Nat.le_refl _) (.cells #[.int .u32 la0, .int .u64 tr, .int .i64 leaf0, .int .i64 3] 110 (0, 0))
  have b2 := b1.alloc b1.size (.cells #[.int .u32 0, .int .u64 0, .int .i64 0, .int .i64 0] 110 (0, 0))
  have Kp := hid ((Blk.new (w := w) (n := w.heap.size) rfl #[.int .u32 la0, .int .u64 tr, .int .i64 leaf0, .int .i64 3] 110).old (.cells #[.int .u32 0, .int .u64 0, .int .i64 0, .int .i64 0] 110 (0, 0)))
  have Kr := hid (Blk.new (w := (w.alloc (.cells #[.int .u32 la0, .int .u64 tr, .int .i64 leaf0, .int .i64 3] 110 (0, 0)))) (n := w.heap.size + 1) (by simp only [World.size_alloc]) #[.int .u32 0, .int .u64 0, .int .i64 0, .int .i64 0] 110)
  have Hb := hid b2
  have hbz := b2.size
  have Hbs := hid (show w.heap.size + 1 + 1 = ((w.alloc (.cells #[.int .u32 la0, .int .u64 tr, .int .i64 leaf0, .int .i64 3] 110 (0, 0))).alloc (.cells #[.int .u32 0, .int .u64 0, .int .i64 0, .int .i64 0] 110 (0, 0))).heap.size by simp only [World.size_alloc])
  clear b1 b2 
  go_enter Tryz.func99, Tryz.ntmps99
  go_wp2_with fail
  refine wp_region_flow 13 (List.range 13) [] [] (by kernel_rfl) (by kernel_rfl) ?_
  apply Exists.intro
  refine ⟨fun w0 hb0 hF0 => ?_, ?_⟩
  · skip
    have y0 : ∀ w', (∃ x : Ext w0, w' = x.at_) → w'.cell? ⟨w.heap.size, 1, none⟩ = some (.int .u64 tr) := fun w' ⟨x, hx⟩ => by rw [hx, ((Kp.out.below hb0).below x.same).cell]; rfl
    have y1 : ∀ w', (∃ x : Ext w0, w' = x.at_) → w'.cell? ⟨w.heap.size, 3, none⟩ = some (.int .i64 3) := fun w' ⟨x, hx⟩ => by rw [hx, ((Kp.out.below hb0).below x.same).cell]; rfl
    have hw : wrap64 (tr % 8) = tr % 8 := by unfold wrap64; omega
    simp only [pick, List.range, List.range.loop, List.getElem?_toArray, List.getElem?_cons_succ, List.getElem?_cons_zero, Option.toList_some, List.cons_append, List.nil_append]
    repeat (first | (go_big_quiet_want; refine quiet_load_one 68 _ rfl ⟨w.heap.size, 1, none⟩ rfl _ y0 _ Tryz.underlying68 rfl ?_; go_big_quiet_on; simp only [Act.put, List.setIfInBounds_toArray, List.set_cons_zero, List.set_cons_succ]) | (go_big_quiet_want; refine quiet_load_one 3 _ rfl ⟨w.heap.size, 3, none⟩ rfl _ y1 _ Tryz.underlying3 rfl ?_; go_big_quiet_on; simp only [Act.put, List.setIfInBounds_toArray, List.set_cons_zero, List.set_cons_succ]) | go_big_quiet_step (fail))
    exact wpQuiet_nil rfl
  refine AlChk.nil ?_
  refine Walk.fin fun w1 hw1 _ _ => ?_
  simp only [List.drop_succ_cons, List.drop_zero]
  have HBw1 := hid (Below.on Hb.out hw1)
  have hsw1 := HBw1.out.size
  have Kpw1 := hid (Kp.out.below hw1)
  have Krw1 := hid (Kr.out.below hw1)
  clear hw1
  have Kpw2 : Hid (Blk ((((w1.setCell ⟨w.heap.size + 1, 0, none⟩ (.int .u32 la)).setCell ⟨w.heap.size + 1, 1, none⟩ (.int .u64 (tr / 8))).setCell ⟨w.heap.size + 1, 2, none⟩ (.int .i64 (tr % 8))).setCell ⟨w.heap.size + 1, 3, none⟩ (.int .i64 3)) (w.heap.size) #[.int .u32 la0, .int .u64 tr, .int .i64 leaf0, .int .i64 3] 110) := hid (Blk.setAll_other (b := w.heap.size + 1) (by have := Kpw1.out.lt; omega) [.int .u32 la, .int .u64 (tr / 8), .int .i64 (tr % 8), .int .i64 3] 0 _ Kpw1.out)
  have q0w2 := (Krw1.out.cell 0).trans (show _ = some _ from rfl)
  have r0w2 := Krw1.out.free 0
  have q1w2 := (Krw1.out.cell 1).trans (show _ = some _ from rfl)
  have r1w2 := Krw1.out.free 1
  have q2w2 := (Krw1.out.cell 2).trans (show _ = some _ from rfl)
  have r2w2 := Krw1.out.free 2
  have q3w2 := (Krw1.out.cell 3).trans (show _ = some _ from rfl)
  have r3w2 := Krw1.out.free 3
  have Krw2 : Hid (Blk ((((w1.setCell ⟨w.heap.size + 1, 0, none⟩ (.int .u32 la)).setCell ⟨w.heap.size + 1, 1, none⟩ (.int .u64 (tr / 8))).setCell ⟨w.heap.size + 1, 2, none⟩ (.int .i64 (tr % 8))).setCell ⟨w.heap.size + 1, 3, none⟩ (.int .i64 3)) (w.heap.size + 1) #[.int .u32 la, .int .u64 (tr / 8), .int .i64 (tr % 8), .int .i64 3] 110) := hid (Blk.setAll_self Krw1.out [.int .u32 la, .int .u64 (tr / 8), .int .i64 (tr % 8), .int .i64 3] rfl)
  have HBw2 : Hid (Below w.heap.size w ((((w1.setCell ⟨w.heap.size + 1, 0, none⟩ (.int .u32 la)).setCell ⟨w.heap.size + 1, 1, none⟩ (.int .u64 (tr / 8))).setCell ⟨w.heap.size + 1, 2, none⟩ (.int .i64 (tr % 8))).setCell ⟨w.heap.size + 1, 3, none⟩ (.int .i64 3))) := hid (Below.setAll (by omega) [.int .u32 la, .int .u64 (tr / 8), .int .i64 (tr % 8), .int .i64 3] 0 _ HBw1.out)
  have hsw2 := HBw2.out.size
  go_wp2_with fail
  exact bodyPost_ret (v := .agg #[.int .u32 la, .int .u64 (tr / 8), .int .i64 (tr % 8), .int .i64 3]) (results_blk Tryz.results99 _ (w.heap.size + 1) rfl _ 110 Krw2.out _ Tryz.underlying110 rfl 4 size_place rfl) rfl ⟨rfl, HBw2.out⟩
set_option maxHeartbeats 4000000 in
theorem within_4 (la0 tr leaf0 la : Int) (w : World) (h0 : 0 ≤ tr) (h1 : tr < 18446744073709551616) :
    Calls Tryz.prog 99 #[.agg #[.int .u32 la0, .int .u64 tr, .int .i64 leaf0, .int .i64 4], .int .u32 la] w fun e w' => e = .returned (.agg #[.int .u32 la, .int .u64 (tr / 16), .int .i64 (tr % 16), .int .i64 4]) ∧ Below w.heap.size w w' := by
  have b1 := (Below.refl w.heap.size w).alloc (Nat.le_refl _) (.cells #[.int .u32 la0, .int .u64 tr, .int .i64 leaf0, .int .i64 4] 110 (0, 0))
  have b2 := b1.alloc b1.size (.cells #[.int .u32 0, .int .u64 0, .int .i64 0, .int .i64 0] 110 (0, 0))
  have Kp := hid ((Blk.new (w := w) (n := w.heap.size) rfl #[.int .u32 la0, .int .u64 tr, .int .i64 leaf0, .int .i64 4] 110).old (.cells #[.int .u32 0, .int .u64 0, .int .i64 0, .int .i64 0] 110 (0, 0)))
  have Kr := hid (Blk.new (w := (w.alloc (.cells #[.int .u32 la0, .int .u64 tr, .int .i64 leaf0, .int .i64 4] 110 (0, 0)))) (n := w.heap.size + 1) (by simp only [World.size_alloc]) #[.int .u32 0, .int .u64 0, .int .i64 0, .int .i64 0] 110)
  have Hb := hid b2
  have hbz := b2.size
  have Hbs := hid (show w.heap.size + 1 + 1 = ((w.alloc (.cells #[.int .u32 la0, .int .u64 tr, .int .i64 leaf0, .int .i64 4] 110 (0, 0))).alloc (.cells #[.int .u32 0, .int .u64 0, .int .i64 0, .int .i64 0] 110 (0, 0))).heap.size by simp only [World.size_alloc])
  clear b1 b2 
  go_enter Tryz.func99, Tryz.ntmps99
  go_wp2_with fail
  refine wp_region_flow 13 (List.range 13) [] [] (by kernel_rfl) (by kernel_rfl) ?_
  apply Exists.intro
  refine ⟨fun w0 hb0 hF0 => ?_, ?_⟩
  · skip
    have y0 : ∀ w', (∃ x : Ext w0, w' = x.at_) → w'.cell? ⟨w.heap.size, 1, none⟩ = some (.int .u64 tr) := fun w' ⟨x, hx⟩ => by rw [hx, ((Kp.out.below hb0).below x.same).cell]; rfl
    have y1 : ∀ w', (∃ x : Ext w0, w' = x.at_) → w'.cell? ⟨w.heap.size, 3, none⟩ = some (.int .i64 4) := fun w' ⟨x, hx⟩ => by rw [hx, ((Kp.out.below hb0).below x.same).cell]; rfl
    have hw : wrap64 (tr % 16) = tr % 16 := by unfold wrap64; omega
    simp only [pick, List.range, List.range.loop, List.getElem?_toArray, List.getElem?_cons_succ, List.getElem?_cons_zero, Option.toList_some, List.cons_append, List.nil_append]
    repeat (first | (go_big_quiet_want; refine quiet_load_one 68 _ rfl ⟨w.heap.size, 1, none⟩ rfl _ y0 _ Tryz.underlying68 rfl ?_; go_big_quiet_on; simp only [Act.put, List.setIfInBounds_toArray, List.set_cons_zero, List.set_cons_succ]) | (go_big_quiet_want; refine quiet_load_one 3 _ rfl ⟨w.heap.size, 3, none⟩ rfl _ y1 _ Tryz.underlying3 rfl ?_; go_big_quiet_on; simp only [Act.put, List.setIfInBounds_toArray, List.set_cons_zero, List.set_cons_succ]) | go_big_quiet_step (fail))
    exact wpQuiet_nil rfl
  refine AlChk.nil ?_
  refine Walk.fin fun w1 hw1 _ _ => ?_
  simp only [List.drop_succ_cons, List.drop_zero]
  have HBw1 := hid (Below.on Hb.out hw1)
  have hsw1 := HBw1.out.size
  have Kpw1 := hid (Kp.out.below hw1)
  have Krw1 := hid (Kr.out.below hw1)
  clear hw1
  have Kpw2 : Hid (Blk ((((w1.setCell ⟨w.heap.size + 1, 0, none⟩ (.int .u32 la)).setCell ⟨w.heap.size + 1, 1, none⟩ (.int .u64 (tr / 16))).setCell ⟨w.heap.size + 1, 2, none⟩ (.int .i64 (tr % 16))).setCell ⟨w.heap.size + 1, 3, none⟩ (.int .i64 4)) (w.heap.size) #[.int .u32 la0, .int .u64 tr, .int .i64 leaf0, .int .i64 4] 110) := hid (Blk.setAll_other (b := w.heap.size + 1) (by have := Kpw1.out.lt; omega) [.int .u32 la, .int .u64 (tr / 16), .int .i64 (tr % 16), .int .i64 4] 0 _ Kpw1.out)
  have q0w2 := (Krw1.out.cell 0).trans (show _ = some _ from rfl)
  have r0w2 := Krw1.out.free 0
  have q1w2 := (Krw1.out.cell 1).trans (show _ = some _ from rfl)
  have r1w2 := Krw1.out.free 1
  have q2w2 := (Krw1.out.cell 2).trans (show _ = some _ from rfl)
  have r2w2 := Krw1.out.free 2
  have q3w2 := (Krw1.out.cell 3).trans (show _ = some _ from rfl)
  have r3w2 := Krw1.out.free 3
  have Krw2 : Hid (Blk ((((w1.setCell ⟨w.heap.size + 1, 0, none⟩ (.int .u32 la)).setCell ⟨w.heap.size + 1, 1, none⟩ (.int .u64 (tr / 16))).setCell ⟨w.heap.size + 1, 2, none⟩ (.int .i64 (tr % 16))).setCell ⟨w.heap.size + 1, 3, none⟩ (.int .i64 4)) (w.heap.size + 1) #[.int .u32 la, .int .u64 (tr / 16), .int .i64 (tr % 16), .int .i64 4] 110) := hid (Blk.setAll_self Krw1.out [.int .u32 la, .int .u64 (tr / 16), .int .i64 (tr % 16), .int .i64 4] rfl)
  have HBw2 : Hid (Below w.heap.size w ((((w1.setCell ⟨w.heap.size + 1, 0, none⟩ (.int .u32 la)).setCell ⟨w.heap.size + 1, 1, none⟩ (.int .u64 (tr / 16))).setCell ⟨w.heap.size + 1, 2, none⟩ (.int .i64 (tr % 16))).setCell ⟨w.heap.size + 1, 3, none⟩ (.int .i64 4))) := hid (Below.setAll (by omega) [.int .u32 la, .int .u64 (tr / 16), .int .i64 (tr % 16), .int .i64 4] 0 _ HBw1.out)
  have hsw2 := HBw2.out.size
  go_wp2_with fail
  exact bodyPost_ret (v := .agg #[.int .u32 la, .int .u64 (tr / 16), .int .i64 (tr % 16), .int .i64 4]) (results_blk Tryz.results99 _ (w.heap.size + 1) rfl _ 110 Krw2.out _ Tryz.underlying110 rfl 4 size_place rfl) rfl ⟨rfl, HBw2.out⟩
theorem within_any (la0 tr leaf0 la : Int) (n : Nat) (w : World) (hn : 1 ≤ n ∧ n ≤ 4) (h0 : 0 ≤ tr) (h1 : tr < 18446744073709551616) :
    Calls Tryz.prog 99 #[.agg #[.int .u32 la0, .int .u64 tr, .int .i64 leaf0, .int .i64 n], .int .u32 la] w fun e w' => e = .returned (.agg #[.int .u32 la, .int .u64 (tr / ((2 ^ n : Nat) : Int)), .int .i64 (tr % ((2 ^ n : Nat) : Int)), .int .i64 n]) ∧ Below w.heap.size w w' := by
  rcases (show n = 1 ∨ n = 2 ∨ n = 3 ∨ n = 4 by omega) with rfl | rfl | rfl | rfl
  · exact within_1 la0 tr leaf0 la w h0 h1
  · exact within_2 la0 tr leaf0 la w h0 h1
  · exact within_3 la0 tr leaf0 la w h0 h1
  · exact within_4 la0 tr leaf0 la w h0 h1
set_option maxHeartbeats 4000000 in
theorem lowest_any (L i : Int) (n : Nat) (w : World) (hn : 1 ≤ n ∧ n ≤ 4) (h0 : 0 ≤ i) (h1 : i < 9223372036854775808) :
    Calls Tryz.prog 71 #[.agg (shC L n), .int .i64 i] w fun e w' => e = .returned (.agg #[.int .u32 0, .int .u64 (i / ((2 ^ n : Nat) : Int)), .int .i64 (i % ((2 ^ n : Nat) : Int)), .int .i64 n]) ∧ Below w.heap.size w w' := by
  have CW := hid (fun W : World => within_any 0 i 0 0 n W hn h0 (by omega))
  generalize ((2 ^ n : Nat) : Int) = p at *
  have b1 := (Below.refl w.heap.size w).alloc (Nat.le_refl _) (.cells (shC L n) 23 (0, 0))
  have b2 := b1.alloc b1.size (.cells #[.int .u32 0, .int .u64 0, .int .i64 0, .int .i64 0] 110 (0, 0))
  have Ksh := hid ((Blk.new (w := w) (n := w.heap.size) rfl (shC L n) 23).old (.cells #[.int .u32 0, .int .u64 0, .int .i64 0, .int .i64 0] 110 (0, 0)))
  have Kr := hid (Blk.new (w := (w.alloc (.cells (shC L n) 23 (0, 0)))) (n := w.heap.size + 1) (by simp only [World.size_alloc]) #[.int .u32 0, .int .u64 0, .int .i64 0, .int .i64 0] 110)
  have Hb := hid b2
  have hbz := b2.size
  have Hbs := hid (show w.heap.size + 1 + 1 = ((w.alloc (.cells (shC L n) 23 (0, 0))).alloc (.cells #[.int .u32 0, .int .u64 0, .int .i64 0, .int .i64 0] 110 (0, 0))).heap.size by simp only [World.size_alloc])
  clear b1 b2 
  go_enter Tryz.func71, Tryz.ntmps71
  have d1 : ((w.alloc (.cells (shC L n) 23 (0, 0))).alloc (.cells #[.int .u32 0, .int .u64 0, .int .i64 0, .int .i64 0] 110 (0, 0))).cell? ⟨w.heap.size, 1, none⟩ = some (.int .i64 n) := by rw [Ksh.out.cell]; rfl
  go_wp2_with fail
  refine (CW.out _).mono ?_
  rintro e w1 ⟨rfl, bw1⟩
  have HBw1 := hid (Below.on Hb.out bw1)
  have hsw1 := HBw1.out.size
  have Kshw1 := hid (Ksh.out.below bw1)
  have Krw1 := hid (Kr.out.below bw1)
  clear bw1
  have Kshw2 : Hid (Blk ((((w1.setCell ⟨w.heap.size + 1, 0, none⟩ (.int .u32 0)).setCell ⟨w.heap.size + 1, 1, none⟩ (.int .u64 (i / p))).setCell ⟨w.heap.size + 1, 2, none⟩ (.int .i64 (i % p))).setCell ⟨w.heap.size + 1, 3, none⟩ (.int .i64 n)) (w.heap.size) (shC L n) 23) := hid (Blk.setAll_other (b := w.heap.size + 1) (by have := Kshw1.out.lt; omega) [.int .u32 0, .int .u64 (i / p), .int .i64 (i % p), .int .i64 n] 0 _ Kshw1.out)
  have q0w2 := (Krw1.out.cell 0).trans (show _ = some _ from rfl)
  have r0w2 := Krw1.out.free 0
  have q1w2 := (Krw1.out.cell 1).trans (show _ = some _ from rfl)
  have r1w2 := Krw1.out.free 1
  have q2w2 := (Krw1.out.cell 2).trans (show _ = some _ from rfl)
  have r2w2 := Krw1.out.free 2
  have q3w2 := (Krw1.out.cell 3).trans (show _ = some _ from rfl)
  have r3w2 := Krw1.out.free 3
  have Krw2 : Hid (Blk ((((w1.setCell ⟨w.heap.size + 1, 0, none⟩ (.int .u32 0)).setCell ⟨w.heap.size + 1, 1, none⟩ (.int .u64 (i / p))).setCell ⟨w.heap.size + 1, 2, none⟩ (.int .i64 (i % p))).setCell ⟨w.heap.size + 1, 3, none⟩ (.int .i64 n)) (w.heap.size + 1) #[.int .u32 0, .int .u64 (i / p), .int .i64 (i % p), .int .i64 n] 110) := hid (Blk.setAll_self Krw1.out [.int .u32 0, .int .u64 (i / p), .int .i64 (i % p), .int .i64 n] rfl)
  have HBw2 : Hid (Below w.heap.size w ((((w1.setCell ⟨w.heap.size + 1, 0, none⟩ (.int .u32 0)).setCell ⟨w.heap.size + 1, 1, none⟩ (.int .u64 (i / p))).setCell ⟨w.heap.size + 1, 2, none⟩ (.int .i64 (i % p))).setCell ⟨w.heap.size + 1, 3, none⟩ (.int .i64 n))) := hid (Below.setAll (by omega) [.int .u32 0, .int .u64 (i / p), .int .i64 (i % p), .int .i64 n] 0 _ HBw1.out)
  have hsw2 := HBw2.out.size
  go_wp2_with fail
  exact bodyPost_ret (v := .agg #[.int .u32 0, .int .u64 (i / p), .int .i64 (i % p), .int .i64 n]) (results_blk Tryz.results71 _ (w.heap.size + 1) rfl _ 110 Krw2.out _ Tryz.underlying110 rfl 4 size_place rfl) rfl ⟨rfl, HBw2.out⟩
set_option maxHeartbeats 4000000 in
theorem above_pl (la tr leaf : Int) (n : Nat) (w : World) (hn : 1 ≤ n ∧ n ≤ 4) (hla : 0 ≤ la ∧ la < 100) (h0 : 0 ≤ tr) (h1 : tr < 18446744073709551616) :
    Calls Tryz.prog 73 #[.agg #[.int .u32 la, .int .u64 tr, .int .i64 leaf, .int .i64 n]] w fun e w' => e = .returned (.agg #[.int .u32 (la + 1), .int .u64 (tr / ((2 ^ n : Nat) : Int)), .int .i64 (tr % ((2 ^ n : Nat) : Int)), .int .i64 n]) ∧ Below w.heap.size w w' := by
  have CW := hid (fun W : World => within_any la tr leaf (la + 1) n W hn h0 h1)
  generalize ((2 ^ n : Nat) : Int) = p at *
  have b1 := (Below.refl w.heap.size w).alloc (Nat.le_refl _) (.cells #[.int .u32 la, .int .u64 tr, .int .i64 leaf, .int .i64 n] 110 (0, 0))
  have b2 := b1.alloc b1.size (.cells #[.int .u32 0, .int .u64 0, .int .i64 0, .int .i64 0] 110 (0, 0))
  have Kp := hid ((Blk.new (w := w) (n := w.heap.size) rfl #[.int .u32 la, .int .u64 tr, .int .i64 leaf, .int .i64 n] 110).old (.cells #[.int .u32 0, .int .u64 0, .int .i64 0, .int .i64 0] 110 (0, 0)))
  have Kr := hid (Blk.new (w := (w.alloc (.cells #[.int .u32 la, .int .u64 tr, .int .i64 leaf, .int .i64 n] 110 (0, 0)))) (n := w.heap.size + 1) (by simp only [World.size_alloc]) #[.int .u32 0, .int .u64 0, .int .i64 0, .int .i64 0] 110)
  have Hb := hid b2
  have hbz := b2.size
  have Hbs := hid (show w.heap.size + 1 + 1 = ((w.alloc (.cells #[.int .u32 la, .int .u64 tr, .int .i64 leaf, .int .i64 n] 110 (0, 0))).alloc (.cells #[.int .u32 0, .int .u64 0, .int .i64 0, .int .i64 0] 110 (0, 0))).heap.size by simp only [World.size_alloc])
  clear b1 b2 
  go_enter Tryz.func73, Tryz.ntmps73
  have d0 : ((w.alloc (.cells #[.int .u32 la, .int .u64 tr, .int .i64 leaf, .int .i64 n] 110 (0, 0))).alloc (.cells #[.int .u32 0, .int .u64 0, .int .i64 0, .int .i64 0] 110 (0, 0))).cell? ⟨w.heap.size, 0, none⟩ = some (.int .u32 la) := by rw [Kp.out.cell]; rfl
  go_wp2_with (refine wpList_load_blk rfl 110 _ rfl (w.heap.size) rfl _ 110 Kp.out _ Tryz.underlying110 rfl 4 size_place rfl ?_)
  refine (CW.out _).mono ?_
  rintro e w1 ⟨rfl, bw1⟩
  have HBw1 := hid (Below.on Hb.out bw1)
  have hsw1 := HBw1.out.size
  have Kpw1 := hid (Kp.out.below bw1)
  have Krw1 := hid (Kr.out.below bw1)
  clear bw1
  have Kpw2 : Hid (Blk ((((w1.setCell ⟨w.heap.size + 1, 0, none⟩ (.int .u32 (la + 1))).setCell ⟨w.heap.size + 1, 1, none⟩ (.int .u64 (tr / p))).setCell ⟨w.heap.size + 1, 2, none⟩ (.int .i64 (tr % p))).setCell ⟨w.heap.size + 1, 3, none⟩ (.int .i64 n)) (w.heap.size) #[.int .u32 la, .int .u64 tr, .int .i64 leaf, .int .i64 n] 110) := hid (Blk.setAll_other (b := w.heap.size + 1) (by have := Kpw1.out.lt; omega) [.int .u32 (la + 1), .int .u64 (tr / p), .int .i64 (tr % p), .int .i64 n] 0 _ Kpw1.out)
  have q0w2 := (Krw1.out.cell 0).trans (show _ = some _ from rfl)
  have r0w2 := Krw1.out.free 0
  have q1w2 := (Krw1.out.cell 1).trans (show _ = some _ from rfl)
  have r1w2 := Krw1.out.free 1
  have q2w2 := (Krw1.out.cell 2).trans (show _ = some _ from rfl)
  have r2w2 := Krw1.out.free 2
  have q3w2 := (Krw1.out.cell 3).trans (show _ = some _ from rfl)
  have r3w2 := Krw1.out.free 3
  have Krw2 : Hid (Blk ((((w1.setCell ⟨w.heap.size + 1, 0, none⟩ (.int .u32 (la + 1))).setCell ⟨w.heap.size + 1, 1, none⟩ (.int .u64 (tr / p))).setCell ⟨w.heap.size + 1, 2, none⟩ (.int .i64 (tr % p))).setCell ⟨w.heap.size + 1, 3, none⟩ (.int .i64 n)) (w.heap.size + 1) #[.int .u32 (la + 1), .int .u64 (tr / p), .int .i64 (tr % p), .int .i64 n] 110) := hid (Blk.setAll_self Krw1.out [.int .u32 (la + 1), .int .u64 (tr / p), .int .i64 (tr % p), .int .i64 n] rfl)
  have HBw2 : Hid (Below w.heap.size w ((((w1.setCell ⟨w.heap.size + 1, 0, none⟩ (.int .u32 (la + 1))).setCell ⟨w.heap.size + 1, 1, none⟩ (.int .u64 (tr / p))).setCell ⟨w.heap.size + 1, 2, none⟩ (.int .i64 (tr % p))).setCell ⟨w.heap.size + 1, 3, none⟩ (.int .i64 n))) := hid (Below.setAll (by omega) [.int .u32 (la + 1), .int .u64 (tr / p), .int .i64 (tr % p), .int .i64 n] 0 _ HBw1.out)
  have hsw2 := HBw2.out.size
  go_wp2_with fail
  exact bodyPost_ret (v := .agg #[.int .u32 (la + 1), .int .u64 (tr / p), .int .i64 (tr % p), .int .i64 n]) (results_blk Tryz.results73 _ (w.heap.size + 1) rfl _ 110 Krw2.out _ Tryz.underlying110 rfl 4 size_place rfl) rfl ⟨rfl, HBw2.out⟩
set_option maxHeartbeats 4000000 in
theorem ots_pl (la tr leaf n : Int) (w : World) (htr : 0 ≤ tr ∧ tr < 18446744073709551616) (hi : 0 ≤ leaf ∧ leaf < 4294967296) :
    Calls Tryz.prog 101 #[.agg #[.int .u32 la, .int .u64 tr, .int .i64 leaf, .int .i64 n]] w fun e w' => e = .returned (.agg ((otsZ la tr leaf).map (Value.int .u32)).toArray) ∧ Below w.heap.size w w' := by
  have b1 := (Below.refl w.heap.size w).alloc (Nat.le_refl _) (.cells #[.int .u32 la, .int .u64 tr, .int .i64 leaf, .int .i64 n] 110 (0, 0))
  have b2 := b1.alloc b1.size (.cells (zA.map (Value.int .u32)).toArray 66 (0, 0))
  have Kp := hid ((Blk.new (w := w) (n := w.heap.size) rfl #[.int .u32 la, .int .u64 tr, .int .i64 leaf, .int .i64 n] 110).old (.cells (zA.map (Value.int .u32)).toArray 66 (0, 0)))
  have Kr := hid (Blk.new (w := (w.alloc (.cells #[.int .u32 la, .int .u64 tr, .int .i64 leaf, .int .i64 n] 110 (0, 0)))) (n := w.heap.size + 1) (by simp only [World.size_alloc]) (zA.map (Value.int .u32)).toArray 66)
  have Hb := hid b2
  have hbz := b2.size
  have Hbs := hid (show w.heap.size + 1 + 1 = ((w.alloc (.cells #[.int .u32 la, .int .u64 tr, .int .i64 leaf, .int .i64 n] 110 (0, 0))).alloc (.cells (zA.map (Value.int .u32)).toArray 66 (0, 0))).heap.size by simp only [World.size_alloc])
  clear b1 b2 
  go_enter Tryz.func101, Tryz.ntmps101
  have d0 : ((w.alloc (.cells #[.int .u32 la, .int .u64 tr, .int .i64 leaf, .int .i64 n] 110 (0, 0))).alloc (.cells (zA.map (Value.int .u32)).toArray 66 (0, 0))).cell? ⟨w.heap.size, 0, none⟩ = some (.int .u32 la) := by rw [Kp.out.cell]; rfl
  have d1 : ((w.alloc (.cells #[.int .u32 la, .int .u64 tr, .int .i64 leaf, .int .i64 n] 110 (0, 0))).alloc (.cells (zA.map (Value.int .u32)).toArray 66 (0, 0))).cell? ⟨w.heap.size, 1, none⟩ = some (.int .u64 tr) := by rw [Kp.out.cell]; rfl
  have d2 : ((w.alloc (.cells #[.int .u32 la, .int .u64 tr, .int .i64 leaf, .int .i64 n] 110 (0, 0))).alloc (.cells (zA.map (Value.int .u32)).toArray 66 (0, 0))).cell? ⟨w.heap.size, 2, none⟩ = some (.int .i64 leaf) := by rw [Kp.out.cell]; rfl
  go_wp2_with fail
  refine (ots_list la tr leaf _ htr.1 htr.2).mono ?_
  rintro e w1 ⟨rfl, bw1⟩
  have HBw1 := hid (Below.on Hb.out bw1)
  have hsw1 := HBw1.out.size
  have Kpw1 := hid (Kp.out.below bw1)
  have Krw1 := hid (Kr.out.below bw1)
  clear bw1
  go_wp2_with (
      refine wpList_store_blk rfl 66 _ _ rfl (w.heap.size + 1) ((otsZ la tr leaf).map (Value.int .u32)).toArray rfl rfl _ 66 Krw1.out 8 sizeAdrs rfl rfl (ints_one _ _) ?_
      intro w9 hb9 hk9
      have HB9 := hid (hb9.below HBw1.out HBw1.out.size (by omega))
      have HK9 := hid hk9
      clear hb9 hk9)
  exact bodyPost_ret (v := .agg ((otsZ la tr leaf).map (Value.int .u32)).toArray) (results_blk Tryz.results101 _ (w.heap.size + 1) rfl _ 66 HK9.out _ Tryz.underlying66 rfl 8 sizeAdrs rfl) rfl ⟨rfl, HB9.out⟩
theorem Dg.root {pub : List Int} {V : Nat} {la tr leaf : Int} {o a : List (List Int)} {m : List Int} (ho : ∀ d ∈ o, Dg d) : Dg (rootZ pub V la tr leaf o a m) := by
  unfold rootZ
  exact Dg.climb (compZ_dg _ _ 67 0 _ (rowW_each (Dg.fromP ho _ _ _)) (by rw [rowW_length]; omega) (by rw [rowW_length]; omega)) _
set_option maxHeartbeats 4000000 in
theorem root_good (la tr leaf : Int) (n : Nat) (o a : List (List Int)) (oa : Option Addr) (oc : Nat) (aa : Option Addr) (ac : Nat) (m pub : List Int) (w : World) (hO : DigsAt w oa 67 oc o) (hA : DigsAt w aa n ac a) (hm : Dg m) (hpub : Dg pub) (hla : 0 ≤ la ∧ la < 4294967296) (htr : 0 ≤ tr ∧ tr < 18446744073709551616) (hr : rightZ n leaf = true) (tab : ShaTab w) :
    Calls Tryz.prog 72 #[.agg #[.int .u32 la, .int .u64 tr, .int .i64 leaf, .int .i64 n], .agg #[.slice oa 67 oc, .slice aa n ac], .agg (m.map (Value.int .u8)).toArray, .agg (pub.map (Value.int .u8)).toArray] w fun e w' => e = .returned (.tuple #[.agg ((rootZ pub n la tr leaf o a m).map (Value.int .u8)).toArray, .bool true]) ∧ Below w.heap.size w w' := by
  have hr2 := hr
  simp only [rightZ, decide_eq_true_eq] at hr2
  have hle : 0 ≤ leaf ∧ leaf < 4294967296 := by
    rcases (show n = 1 ∨ n = 2 ∨ n = 3 ∨ n = 4 by omega) with rfl | rfl | rfl | rfl <;> simp at hr2 <;> omega
  clear hr2
  have HO := hid hO
  have HAu := hid hA
  have HA := hid (Aw.ots hla htr hle)
  have HT := hid (Aw.ltr hla htr hle)
  have HR := hid (Dg.root (pub := pub) (V := n) (la := la) (tr := tr) (leaf := leaf) (a := a) (m := m) hO.each)
  have HLF := hid (compZ_dg pub (ltrZ la tr leaf) 67 0 _ (rowW_each (Dg.fromP hO.each m pub (otsZ la tr leaf))) (by rw [rowW_length]; omega) (by rw [rowW_length]; omega))
  have CC := hid (fun (pa : Option Addr) (pc : Nat) (W : World) (h : DigsAt W pa 67 pc (rowW (fromP o m pub (otsZ la tr leaf)))) (t : ShaTab W) => compress_good pa 67 pc (rowW (fromP o m pub (otsZ la tr leaf))) pub (ltrZ la tr leaf) W h (by omega) hpub HT.out t)
  have CL := hid (fun (W : World) (h : DigsAt W aa n ac a) (t : ShaTab W) => climb_good (compZ pub (ltrZ la tr leaf) 67 0 (rowW (fromP o m pub (otsZ la tr leaf)))) pub aa n ac a leaf la tr W HLF.out hpub h hla htr hr t)
  rw [show climbZ pub (treeZ la tr) leaf a (compZ pub (ltrZ la tr leaf) 67 0 (rowW (fromP o m pub (otsZ la tr leaf)))) n = rootZ pub n la tr leaf o a m by unfold rootZ; rfl] at CL
  generalize rootZ pub n la tr leaf o a m = R at *
  generalize compZ pub (ltrZ la tr leaf) 67 0 (rowW (fromP o m pub (otsZ la tr leaf))) = lf at *
  clear hO hA
  have b1 := (Below.refl w.heap.size w).alloc (Nat.le_refl _) (.cells #[.int .u32 la, .int .u64 tr, .int .i64 leaf, .int .i64 n] 110 (0, 0))
  have b2 := b1.alloc b1.size (.cells #[.slice oa 67 oc, .slice aa n ac] 58 (0, 0))
  have b3 := b2.alloc b2.size (.cells (m.map (Value.int .u8)).toArray 25 (0, 0))
  have b4 := b3.alloc b3.size (.cells (pub.map (Value.int .u8)).toArray 25 (0, 0))
  have b5 := b4.alloc b4.size (.cells (byteCells 32 []) 25 (0, 0))
  have Kp := hid (((((Blk.new (w := w) (n := w.heap.size) rfl #[.int .u32 la, .int .u64 tr, .int .i64 leaf, .int .i64 n] 110).old (.cells #[.slice oa 67 oc, .slice aa n ac] 58 (0, 0))).old (.cells (m.map (Value.int .u8)).toArray 25 (0, 0))).old (.cells (pub.map (Value.int .u8)).toArray 25 (0, 0))).old (.cells (byteCells 32 []) 25 (0, 0)))
  have Kx := hid ((((Blk.new (w := (w.alloc (.cells #[.int .u32 la, .int .u64 tr, .int .i64 leaf, .int .i64 n] 110 (0, 0)))) (n := w.heap.size + 1) (by simp only [World.size_alloc]) #[.slice oa 67 oc, .slice aa n ac] 58).old (.cells (m.map (Value.int .u8)).toArray 25 (0, 0))).old (.cells (pub.map (Value.int .u8)).toArray 25 (0, 0))).old (.cells (byteCells 32 []) 25 (0, 0)))
  have Km := hid (((Blk.new (w := ((w.alloc (.cells #[.int .u32 la, .int .u64 tr, .int .i64 leaf, .int .i64 n] 110 (0, 0))).alloc (.cells #[.slice oa 67 oc, .slice aa n ac] 58 (0, 0)))) (n := w.heap.size + 1 + 1) (by simp only [World.size_alloc]) (m.map (Value.int .u8)).toArray 25).old (.cells (pub.map (Value.int .u8)).toArray 25 (0, 0))).old (.cells (byteCells 32 []) 25 (0, 0)))
  have Ku := hid ((Blk.new (w := (((w.alloc (.cells #[.int .u32 la, .int .u64 tr, .int .i64 leaf, .int .i64 n] 110 (0, 0))).alloc (.cells #[.slice oa 67 oc, .slice aa n ac] 58 (0, 0))).alloc (.cells (m.map (Value.int .u8)).toArray 25 (0, 0)))) (n := w.heap.size + 1 + 1 + 1) (by simp only [World.size_alloc]) (pub.map (Value.int .u8)).toArray 25).old (.cells (byteCells 32 []) 25 (0, 0)))
  have Kr := hid (Blk.new (w := ((((w.alloc (.cells #[.int .u32 la, .int .u64 tr, .int .i64 leaf, .int .i64 n] 110 (0, 0))).alloc (.cells #[.slice oa 67 oc, .slice aa n ac] 58 (0, 0))).alloc (.cells (m.map (Value.int .u8)).toArray 25 (0, 0))).alloc (.cells (pub.map (Value.int .u8)).toArray 25 (0, 0)))) (n := w.heap.size + 1 + 1 + 1 + 1) (by simp only [World.size_alloc]) (byteCells 32 []) 25)
  have Hb := hid b5
  have hbz := b5.size
  have Hbs := hid (show w.heap.size + 1 + 1 + 1 + 1 + 1 = (((((w.alloc (.cells #[.int .u32 la, .int .u64 tr, .int .i64 leaf, .int .i64 n] 110 (0, 0))).alloc (.cells #[.slice oa 67 oc, .slice aa n ac] 58 (0, 0))).alloc (.cells (m.map (Value.int .u8)).toArray 25 (0, 0))).alloc (.cells (pub.map (Value.int .u8)).toArray 25 (0, 0))).alloc (.cells (byteCells 32 []) 25 (0, 0))).heap.size by simp only [World.size_alloc])
  have Htab := hid tab
  clear b1 b2 b3 b4 b5 tab 
  go_enter Tryz.func72, Tryz.ntmps72
  go_wp2_with fail
  refine wp_region_late 10 9 10 [0, 1, 2, 3, 4, 5] [] [(.c 6, [7, 8, 9], [])] (by kernel_rfl) (by kernel_rfl) rfl (by kernel_rfl) (fun _ _ d _ _ h => by cases d <;> exact h) ?_
  simp only [late]
  apply Exists.intro
  refine ⟨fun w0 hb0 hF0 => ?_, ?_⟩
  · skip
    have x0 : ∀ w', (∃ x : Ext w0, w' = x.at_) → ∃ T, Blk w' (w.heap.size + 1 + 1) (m.map (Value.int .u8)).toArray T := fun w' ⟨x, hx⟩ => ⟨_, hx ▸ (Km.out.below hb0).below x.same⟩
    have x1 : ∀ w', (∃ x : Ext w0, w' = x.at_) → ∃ T, Blk w' (w.heap.size + 1 + 1 + 1) (pub.map (Value.int .u8)).toArray T := fun w' ⟨x, hx⟩ => ⟨_, hx ▸ (Ku.out.below hb0).below x.same⟩
    have x2 : ∀ w', (∃ x : Ext w0, w' = x.at_) → ∃ T, Blk w' (w.heap.size) #[.int .u32 la, .int .u64 tr, .int .i64 leaf, .int .i64 n] T := fun w' ⟨x, hx⟩ => ⟨_, hx ▸ (Kp.out.below hb0).below x.same⟩
    have y0 : ∀ w', (∃ x : Ext w0, w' = x.at_) → w'.cell? ⟨w.heap.size + 1, 0, none⟩ = some (.slice oa 67 oc) := fun w' ⟨x, hx⟩ => by rw [hx, ((Kx.out.below hb0).below x.same).cell]; rfl
    have c0 := fun e : Ext w0 => ots_pl la tr leaf n e.at_ htr hle
    simp only [pick, List.getElem?_toArray, List.getElem?_cons_succ, List.getElem?_cons_zero, Option.toList_some, List.cons_append, List.nil_append]
    repeat (first | (go_big_quiet_want; refine quiet_load_blk 25 _ rfl (w.heap.size + 1 + 1) rfl _ x0 _ Tryz.underlying25 rfl 32 size_digest hm.size ?_; go_big_quiet_on; simp only [Act.put, List.setIfInBounds_toArray, List.set_cons_zero, List.set_cons_succ]) | (go_big_quiet_want; refine quiet_load_blk 25 _ rfl (w.heap.size + 1 + 1 + 1) rfl _ x1 _ Tryz.underlying25 rfl 32 size_digest hpub.size ?_; go_big_quiet_on; simp only [Act.put, List.setIfInBounds_toArray, List.set_cons_zero, List.set_cons_succ]) | (go_big_quiet_want; refine quiet_load_blk 110 _ rfl (w.heap.size) rfl _ x2 _ Tryz.underlying110 rfl 4 size_place rfl ?_; go_big_quiet_on; simp only [Act.put, List.setIfInBounds_toArray, List.set_cons_zero, List.set_cons_succ]) | (go_big_quiet_want; refine quiet_load_one 33 _ rfl ⟨w.heap.size + 1, 0, none⟩ rfl _ y0 _ Tryz.underlying33 rfl ?_; go_big_quiet_on; simp only [Act.put, List.setIfInBounds_toArray, List.set_cons_zero, List.set_cons_succ]) | go_big_quiet_step (first | (go_at_call 101; with_reducible exact Calls.ext (c0 _))))
    exact wpQuiet_nil rfl
  refine AlChk.nil ?_
  refine Walk.call rfl 100 #[.slice oa 67 oc, .agg (m.map (Value.int .u8)).toArray, .agg (pub.map (Value.int .u8)).toArray, .agg ((otsZ la tr leaf).map (Value.int .u32)).toArray] (TupV 67 (rowW (fromP o m pub (otsZ la tr leaf)))) (fun v w' w'' h k => h.below k) rfl (fun w1 hb1 hF1 => ⟨by go_simp, ?_⟩) ?_
  · skip
    exact from_v o oa oc m pub (otsZ la tr leaf) w1 ((HO.out.below Hb.out).below hb1) hm hpub HA.out ((Htab.out.below Hb.out).below hb1)
  rintro v0 w1 hb1 hF1 ⟨pa, pc, rfl, _⟩
  apply Exists.intro
  refine ⟨fun w0 hb0 hF0 => ?_, ?_⟩
  · skip
    simp only [pick, List.getElem?_toArray, List.getElem?_cons_succ, List.getElem?_cons_zero, Option.toList_some, List.cons_append, List.nil_append, Act.put, List.setIfInBounds_toArray, List.set_cons_zero, List.set_cons_succ]
    repeat (first | go_big_quiet_step (fail))
    exact wpQuiet_nil rfl
  refine AlChk.nil ?_
  refine Walk.fin fun w1 hw1 hFw1 _ => ?_
  simp only [List.drop_succ_cons, List.drop_zero]
  have HFw1 := hid hFw1
  have HBw1 := hid (Below.on Hb.out hw1)
  have hsw1 := HBw1.out.size
  have Kpw1 := hid (Kp.out.below hw1)
  have Kxw1 := hid (Kx.out.below hw1)
  have Kmw1 := hid (Km.out.below hw1)
  have Kuw1 := hid (Ku.out.below hw1)
  have Krw1 := hid (Kr.out.below hw1)
  clear hw1 hFw1
  have Hp := hid ((show TupV 67 (rowW (fromP o m pub (otsZ la tr leaf))) (.tuple #[.slice pa 67 pc, .int .i64 0]) w1 from HFw1.out.2).digs)
  clear HFw1
  go_wp2_with fail
  refine wp_region_late 15 13 15 [0, 1, 2, 3, 4, 5, 6, 7, 8, 9, 10, 11, 12, 13] [14] [(.b 14, [], [])] (by kernel_rfl) (by kernel_rfl) rfl (by kernel_rfl) (fun _ _ d _ _ h => by cases d <;> exact h) ?_
  simp only [late]
  apply Exists.intro
  refine ⟨fun w0 hb0 hF0 => ?_, ?_⟩
  · skip
    have x0 : ∀ w', (∃ x : Ext w0, w' = x.at_) → ∃ T, Blk w' (w.heap.size + 1 + 1 + 1) (pub.map (Value.int .u8)).toArray T := fun w' ⟨x, hx⟩ => ⟨_, hx ▸ (Kuw1.out.below hb0).below x.same⟩
    have y0 : ∀ w', (∃ x : Ext w0, w' = x.at_) → w'.cell? ⟨w.heap.size, 0, none⟩ = some (.int .u32 la) := fun w' ⟨x, hx⟩ => by rw [hx, ((Kpw1.out.below hb0).below x.same).cell]; rfl
    have y1 : ∀ w', (∃ x : Ext w0, w' = x.at_) → w'.cell? ⟨w.heap.size, 1, none⟩ = some (.int .u64 tr) := fun w' ⟨x, hx⟩ => by rw [hx, ((Kpw1.out.below hb0).below x.same).cell]; rfl
    have y2 : ∀ w', (∃ x : Ext w0, w' = x.at_) → w'.cell? ⟨w.heap.size, 2, none⟩ = some (.int .i64 leaf) := fun w' ⟨x, hx⟩ => by rw [hx, ((Kpw1.out.below hb0).below x.same).cell]; rfl
    have c0 := fun e : Ext w0 => ltr_list la tr leaf e.at_ htr.1 htr.2
    have c1 := fun e : Ext w0 => CC.out pa pc e.at_ ((Hp.out.below hb0).below e.same) ((Htab.out.below (Below.on HBw1.out hb0)).below e.same)
    simp only [pick, List.getElem?_toArray, List.getElem?_cons_succ, List.getElem?_cons_zero, Option.toList_some, List.cons_append, List.nil_append]
    repeat (first | (go_big_quiet_want; refine quiet_load_blk 25 _ rfl (w.heap.size + 1 + 1 + 1) rfl _ x0 _ Tryz.underlying25 rfl 32 size_digest hpub.size ?_; go_big_quiet_on; simp only [Act.put, List.setIfInBounds_toArray, List.set_cons_zero, List.set_cons_succ]) | (go_big_quiet_want; refine quiet_load_one 64 _ rfl ⟨w.heap.size, 0, none⟩ rfl _ y0 _ Tryz.underlying64 rfl ?_; go_big_quiet_on; simp only [Act.put, List.setIfInBounds_toArray, List.set_cons_zero, List.set_cons_succ]) | (go_big_quiet_want; refine quiet_load_one 68 _ rfl ⟨w.heap.size, 1, none⟩ rfl _ y1 _ Tryz.underlying68 rfl ?_; go_big_quiet_on; simp only [Act.put, List.setIfInBounds_toArray, List.set_cons_zero, List.set_cons_succ]) | (go_big_quiet_want; refine quiet_load_one 3 _ rfl ⟨w.heap.size, 2, none⟩ rfl _ y2 _ Tryz.underlying3 rfl ?_; go_big_quiet_on; simp only [Act.put, List.setIfInBounds_toArray, List.set_cons_zero, List.set_cons_succ]) | go_big_quiet_step (first | (go_at_call 103; with_reducible exact Calls.ext (c0 _)) | (go_at_call 102; with_reducible exact Calls.ext (c1 _))))
    exact wpQuiet_nil rfl
  refine AlChk.one rfl (fun b => .pointer (some ⟨b, 0, none⟩)) (.cells (byteCells 32 []) 25 (0, 0)) rfl (fun w3 hb3 hF3 => by go_simp; rfl) ?_
  refine AlChk.nil ?_
  refine Walk.blk rfl (fun b => .pointer (some ⟨b, 0, none⟩)) (.cells (byteCells 32 []) 25 (0, 0)) (by simp) ?_
  intro bw2 wz hbz_ hFz hgew2 _
  apply Exists.intro
  refine ⟨fun w4 hb4 hF4 => wpQuiet_nil rfl, ?_⟩
  refine AlChk.nil ?_
  refine Walk.fin fun w2 hw2 hFw2 _ => ?_
  simp only [List.drop_succ_cons, List.drop_zero]
  have kbw2 : Blk w2 bw2 (byteCells 32 []) 25 := hFw2.2
  have Kzw2 := hid kbw2
  have hgww2 : w.heap.size ≤ bw2 := Nat.le_trans HBw1.out.size hgew2
  clear hbz_ hFz hFw2 kbw2
  have hnpw2 : w.heap.size ≠ bw2 := by have := Kpw1.out.lt; omega
  have hnxw2 : w.heap.size + 1 ≠ bw2 := by have := Kxw1.out.lt; omega
  have hnmw2 : w.heap.size + 1 + 1 ≠ bw2 := by have := Kmw1.out.lt; omega
  have hnuw2 : w.heap.size + 1 + 1 + 1 ≠ bw2 := by have := Kuw1.out.lt; omega
  have hnrw2 : w.heap.size + 1 + 1 + 1 + 1 ≠ bw2 := by have := Krw1.out.lt; omega
  have HBw2 := hid (Below.on HBw1.out hw2)
  have hsw2 := HBw2.out.size
  have Kpw2 := hid (Kpw1.out.below hw2)
  have Kxw2 := hid (Kxw1.out.below hw2)
  have Kmw2 := hid (Kmw1.out.below hw2)
  have Kuw2 := hid (Kuw1.out.below hw2)
  have Krw2 := hid (Krw1.out.below hw2)
  clear hw2
  go_wp2_with (first
     | (
        refine wpList_store_blk rfl 25 _ _ rfl bw2 (lf.map (Value.int .u8)).toArray rfl rfl _ 25 Kzw2.out 32 size_digest zsize HLF.out.size (ints_one _ _) ?_
        intro w3 hbw3 hkw3
        have HBw3 := hid (hbw3.below HBw2.out HBw2.out.size hgww2)
        have hsw3 := HBw3.out.size
        have Kyw3 := hid hkw3
        have Kpw3 := hid (hbw3.blk Kpw2.out hnpw2)
        have Kxw3 := hid (hbw3.blk Kxw2.out hnxw2)
        have Kmw3 := hid (hbw3.blk Kmw2.out hnmw2)
        have Kuw3 := hid (hbw3.blk Kuw2.out hnuw2)
        have Krw3 := hid (hbw3.blk Krw2.out hnrw2)
        clear hbw3 hkw3
        have d0 : w3.cell? ⟨w.heap.size, 0, none⟩ = some (.int .u32 la) := by rw [Kpw3.out.cell]; rfl
        have d1 : w3.cell? ⟨w.heap.size, 1, none⟩ = some (.int .u64 tr) := by rw [Kpw3.out.cell]; rfl
        have d2 : w3.cell? ⟨w.heap.size, 2, none⟩ = some (.int .i64 leaf) := by rw [Kpw3.out.cell]; rfl
        have d3 : w3.cell? ⟨w.heap.size + 1, 1, none⟩ = some (.slice aa n ac) := by rw [Kxw3.out.cell]; rfl)
     | (refine wpList_load_blk rfl 25 _ rfl (bw2) rfl _ 25 Kyw3.out _ Tryz.underlying25 rfl 32 size_digest HLF.out.size ?_)
     | (refine wpList_load_blk rfl 25 _ rfl (w.heap.size + 1 + 1 + 1) rfl _ 25 Kuw3.out _ Tryz.underlying25 rfl 32 size_digest hpub.size ?_))
  refine (CL.out _ (HAu.out.below HBw3.out) (Htab.out.below HBw3.out)).mono ?_
  rintro e w4 ⟨rfl, bw4⟩
  have HBw4 := hid (Below.on HBw3.out bw4)
  have hsw4 := HBw4.out.size
  have Kpw4 := hid (Kpw3.out.below bw4)
  have Kxw4 := hid (Kxw3.out.below bw4)
  have Kmw4 := hid (Kmw3.out.below bw4)
  have Kuw4 := hid (Kuw3.out.below bw4)
  have Krw4 := hid (Krw3.out.below bw4)
  have Kyw4 := hid (Kyw3.out.below bw4)
  clear bw4
  go_wp2_with (first
     | (
        refine wpList_store_blk rfl 25 _ _ rfl (w4.heap.size) (R.map (Value.int .u8)).toArray rfl rfl _ 25 (Blk.new rfl (byteCells 32 []) _) 32 size_digest zsize HR.out.size (ints_one _ _) ?_
        intro w5 hbw5 hkw5
        have hw5 := hbw5.below ((Below.refl w4.heap.size w4).alloc (Nat.le_refl _) _) (by simp only [World.size_alloc]; omega) (Nat.le_refl _)
        have HBw5 := hid (Below.on HBw4.out hw5)
        have hsw5 := HBw5.out.size
        have Kpw5 := hid (Kpw4.out.below hw5)
        have hlpw5 := Kpw4.out.lt
        have Kxw5 := hid (Kxw4.out.below hw5)
        have hlxw5 := Kxw4.out.lt
        have Kmw5 := hid (Kmw4.out.below hw5)
        have hlmw5 := Kmw4.out.lt
        have Kuw5 := hid (Kuw4.out.below hw5)
        have hluw5 := Kuw4.out.lt
        have Krw5 := hid (Krw4.out.below hw5)
        have hlrw5 := Krw4.out.lt
        have Kyw5 := hid (Kyw4.out.below hw5)
        have hlyw5 := Kyw4.out.lt
        have Ktw5 := hid hkw5
        have hfw5 : w.heap.size ≤ w4.heap.size := HBw4.out.size
        clear hbw5 hkw5 hw5)
     | (refine wpList_load_blk rfl 25 _ rfl (w4.heap.size) rfl _ 25 Ktw5.out _ Tryz.underlying25 rfl 32 size_digest HR.out.size ?_)
     | (
      refine wpList_store_blk rfl 25 _ _ rfl (w.heap.size + 1 + 1 + 1 + 1) (R.map (Value.int .u8)).toArray rfl rfl _ 25 Krw5.out 32 size_digest zsize HR.out.size (ints_one _ _) ?_
      intro w9 hb9 hk9
      have HB9 := hid (hb9.below HBw5.out HBw5.out.size (by omega))
      have HK9 := hid hk9
      clear hb9 hk9))
  exact bodyPost_ret (v := .tuple #[.agg (R.map (Value.int .u8)).toArray, .bool true]) (results_blk_tmp Tryz.results72 _ (w.heap.size + 1 + 1 + 1 + 1) rfl _ rfl _ 25 HK9.out _ Tryz.underlying25 rfl 32 size_digest HR.out.size) rfl ⟨rfl, HB9.out⟩
end Go.Proofs.YtkakoiaahgchmaaGreatDoor
namespace Go.Proofs.YtkakoiaahgchmaaGreatDoor
set_option maxRecDepth 100000
open Go.ChangeShapes Go.WideShapes Go.ChangeAt Go.RowKit
/-- Where the way of an index is, so many layers up. -/
def atK (p i : Int) : Nat → Int
  | 0 => i
  | k + 1 => atK p i k / p
/-- What the first so many parts lead to. -/
def verK (pub : List Int) (V : Nat) (p i : Int) (ps : List Prt) (m : List Int) : Nat → List Int
  | 0 => m
  | k + 1 => rootZ pub V (k : Int) (atK p i (k + 1)) (atK p i k % p) (ps.getD k ([], [])).1 (ps.getD k ([], [])).2 (verK pub V p i ps m k)
/-- Does a signature hold? -/
def verB (L V i : Int) (root pub r : List Int) (ps : List Prt) (text : List Int) : Bool :=
  formB L V i ps && decide (verK pub V.toNat ((2 ^ V.toNat : Nat) : Int) i ps (msgZ r root i text) ps.length = root)
theorem atK_nonneg {p i : Int} (hp : 0 < p) (hi : 0 ≤ i) : ∀ k, 0 ≤ atK p i k
  | 0 => hi
  | k + 1 => Int.ediv_nonneg (atK_nonneg hp hi k) (Int.le_of_lt hp)
theorem atK_le {p i : Int} (hp : 0 < p) (hi : 0 ≤ i) : ∀ k, atK p i k ≤ i
  | 0 => Int.le_refl _
  | k + 1 => Int.le_trans (Int.ediv_le_self _ (atK_nonneg hp hi k)) (atK_le hp hi k)
theorem Dg.ver {pub : List Int} {V : Nat} {p i : Int} {ps : List Prt} {m : List Int} (hm : Dg m) (hps : ∀ k, k < ps.length → ∀ d ∈ (ps.getD k ([], [])).1, Dg d) : ∀ k, k ≤ ps.length → Dg (verK pub V p i ps m k)
  | 0, _ => hm
  | k + 1, h => Dg.root (hps k h)
theorem PartsAt.dg {w : World} {a : Option Addr} {len cap : Nat} {ps : List Prt} (h : PartsAt w a len cap ps) : ∀ k, k < ps.length → ∀ d ∈ (ps.getD k ([], [])).1, Dg d := fun k hk => by
  obtain ⟨x, o, oa, oc, aa, ac, _, hpc⟩ := h.part (k := k) (by rw [← h.length]; exact hk)
  exact hpc.ots.each
theorem formB_spec {L V i : Int} {ps : List Prt} (h : formB L V i ps = true) : rightS L V = true ∧ 0 ≤ i ∧ i < manyS L V ∧ (ps.length : Int) = L ∧ ∀ j, j < ps.length → (ps.getD j ([], [])).1.length = 67 ∧ ((ps.getD j ([], [])).2.length : Int) = V := by
  simp only [formB, Bool.and_eq_true, decide_eq_true_eq] at h
  exact ⟨h.1.1.1.1, h.1.1.1.2, h.1.1.2, h.1.2, h.2⟩
theorem manyS_le {L V : Int} (h : rightS L V = true) : manyS L V ≤ 65536 := by
  have h2 := h
  simp only [rightS, decide_eq_true_eq] at h2
  obtain ⟨n, hn⟩ : ∃ n : Nat, L * V = (n : Int) := ⟨(L * V).toNat, by have := Int.mul_nonneg (show 0 ≤ L by omega) (show 0 ≤ V by omega); omega⟩
  have hm16 : n ≤ 16 := by
    have h1 : L * V ≤ 4 * 4 := Int.mul_le_mul (by omega) (by omega) (by omega) (by omega)
    omega
  have hmz : manyS L V = ((2 ^ n : Nat) : Int) := by rw [manyS, if_pos h, hn]; rfl
  have : 2 ^ n ≤ 2 ^ 16 := Nat.pow_le_pow_right (by omega) hm16
  rw [hmz]
  omega
theorem leaf_right {n : Nat} {x : Int} (hn : 1 ≤ n ∧ n ≤ 4) : rightZ n (x % ((2 ^ n : Nat) : Int)) = true := by
  simp only [rightZ, decide_eq_true_eq]
  rcases (show n = 1 ∨ n = 2 ∨ n = 3 ∨ n = 4 by omega) with rfl | rfl | rfl | rfl <;> simp <;> omega
set_option maxHeartbeats 4000000 in
theorem verify_false (L V i : Int) (root pub r : List Int) (a : Option Addr) (pn c : Nat) (ps : List Prt) (v : Value) (w : World) (hrt : rightS L V = true) (hf : formB L V i ps = false) (hr : Dg r) (hP : PartsAt w a pn c ps) :
    Calls Tryz.prog 31 #[.agg (pubC L V root pub).toArray, .agg (sigC i r (.slice a pn c)).toArray, v] w fun e w' => e = .returned (.bool false) ∧ Below w.heap.size w w' := by
  have CF := hid (fun (W : World) (h : PartsAt W a pn c ps) => by have := formed_right L V i r a pn c ps W hrt hr h; rw [hf] at this; exact this)
  have b1 := (Below.refl w.heap.size w).alloc (Nat.le_refl _) (.cells (pubC L V root pub).toArray 27 (0, 0))
  have b2 := b1.alloc b1.size (.cells (sigC i r (.slice a pn c)).toArray 32 (0, 0))
  have Kp := hid ((Blk.new (w := w) (n := w.heap.size) rfl (pubC L V root pub).toArray 27).old (.cells (sigC i r (.slice a pn c)).toArray 32 (0, 0)))
  have Kg := hid (Blk.new (w := (w.alloc (.cells (pubC L V root pub).toArray 27 (0, 0)))) (n := w.heap.size + 1) (by simp only [World.size_alloc]) (sigC i r (.slice a pn c)).toArray 32)
  have Hb := hid b2
  have hbz := b2.size
  have Hbs := hid (show w.heap.size + 1 + 1 = ((w.alloc (.cells (pubC L V root pub).toArray 27 (0, 0))).alloc (.cells (sigC i r (.slice a pn c)).toArray 32 (0, 0))).heap.size by simp only [World.size_alloc])
  clear b1 b2 
  go_enter Tryz.func31, Tryz.ntmps31
  go_wp2_with (first
     | (refine wpList_load_mid rfl 23 _ rfl (w.heap.size) 0 rfl _ _ (pubC_shape Kp.out) Tryz.underlying23 rfl (by exact size_shape) ?_)
     | (refine wpList_load_blk rfl 32 _ rfl (w.heap.size + 1) rfl _ 32 Kg.out _ Tryz.underlying32 rfl 34 size_sig (sigC_size hr) ?_))
  have hb := hf
  refine (CF.out _ (hP.below Hb.out)).mono ?_
  rintro e w1 ⟨rfl, bw1⟩
  have HBw1 := hid (Below.on Hb.out bw1)
  have hsw1 := HBw1.out.size
  have Kpw1 := hid (Kp.out.below bw1)
  have Kgw1 := hid (Kg.out.below bw1)
  clear bw1
  go_wp2_with fail
  go_returns
  exact ⟨rfl, HBw1.out⟩
set_option maxHeartbeats 4000000 in
theorem verify_good (L i : Int) (n : Nat) (root pub r : List Int) (a : Option Addr) (pn c : Nat) (ps : List Prt) (ta : Option Addr) (tn tc : Nat) (ts : List (List Int)) (w : World) (hf : formB L n i ps = true) (hr : Dg r) (hroot : Dg root) (hpub : Dg pub) (hP : PartsAt w a pn c ps) (hT : TextsAt w ta tn tc ts) (htn : tn ≤ 4000000000000) (hsl : sumLen ts < 1000000000000000000) (tab : ShaTab w) :
    Calls Tryz.prog 31 #[.agg (pubC L n root pub).toArray, .agg (sigC i r (.slice a pn c)).toArray, .slice ta tn tc] w fun e w' => e = .returned (.bool (decide (verK pub n ((2 ^ n : Nat) : Int) i ps (msgZ r root i ts.flatten) ps.length = root))) ∧ Below w.heap.size w w' := by
  obtain ⟨hrt, h0, h1, h2, hall⟩ := formB_spec hf
  have hrt2 := hrt
  simp only [rightS, decide_eq_true_eq] at hrt2
  have hn : 1 ≤ n ∧ n ≤ 4 := by omega
  have hmy := manyS_le hrt
  have hlen := hP.length
  have hdg := hP.dg
  have CF := hid (fun (W : World) (h : PartsAt W a pn c ps) => by have := formed_right L n i r a pn c ps W hrt hr h; rw [hf] at this; exact this)
  have CM := hid (fun (W : World) (h : TextsAt W ta tn tc ts) (t : ShaTab W) => Message_any r root i ta tn tc ts W hr hroot h0 (by omega) h htn hsl t)
  have HM := hid (Dg.msg r root i ts.flatten)
  have CLo := hid (fun W : World => lowest_any L i n W hn h0 (by omega))
  have CAb := hid (fun (la tr leaf : Int) (W : World) (hla : 0 ≤ la ∧ la < 100) (q0 : 0 ≤ tr) (q1 : tr < 18446744073709551616) => above_pl la tr leaf n W hn hla q0 q1)
  have Hlf := hid (fun x : Int => leaf_right (x := x) hn)
  have hp0 : (0 : Int) < ((2 ^ n : Nat) : Int) := by have := Nat.pow_pos (n := n) (show 0 < 2 by omega); omega
  generalize msgZ r root i ts.flatten = M at *
  generalize ((2 ^ n : Nat) : Int) = p at *
  have h1 : i < 65536 := by omega
  clear hf hmy
  have b1 := (Below.refl w.heap.size w).alloc (Nat.le_refl _) (.cells (pubC L n root pub).toArray 27 (0, 0))
  have b2 := b1.alloc b1.size (.cells (sigC i r (.slice a pn c)).toArray 32 (0, 0))
  have Kp := hid ((Blk.new (w := w) (n := w.heap.size) rfl (pubC L n root pub).toArray 27).old (.cells (sigC i r (.slice a pn c)).toArray 32 (0, 0)))
  have Kg := hid (Blk.new (w := (w.alloc (.cells (pubC L n root pub).toArray 27 (0, 0)))) (n := w.heap.size + 1) (by simp only [World.size_alloc]) (sigC i r (.slice a pn c)).toArray 32)
  have Hb := hid b2
  have hbz := b2.size
  have Hbs := hid (show w.heap.size + 1 + 1 = ((w.alloc (.cells (pubC L n root pub).toArray 27 (0, 0))).alloc (.cells (sigC i r (.slice a pn c)).toArray 32 (0, 0))).heap.size by simp only [World.size_alloc])
  have Htab := hid tab
  clear b1 b2 tab 
  go_enter Tryz.func31, Tryz.ntmps31
  go_wp2_with (first
     | (refine wpList_load_mid rfl 23 _ rfl (w.heap.size) 0 rfl _ _ (pubC_shape Kp.out) Tryz.underlying23 rfl (by exact size_shape) ?_)
     | (refine wpList_load_blk rfl 32 _ rfl (w.heap.size + 1) rfl _ 32 Kg.out _ Tryz.underlying32 rfl 34 size_sig (sigC_size hr) ?_))
  refine (CF.out _ (hP.below Hb.out)).mono ?_
  rintro e w1 ⟨rfl, bw1⟩
  have HBw1 := hid (Below.on Hb.out bw1)
  have hsw1 := HBw1.out.size
  have Kpw1 := hid (Kp.out.below bw1)
  have Kgw1 := hid (Kg.out.below bw1)
  clear bw1
  have gi := sigC_index Kgw1.out
  go_wp2_with (first
     | (refine wpList_load_mid rfl 25 _ rfl (w.heap.size + 1) 1 rfl _ _ (sigC_r Kgw1.out) Tryz.underlying25 rfl (by rw [List.length_map, hr.len]; exact size_digest) ?_)
     | (refine wpList_load_mid rfl 25 _ rfl (w.heap.size) 2 rfl _ _ (pubC_root Kpw1.out) Tryz.underlying25 rfl (by rw [List.length_map, hroot.len]; exact size_digest) ?_))
  refine (CM.out _ (hT.below HBw1.out) (Htab.out.below HBw1.out)).mono ?_
  rintro e w2 ⟨rfl, bw2⟩
  have HBw2 := hid (Below.on HBw1.out bw2)
  have hsw2 := HBw2.out.size
  have Kpw2 := hid (Kpw1.out.below bw2)
  have Kgw2 := hid (Kgw1.out.below bw2)
  clear bw2
  go_wp2_with (first
     | (
        refine wpList_store_blk rfl 25 _ _ rfl (w2.heap.size) (M.map (Value.int .u8)).toArray rfl rfl _ 25 (Blk.new rfl (byteCells 32 []) _) 32 size_digest zsize HM.out.size (ints_one _ _) ?_
        intro w3 hbw3 hkw3
        have hw3 := hbw3.below ((Below.refl w2.heap.size w2).alloc (Nat.le_refl _) _) (by simp only [World.size_alloc]; omega) (Nat.le_refl _)
        have HBw3 := hid (Below.on HBw2.out hw3)
        have hsw3 := HBw3.out.size
        have Kpw3 := hid (Kpw2.out.below hw3)
        have hlpw3 := Kpw2.out.lt
        have Kgw3 := hid (Kgw2.out.below hw3)
        have hlgw3 := Kgw2.out.lt
        have Kmw3 := hid hkw3
        have hfw3 : w.heap.size ≤ w2.heap.size := HBw2.out.size
        clear hbw3 hkw3 hw3
        have gi2 := sigC_index Kgw3.out)
     | (refine wpList_load_mid rfl 23 _ rfl (w.heap.size) 0 rfl _ _ (pubC_shape Kpw3.out) Tryz.underlying23 rfl (by exact size_shape) ?_))
  refine (CLo.out _).mono ?_
  rintro e w4 ⟨rfl, bw4⟩
  have HBw4 := hid (Below.on HBw3.out bw4)
  have hsw4 := HBw4.out.size
  have Kpw4 := hid (Kpw3.out.below bw4)
  have Kgw4 := hid (Kgw3.out.below bw4)
  have Kmw4 := hid (Kmw3.out.below bw4)
  clear bw4
  have Kpw5 := hid (Kpw4.out.old (.cells #[.int .u32 0, .int .u64 (i / p), .int .i64 (i % p), .int .i64 n] 110 (0, 0)))
  have hlpw5 := Kpw4.out.lt
  have Kgw5 := hid (Kgw4.out.old (.cells #[.int .u32 0, .int .u64 (i / p), .int .i64 (i % p), .int .i64 n] 110 (0, 0)))
  have hlgw5 := Kgw4.out.lt
  have Kmw5 := hid (Kmw4.out.old (.cells #[.int .u32 0, .int .u64 (i / p), .int .i64 (i % p), .int .i64 n] 110 (0, 0)))
  have hlmw5 := Kmw4.out.lt
  have Ktw5 := hid (Blk.new (w := w4) rfl #[.int .u32 0, .int .u64 (i / p), .int .i64 (i % p), .int .i64 n] 110)
  have HBw5 := hid (HBw4.out.alloc HBw4.out.size (.cells #[.int .u32 0, .int .u64 (i / p), .int .i64 (i % p), .int .i64 n] 110 (0, 0)))
  have hsw5 := HBw5.out.size
  have hfw5 : w.heap.size ≤ w4.heap.size := HBw4.out.size
  have gp := sigC_parts hr Kgw5.out
  go_wp2_with fail
  have hm7 : w.heap.size + 1 < w2.heap.size := by have := Kmw5.out.lt; omega
  have hm8 : w2.heap.size < w4.heap.size := by omega
  have Hmb := hid Kmw5.out
  have Htb := hid Ktw5.out
  have Hbe := hid HBw5.out
  have Hpb := hid Kpw5.out
  have Hgb := hid Kgw5.out
  generalize w2.heap.size = bm at *
  generalize w4.heap.size = bt at *
  clear hbz
  go_loopw [35] (fun iv wr => ∃ k : Nat, k ≤ pn ∧ iv = .int .i64 k ∧ Blk wr (w.heap.size) (pubC L n root pub).toArray 27 ∧ Blk wr (w.heap.size + 1) (sigC i r (.slice a pn c)).toArray 32 ∧ Blk wr bm ((verK pub n p i ps M k).map (Value.int .u8)).toArray 25 ∧ Blk wr bt #[.int .u32 k, .int .u64 (atK p i (k + 1)), .int .i64 (atK p i k % p), .int .i64 n] 110 ∧ Below w.heap.size w wr) (fun iv _ => pn - (intOf iv).toNat)
  case atStart => exact ⟨0, Nat.zero_le _, rfl, Hpb.out, Hgb.out, Hmb.out, Htb.out, Hbe.out⟩
  case round =>
    obtain ⟨k, hk, rfl, kp, kg, km, kt, bel⟩ := hrel
    have Kpwr := hid kp
    have Kgwr := hid kg
    have Kmwr := hid km
    have Ktwr := hid kt
    have HBwr := hid bel
    have hswr := bel.size
    have hbmlt := km.lt
    have hbtlt := kt.lt
    clear kp kg km kt bel
    have HX := hid (Dg.ver (pub := pub) (V := n) (p := p) (i := i) HM.out hdg k (by omega))
    by_cases hlt : k < pn
    · have hc0 : (k : Int) < pn := by omega
      obtain ⟨x, o, oa, oc, aa, ac, rfl, hpc⟩ := hP.part hlt
      have hkl : k < ps.length := by omega
      obtain ⟨hq1, hq2⟩ := hall k hkl
      have hq2 : (ps.getD k ([], [])).2.length = n := by omega
      have HPC := hid hpc
      clear hpc
      have Hnx := hid (show verK pub n p i ps M (k + 1) = rootZ pub n (k : Int) (atK p i (k + 1)) (atK p i k % p) (ps.getD k ([], [])).1 (ps.getD k ([], [])).2 (verK pub n p i ps M k) from rfl)
      have Hat := hid (show atK p i (k + 1 + 1) = atK p i (k + 1) / p from rfl)
      have ha1 : 0 ≤ atK p i (k + 1) ∧ atK p i (k + 1) < 18446744073709551616 := ⟨atK_nonneg hp0 h0 _, by have := atK_le hp0 h0 (k + 1); omega⟩
      have HX2 := hid (Dg.ver (pub := pub) (V := n) (p := p) (i := i) HM.out hdg (k + 1) (by omega))
      have CR := hid (fun (W : World) (hO : DigsAt W oa 67 oc (ps.getD k ([], [])).1) (hA : DigsAt W aa n ac (ps.getD k ([], [])).2) (t : ShaTab W) => root_good (k : Int) (atK p i (k + 1)) (atK p i k % p) n (ps.getD k ([], [])).1 (ps.getD k ([], [])).2 oa oc aa ac (verK pub n p i ps M k) pub W hO hA HX.out hpub (by omega) ha1 (Hlf.out (atK p i k)) t)
      have CA := hid (fun (W : World) => CAb.out (k : Int) (atK p i (k + 1)) (atK p i k % p) W (by omega) ha1.1 ha1.2)
      rw [← Hnx.out] at CR
      rw [← Hat.out] at CA
      clear Hnx Hat
      obtain ⟨q, hq⟩ : ∃ q, ps.getD k ([], []) = q := ⟨_, rfl⟩
      rw [hq] at HPC CR hq1 hq2
      clear hq
      have HO := hid HPC.out.ots
      have HAu := hid HPC.out.auth
      have Hrg := hid (HPC.out.below HBwr.out).range
      have hsz := HBwr.out
      rw [hq1] at HO Hrg
      rw [hq2] at HAu Hrg
      generalize hdl : verK pub n p i ps M (k + 1) = dl at *
      generalize hdk : verK pub n p i ps M k = dk at *
      generalize hll1 : atK p i (k + 1) % p = l2 at *
      generalize hl1 : atK p i k % p = l1 at *
      generalize ha2 : atK p i (k + 1 + 1) = a2 at *
      generalize ha1' : atK p i (k + 1) = a1 at *
      have Kpw31 := hid (Kpwr.out.old (.cells #[.slice oa 67 oc, .slice aa n ac] 58 (0, 0)))
      have hlpw31 := Kpwr.out.lt
      have Kgw31 := hid (Kgwr.out.old (.cells #[.slice oa 67 oc, .slice aa n ac] 58 (0, 0)))
      have hlgw31 := Kgwr.out.lt
      have Kmw31 := hid (Kmwr.out.old (.cells #[.slice oa 67 oc, .slice aa n ac] 58 (0, 0)))
      have hlmw31 := Kmwr.out.lt
      have Ktw31 := hid (Ktwr.out.old (.cells #[.slice oa 67 oc, .slice aa n ac] 58 (0, 0)))
      have hltw31 := Ktwr.out.lt
      have Kxw31 := hid (Blk.new (w := wr) rfl #[.slice oa 67 oc, .slice aa n ac] 58)
      have HBw31 := hid (HBwr.out.alloc HBwr.out.size (.cells #[.slice oa 67 oc, .slice aa n ac] 58 (0, 0)))
      have hsw31 := HBw31.out.size
      have hfw31 : w.heap.size ≤ wr.heap.size := HBwr.out.size
      go_wp2_with (first
         | (refine wpList_index_s 2 (by first | rfl | go_simp) 30 _ _ rfl Tryz.underlying30 size_part x (o) (pn) (c) rfl _ _ rfl k (by omega) (by omega) ?_)
         | (refine wpList_load_mid rfl 58 _ rfl x (o + k * 2) rfl _ _ Hrg.out Tryz.underlying58 rfl (by exact size_part) ?_)
         | (refine wpList_load_blk rfl 110 _ rfl (bt) rfl _ 110 Ktw31.out _ Tryz.underlying110 rfl 4 size_place rfl ?_)
         | (refine wpList_load_blk rfl 58 _ rfl (wr.heap.size) rfl _ 58 Kxw31.out _ Tryz.underlying58 rfl 2 size_part rfl ?_)
         | (refine wpList_load_blk rfl 25 _ rfl (bm) rfl _ 25 Kmw31.out _ Tryz.underlying25 rfl 32 size_digest HX.out.size ?_)
         | (refine wpList_load_mid rfl 25 _ rfl (w.heap.size) 34 rfl _ _ (pubC_pub hroot Kpw31.out) Tryz.underlying25 rfl (by rw [List.length_map, hpub.len]; exact size_digest) ?_))
      refine (CR.out _ (HO.out.below (HBw31.out)) (HAu.out.below (HBw31.out)) (Htab.out.below HBw31.out)).mono ?_
      rintro e w32 ⟨rfl, bw32⟩
      have HBw32 := hid (Below.on HBw31.out bw32)
      have hsw32 := HBw32.out.size
      have Kpw32 := hid (Kpw31.out.below bw32)
      have Kgw32 := hid (Kgw31.out.below bw32)
      have Kmw32 := hid (Kmw31.out.below bw32)
      have Ktw32 := hid (Ktw31.out.below bw32)
      have Kxw32 := hid (Kxw31.out.below bw32)
      clear bw32
      go_wp2_with (first
         | (
            refine wpList_store_blk rfl 25 _ _ rfl (w32.heap.size) (dl.map (Value.int .u8)).toArray rfl rfl _ 25 (Blk.new rfl (byteCells 32 []) _) 32 size_digest zsize HX2.out.size (ints_one _ _) ?_
            intro w33 hbw33 hkw33
            have hw33 := hbw33.below ((Below.refl w32.heap.size w32).alloc (Nat.le_refl _) _) (by simp only [World.size_alloc]; omega) (Nat.le_refl _)
            have HBw33 := hid (Below.on HBw32.out hw33)
            have hsw33 := HBw33.out.size
            have Kpw33 := hid (Kpw32.out.below hw33)
            have hlpw33 := Kpw32.out.lt
            have Kgw33 := hid (Kgw32.out.below hw33)
            have hlgw33 := Kgw32.out.lt
            have Kmw33 := hid (Kmw32.out.below hw33)
            have hlmw33 := Kmw32.out.lt
            have Ktw33 := hid (Ktw32.out.below hw33)
            have hltw33 := Ktw32.out.lt
            have Kxw33 := hid (Kxw32.out.below hw33)
            have hlxw33 := Kxw32.out.lt
            have Kyw33 := hid hkw33
            have hfw33 : w.heap.size ≤ w32.heap.size := HBw32.out.size
            clear hbw33 hkw33 hw33)
         | (refine wpList_load_blk rfl 25 _ rfl (w32.heap.size) rfl _ 25 Kyw33.out _ Tryz.underlying25 rfl 32 size_digest HX2.out.size ?_)
         | (
            refine wpList_store_blk rfl 25 _ _ rfl (bm) (dl.map (Value.int .u8)).toArray rfl rfl _ 25 Kmw33.out 32 size_digest HX.out.size HX2.out.size (ints_one _ _) ?_
            intro w34 hbw34 hkw34
            have HBw34 := hid (hbw34.below HBw33.out HBw33.out.size (by omega))
            have hsw34 := HBw34.out.size
            have Kpw34 := hid (hbw34.blk Kpw33.out (by have := Kpw33.out.lt; omega))
            have Kgw34 := hid (hbw34.blk Kgw33.out (by have := Kgw33.out.lt; omega))
            have Ktw34 := hid (hbw34.blk Ktw33.out (by have := Ktw33.out.lt; omega))
            have Kxw34 := hid (hbw34.blk Kxw33.out (by have := Kxw33.out.lt; omega))
            have Kyw34 := hid (hbw34.blk Kyw33.out (by have := Kyw33.out.lt; omega))
            have Kmw34 := hid hkw34
            clear hbw34 hkw34)
         | (refine wpList_load_blk rfl 110 _ rfl (bt) rfl _ 110 Ktw34.out _ Tryz.underlying110 rfl 4 size_place rfl ?_))
      refine (CA.out _).mono ?_
      rintro e w35 ⟨rfl, bw35⟩
      have HBw35 := hid (Below.on HBw34.out bw35)
      have hsw35 := HBw35.out.size
      have Kpw35 := hid (Kpw34.out.below bw35)
      have Kgw35 := hid (Kgw34.out.below bw35)
      have Kmw35 := hid (Kmw34.out.below bw35)
      have Ktw35 := hid (Ktw34.out.below bw35)
      have Kxw35 := hid (Kxw34.out.below bw35)
      have Kyw35 := hid (Kyw34.out.below bw35)
      clear bw35
      have Kpw36 : Hid (Blk ((((w35.setCell ⟨bt, 0, none⟩ (.int .u32 (k + 1))).setCell ⟨bt, 1, none⟩ (.int .u64 a2)).setCell ⟨bt, 2, none⟩ (.int .i64 l2)).setCell ⟨bt, 3, none⟩ (.int .i64 n)) (w.heap.size) (pubC L n root pub).toArray 27) := hid (Blk.setAll_other (b := bt) (by have := Kpw35.out.lt; omega) [.int .u32 (k + 1), .int .u64 a2, .int .i64 l2, .int .i64 n] 0 _ Kpw35.out)
      have Kgw36 : Hid (Blk ((((w35.setCell ⟨bt, 0, none⟩ (.int .u32 (k + 1))).setCell ⟨bt, 1, none⟩ (.int .u64 a2)).setCell ⟨bt, 2, none⟩ (.int .i64 l2)).setCell ⟨bt, 3, none⟩ (.int .i64 n)) (w.heap.size + 1) (sigC i r (.slice (some ⟨x, o, none⟩) pn c)).toArray 32) := hid (Blk.setAll_other (b := bt) (by have := Kgw35.out.lt; omega) [.int .u32 (k + 1), .int .u64 a2, .int .i64 l2, .int .i64 n] 0 _ Kgw35.out)
      have Kmw36 : Hid (Blk ((((w35.setCell ⟨bt, 0, none⟩ (.int .u32 (k + 1))).setCell ⟨bt, 1, none⟩ (.int .u64 a2)).setCell ⟨bt, 2, none⟩ (.int .i64 l2)).setCell ⟨bt, 3, none⟩ (.int .i64 n)) (bm) (dl.map (Value.int .u8)).toArray 25) := hid (Blk.setAll_other (b := bt) (by have := Kmw35.out.lt; omega) [.int .u32 (k + 1), .int .u64 a2, .int .i64 l2, .int .i64 n] 0 _ Kmw35.out)
      have Kxw36 : Hid (Blk ((((w35.setCell ⟨bt, 0, none⟩ (.int .u32 (k + 1))).setCell ⟨bt, 1, none⟩ (.int .u64 a2)).setCell ⟨bt, 2, none⟩ (.int .i64 l2)).setCell ⟨bt, 3, none⟩ (.int .i64 n)) (wr.heap.size) #[.slice oa 67 oc, .slice aa n ac] 58) := hid (Blk.setAll_other (b := bt) (by have := Kxw35.out.lt; omega) [.int .u32 (k + 1), .int .u64 a2, .int .i64 l2, .int .i64 n] 0 _ Kxw35.out)
      have Kyw36 : Hid (Blk ((((w35.setCell ⟨bt, 0, none⟩ (.int .u32 (k + 1))).setCell ⟨bt, 1, none⟩ (.int .u64 a2)).setCell ⟨bt, 2, none⟩ (.int .i64 l2)).setCell ⟨bt, 3, none⟩ (.int .i64 n)) (w32.heap.size) (dl.map (Value.int .u8)).toArray 25) := hid (Blk.setAll_other (b := bt) (by have := Kyw35.out.lt; omega) [.int .u32 (k + 1), .int .u64 a2, .int .i64 l2, .int .i64 n] 0 _ Kyw35.out)
      have q0w36 := (Ktw35.out.cell 0).trans (show _ = some _ from rfl)
      have r0w36 := Ktw35.out.free 0
      have q1w36 := (Ktw35.out.cell 1).trans (show _ = some _ from rfl)
      have r1w36 := Ktw35.out.free 1
      have q2w36 := (Ktw35.out.cell 2).trans (show _ = some _ from rfl)
      have r2w36 := Ktw35.out.free 2
      have q3w36 := (Ktw35.out.cell 3).trans (show _ = some _ from rfl)
      have r3w36 := Ktw35.out.free 3
      have Ktw36 : Hid (Blk ((((w35.setCell ⟨bt, 0, none⟩ (.int .u32 (k + 1))).setCell ⟨bt, 1, none⟩ (.int .u64 a2)).setCell ⟨bt, 2, none⟩ (.int .i64 l2)).setCell ⟨bt, 3, none⟩ (.int .i64 n)) (bt) #[.int .u32 (k + 1), .int .u64 a2, .int .i64 l2, .int .i64 n] 110) := hid (Blk.setAll_self Ktw35.out [.int .u32 (k + 1), .int .u64 a2, .int .i64 l2, .int .i64 n] rfl)
      have HBw36 : Hid (Below w.heap.size w ((((w35.setCell ⟨bt, 0, none⟩ (.int .u32 (k + 1))).setCell ⟨bt, 1, none⟩ (.int .u64 a2)).setCell ⟨bt, 2, none⟩ (.int .i64 l2)).setCell ⟨bt, 3, none⟩ (.int .i64 n))) := hid (Below.setAll (by omega) [.int .u32 (k + 1), .int .u64 a2, .int .i64 l2, .int .i64 n] 0 _ HBw35.out)
      have hsw36 := HBw36.out.size
      go_wp2_with fail
      exact ⟨⟨k + 1, by omega, by first | rfl | simp, Kpw36.out, Kgw36.out, by rw [hdl]; exact Kmw36.out, by rw [ha2, ha1', hll1]; exact Ktw36.out, HBw36.out⟩, by simp [intOf]; omega⟩
    · obtain rfl : k = pn := by omega
      have hc0 : ¬ ((k : Int) < k) := by omega
      have hl := hP.length
      obtain ⟨X, hX⟩ : ∃ X, verK pub n p i ps M k = X := ⟨_, rfl⟩
      rw [hX] at HX Kmwr
      have q1 := fun W => eqD X root HX.out.len hroot.len W
      go_wp2_with (first
         | (refine wpList_load_blk rfl 25 _ rfl (bm) rfl _ 25 Kmwr.out _ Tryz.underlying25 rfl 32 size_digest HX.out.size ?_)
         | (refine wpList_load_mid rfl 25 _ rfl (w.heap.size) 2 rfl _ _ (pubC_root Kpwr.out) Tryz.underlying25 rfl (by rw [List.length_map, hroot.len]; exact size_digest) ?_))
      go_returns
      exact ⟨by first | (rw [hX]; rfl) | (rw [hl, hX]; rfl) | rfl, HBwr.out⟩
end Go.Proofs.YtkakoiaahgchmaaGreatDoor
namespace Go.Proofs.YtkakoiaahgchmaaGreatDoor
set_option maxRecDepth 100000
open Go.ChangeShapes Go.WideShapes Go.ChangeAt Go.RowKit
theorem wpList_load_mid_if {P : Program} {ops : Array Oper} {rest : List Oper} {op : Oper} {a : Act} {w : World} {Q : Exit → Act → World → Prop} (hw : Region.wanted op (yielded ops a.tmps) = true) (ty : TypeId) (x : Operand) (ho : op.op = .load ty x) (b o : Nat) (hx : a.eval x = .pointer (some ⟨b, o, none⟩)) (cs : List Value) (d : TypeDesc) (hk : w.rangeAt b o cs)
    (hu : P.underlying ty = some d) (hd : d.isRow = true) (hi : (P.info? ty).map (·.size) = some cs.length)
    (h : wpList P ops Q rest (a.put op.dst (.agg cs.toArray)) w) : wpList P ops Q (op :: rest) a w := by
  unfold wpList
  rw [if_pos hw]
  exact .inl (wp_load_mid ty x ho b o hx cs d hk hu hd hi h)
end Go.Proofs.YtkakoiaahgchmaaGreatDoor
namespace Go.Proofs.YtkakoiaahgchmaaGreatDoor
set_option maxRecDepth 100000
open Go.ChangeShapes Go.WideShapes Go.ChangeAt Go.RowKit
theorem verify_b (L V i : Int) (root pub r : List Int) (a : Option Addr) (pn c : Nat) (ps : List Prt) (ta : Option Addr) (tn tc : Nat) (ts : List (List Int)) (w : World) (hr : Dg r) (hroot : Dg root) (hpub : Dg pub) (hP : PartsAt w a pn c ps) (hT : TextsAt w ta tn tc ts) (htn : tn ≤ 4000000000000) (hsl : sumLen ts < 1000000000000000000) (tab : ShaTab w) :
    Calls Tryz.prog 31 #[.agg (pubC L V root pub).toArray, .agg (sigC i r (.slice a pn c)).toArray, .slice ta tn tc] w fun e w' => e = .returned (.bool (verB L V i root pub r ps ts.flatten)) ∧ Below w.heap.size w w' := by
  cases hrt : rightS L V with
  | false =>
    have h : verB L V i root pub r ps ts.flatten = false := by unfold verB; rw [formB_right hrt]; rfl
    rw [h]
    exact verify_bad L V root pub _ _ w hrt (sigC_size hr)
  | true =>
    have hr2 := hrt
    simp only [rightS, decide_eq_true_eq] at hr2
    obtain ⟨n, rfl⟩ := Int.eq_ofNat_of_zero_le (show 0 ≤ V by omega)
    cases hf : formB L n i ps with
    | false =>
      have h : verB L n i root pub r ps ts.flatten = false := by unfold verB; rw [hf]; rfl
      rw [h]
      exact verify_false L n i root pub r a pn c ps _ w hrt hf hr hP
    | true =>
      have h : verB L n i root pub r ps ts.flatten = decide (verK pub n ((2 ^ n : Nat) : Int) i ps (msgZ r root i ts.flatten) ps.length = root) := by unfold verB; rw [hf, Bool.true_and, Int.toNat_natCast]
      rw [h]
      exact verify_good L i n root pub r a pn c ps ta tn tc ts w hf hr hroot hpub hP hT htn hsl tab
end Go.Proofs.YtkakoiaahgchmaaGreatDoor
namespace Go.Proofs.YtkakoiaahgchmaaGreatDoor
set_option maxRecDepth 100000
open Go.ChangeShapes Go.WideShapes Go.ChangeAt Go.RowKit
/-- The greatest power of two below a number. -/
def halfN (n : Nat) : Nat := 2 ^ Nat.log2 (n - 1)
theorem halfN_lt {n : Nat} (h : 2 ≤ n) : 1 ≤ halfN n ∧ halfN n < n := by
  have h1 := Nat.log2_self_le (n := n - 1) (by omega)
  have h2 := Nat.pow_pos (n := Nat.log2 (n - 1)) (show 0 < 2 by omega)
  unfold halfN
  omega
/-- What a text's leaf is. -/
@[irreducible] def leafL (m : List Int) : List Int := sumZ (0 :: m)
/-- What the node above two is. -/
@[irreducible] def nodeL (a b : List Int) : List Int := sumZ (1 :: (a ++ b))
theorem Dg.nodeL (a b : List Int) : Dg (nodeL a b) := by unfold Go.Proofs.YtkakoiaahgchmaaGreatDoor.nodeL; exact Dg.sum _
/-- A log's root: so many calls are enough. -/
def rootL : Nat → List (List Int) → List Int
  | 0, _ => zD
  | f + 1, ts => if ts.length = 0 then zD else if ts.length = 1 then leafL (ts.getD 0 []) else nodeL (rootL f (ts.take (halfN ts.length))) (rootL f (ts.drop (halfN ts.length)))
/-- where a part of a row of texts begins -/
def cutS (a : Option Addr) (l cap : Nat) : Option Addr := if cap = l then a else a.map (·.add (l * 1))
set_option maxHeartbeats 4000000 in
theorem lonode_any (a b : List Int) (w : World) (ha : Dg a) (hb_ : Dg b) (tab : ShaTab w) :
    Calls Tryz.prog 79 #[.agg (a.map (Value.int .u8)).toArray, .agg (b.map (Value.int .u8)).toArray] w fun e w' => e = .returned (.agg ((nodeL a b).map (Value.int .u8)).toArray) ∧ Below w.heap.size w w' := by
  have CS := hid (fun (W : World) (g g0 : Nat) (h : Blk W g #[.slice (some ⟨g0, 0, none⟩) 1 1, .slice (some ⟨w.heap.size, 0, none⟩) 32 32, .slice (some ⟨w.heap.size + 1, 0, none⟩) 32 32] 37) (h0 : Blk W g0 (([1] : List Int).map (Value.int .u8)).toArray 5) (ka : Blk W w.heap.size (a.map (Value.int .u8)).toArray 25) (kb : Blk W (w.heap.size + 1) (b.map (Value.int .u8)).toArray 25) (t : ShaTab W) => sum_any (some ⟨g, 0, none⟩) 3 3 [[1], a, b] W (TextsAt.of_blk h rfl (Nat.le_refl _) (by omega) fun j hj => by
    match j, hj with
    | 0, _ => exact ⟨_, _, _, rfl, TextAt.of_ints h0 rfl (by omega) (by simp)⟩
    | 1, _ => exact ⟨_, _, _, rfl, ha.text ka⟩
    | 2, _ => exact ⟨_, _, _, rfl, hb_.text kb⟩) (by simp only [sumLen, List.map_cons, List.map_nil, List.sum_cons, List.sum_nil, List.length_cons, List.length_nil, ha.len, hb_.len]; omega) t)
  have HX := hid (Dg.nodeL a b)
  rw [show ([[1], a, b] : List (List Int)).flatten = 1 :: (a ++ b) by simp, show sumZ (1 :: (a ++ b)) = nodeL a b by unfold nodeL; rfl] at CS
  generalize nodeL a b = X at *
  have b1 := (Below.refl w.heap.size w).alloc (Nat.le_refl _) (.cells (a.map (Value.int .u8)).toArray 25 (0, 0))
  have b2 := b1.alloc b1.size (.cells (b.map (Value.int .u8)).toArray 25 (0, 0))
  have b3 := b2.alloc b2.size (.cells (byteCells 32 []) 25 (0, 0))
  have Ka := hid (((Blk.new (w := w) (n := w.heap.size) rfl (a.map (Value.int .u8)).toArray 25).old (.cells (b.map (Value.int .u8)).toArray 25 (0, 0))).old (.cells (byteCells 32 []) 25 (0, 0)))
  have Kb := hid ((Blk.new (w := (w.alloc (.cells (a.map (Value.int .u8)).toArray 25 (0, 0)))) (n := w.heap.size + 1) (by simp only [World.size_alloc]) (b.map (Value.int .u8)).toArray 25).old (.cells (byteCells 32 []) 25 (0, 0)))
  have Kr := hid (Blk.new (w := ((w.alloc (.cells (a.map (Value.int .u8)).toArray 25 (0, 0))).alloc (.cells (b.map (Value.int .u8)).toArray 25 (0, 0)))) (n := w.heap.size + 1 + 1) (by simp only [World.size_alloc]) (byteCells 32 []) 25)
  have Hb := hid b3
  have hbz := b3.size
  have Hbs := hid (show w.heap.size + 1 + 1 + 1 = (((w.alloc (.cells (a.map (Value.int .u8)).toArray 25 (0, 0))).alloc (.cells (b.map (Value.int .u8)).toArray 25 (0, 0))).alloc (.cells (byteCells 32 []) 25 (0, 0))).heap.size by simp only [World.size_alloc])
  have Htab := hid tab
  clear b1 b2 b3 tab 
  go_enter Tryz.func79, Tryz.ntmps79
  go_wp2_with fail
  refine wp_region_flow 5 [1, 2] [0] [(.b 0, [], [3]), (.b 3, [4], [])] (by kernel_rfl) (by kernel_rfl) ?_
  apply Exists.intro
  refine ⟨fun w0 hb0 hF0 => ?_, ?_⟩
  · skip
    simp only [pick, List.getElem?_toArray, List.getElem?_cons_succ, List.getElem?_cons_zero, Option.toList_some, List.cons_append, List.nil_append]
    repeat (first | go_big_quiet_step (fail))
    exact wpQuiet_nil rfl
  refine AlChk.one rfl (fun b => .slice (some ⟨b, 0, none⟩) 1 1) (.cells #[.int .u8 1] 5 (0, 0)) rfl (fun w3 hb3 hF3 => by go_simp) ?_
  refine AlChk.nil ?_
  refine Walk.blk rfl (fun b => .slice (some ⟨b, 0, none⟩) 1 1) (.cells #[.int .u8 1] 5 (0, 0)) (by simp) ?_
  intro b8 w1 hb1 hF1 hge1 _
  apply Exists.intro
  refine ⟨fun w2 hb2 hF2 => wpQuiet_nil rfl, ?_⟩
  refine AlChk.one rfl (fun b => .slice (some ⟨b, 0, none⟩) 3 3) (.cells #[.slice (some ⟨b8, 0, none⟩) 1 1, .slice (some ⟨w.heap.size, 0, none⟩) 32 32, .slice (some ⟨w.heap.size + 1, 0, none⟩) 32 32] 37 (0, 0)) rfl (fun w3 hb3 hF3 => by go_simp) ?_
  refine AlChk.nil ?_
  refine Walk.blk rfl (fun b => .slice (some ⟨b, 0, none⟩) 3 3) (.cells #[.slice (some ⟨b8, 0, none⟩) 1 1, .slice (some ⟨w.heap.size, 0, none⟩) 32 32, .slice (some ⟨w.heap.size + 1, 0, none⟩) 32 32] 37 (0, 0)) (by simp) ?_
  intro b9 w2 hb2 hF2 hge2 _
  apply Exists.intro
  refine ⟨fun w0 hb0 hF0 => ?_, ?_⟩
  · have k9 : Blk w0 b9 #[.slice (some ⟨b8, 0, none⟩) 1 1, .slice (some ⟨w.heap.size, 0, none⟩) 32 32, .slice (some ⟨w.heap.size + 1, 0, none⟩) 32 32] 37 := hF0.2
    have k8 : Blk w0 b8 (([1] : List Int).map (Value.int .u8)).toArray 5 := hF0.1.2
    have hs := fun e : Ext w0 => CS.out e.at_ b9 b8 (k9.below e.same) (k8.below e.same) ((Ka.out.below hb0).below e.same) ((Kb.out.below hb0).below e.same) ((Htab.out.below (Below.on Hb.out hb0)).below e.same)
    simp only [pick, List.getElem?_toArray, List.getElem?_cons_succ, List.getElem?_cons_zero, Option.toList_some, List.cons_append, List.nil_append, Act.put, List.setIfInBounds_toArray, List.set_cons_zero, List.set_cons_succ]
    repeat (go_big_quiet_step (first | (go_at_call 86; exact Calls.ext (hs _))))
    exact wpQuiet_nil rfl
  refine AlChk.nil ?_
  refine Walk.fin fun w4 h4 _ _ => ?_
  simp only [List.drop_succ_cons, List.drop_zero]
  have HBw4 := hid (Below.on Hb.out h4)
  have hsw4 := HBw4.out.size
  have Kaw4 := hid (Ka.out.below h4)
  have Kbw4 := hid (Kb.out.below h4)
  have Krw4 := hid (Kr.out.below h4)
  clear h4
  go_wp2_with (
      refine wpList_store_blk rfl 25 _ _ rfl (w.heap.size + 1 + 1) (X.map (Value.int .u8)).toArray rfl rfl _ 25 Krw4.out 32 size_digest zsize HX.out.size (ints_one _ _) ?_
      intro w9 hb9 hk9
      have HB9 := hid (hb9.below HBw4.out HBw4.out.size (by omega))
      have HK9 := hid hk9
      clear hb9 hk9)
  exact bodyPost_ret (v := .agg (X.map (Value.int .u8)).toArray) (results_blk Tryz.results79 _ (w.heap.size + 1 + 1) rfl _ 25 HK9.out _ Tryz.underlying25 rfl 32 size_digest HX.out.size) rfl ⟨rfl, HB9.out⟩
set_option maxHeartbeats 4000000 in
theorem refnode_any (a b : List Int) (w : World) (ha : Dg a) (hb_ : Dg b) :
    Calls Tryz.prog 68 #[.agg (a.map (Value.int .u8)).toArray, .agg (b.map (Value.int .u8)).toArray] w fun e w' => e = .returned (.agg ((nodeL a b).map (Value.int .u8)).toArray) ∧ Below w.heap.size w w' := by
  have CS := hid (fun (x : Option Addr) (c : Nat) (W : World) (h : TextAt W x 65 c (1 :: (a ++ b))) => refsum_any x 65 c (1 :: (a ++ b)) W h (by omega))
  have HX := hid (Dg.nodeL a b)
  rw [show sumZ (1 :: (a ++ b)) = nodeL a b by unfold nodeL; rfl] at CS
  generalize nodeL a b = X at *
  have b1 := (Below.refl w.heap.size w).alloc (Nat.le_refl _) (.cells (a.map (Value.int .u8)).toArray 25 (0, 0))
  have b2 := b1.alloc b1.size (.cells (b.map (Value.int .u8)).toArray 25 (0, 0))
  have b3 := b2.alloc b2.size (.cells (byteCells 32 []) 25 (0, 0))
  have Ka := hid (((Blk.new (w := w) (n := w.heap.size) rfl (a.map (Value.int .u8)).toArray 25).old (.cells (b.map (Value.int .u8)).toArray 25 (0, 0))).old (.cells (byteCells 32 []) 25 (0, 0)))
  have Kb := hid ((Blk.new (w := (w.alloc (.cells (a.map (Value.int .u8)).toArray 25 (0, 0)))) (n := w.heap.size + 1) (by simp only [World.size_alloc]) (b.map (Value.int .u8)).toArray 25).old (.cells (byteCells 32 []) 25 (0, 0)))
  have Kr := hid (Blk.new (w := ((w.alloc (.cells (a.map (Value.int .u8)).toArray 25 (0, 0))).alloc (.cells (b.map (Value.int .u8)).toArray 25 (0, 0)))) (n := w.heap.size + 1 + 1) (by simp only [World.size_alloc]) (byteCells 32 []) 25)
  have Hb := hid b3
  have hbz := b3.size
  have Hbs := hid (show w.heap.size + 1 + 1 + 1 = (((w.alloc (.cells (a.map (Value.int .u8)).toArray 25 (0, 0))).alloc (.cells (b.map (Value.int .u8)).toArray 25 (0, 0))).alloc (.cells (byteCells 32 []) 25 (0, 0))).heap.size by simp only [World.size_alloc])
  clear b1 b2 b3 
  go_enter Tryz.func68, Tryz.ntmps68
  go_wp2_with fail
  have HBB : Hid (w.heap.size + 1 + 1 + 1 ≤ (((w.alloc (.cells (a.map (Value.int .u8)).toArray 25 (0, 0))).alloc (.cells (b.map (Value.int .u8)).toArray 25 (0, 0))).alloc (.cells (byteCells 32 []) 25 (0, 0))).heap.size) := hid (Nat.le_of_eq Hbs.out)
  obtain ⟨i0, hi, hz0, hz1, hz2⟩ := info_parts info_byte
  refine FlowB.wp_region_typed (w.heap.size + 1 + 1 + 1) 5 4 [1, 3] [] [(.c 0, [], []), (.c 2, [], [])] (by kernel_rfl) (by kernel_rfl) ?_
  apply Exists.intro
  refine ⟨fun w0 hb0 hF0 => ?_, ?_⟩
  · simp only [pick, List.getElem?_toArray, List.getElem?_cons_succ, List.getElem?_cons_zero, Option.toList_some, List.cons_append, List.nil_append]
    repeat (go_big_quiet_step (fail))
    exact wpQuiet_nil rfl
  refine FlowB.AlChk.nil ?_
  refine FlowB.Walk.does rfl (fun _ _ => True) (fun v w' => OwnB w' (w.heap.size + 1 + 1 + 1) 5 v [1]) (fun v w' w'' _ h _ => h) (fun v w' w'' h k => h.below k) rfl (fun w5 hb5 hF5 _ => ?_) ?_
  · exact ⟨.slice (some ⟨w5.heap.size, 0, none⟩) 1 1, w5.alloc (.cells (([1] : List Int).map (Value.int .u8)).toArray 5), by first | (go_simp; done) | (go_simp; rfl), (FlowB.rel_typed _ _).of ((Below.refl _ _).alloc (Nat.le_refl _) _), trivial, OwnB.of_blk (Blk.new rfl _ _) (Nat.le_trans HBB.out hb5.size) rfl (by omega) (by simp)⟩
  rintro vl w5 hb5 hF5 _
  apply Exists.intro
  refine ⟨fun w4 hb4 hF4 => wpQuiet_nil rfl, ?_⟩
  refine FlowB.AlChk.nil ?_
  refine FlowB.Walk.does rfl (fun _ _ => True) (fun v w' => OwnB w' (w.heap.size + 1 + 1 + 1) 5 v ([1] ++ a)) (fun v w' w'' _ h _ => h) (fun v w' w'' h k => h.below k) rfl (fun w2 hb2 hF2 hG2 => ?_) ?_
  · have hbB := hb2.below (B := w.heap.size + 1 + 1 + 1) HBB.out
    obtain ⟨v', w', hr, q2, q3, q4⟩ := run_append_text (P := Tryz.prog) 37 Tryz.underlying37 hi hz0 hz1 hz2 hG2 (ha.text (Ka.out.belowB (by omega) hbB)) (by simp) (Nat.le_trans HBB.out hb2.size)
    exact ⟨v', w', FlowB.exec_append rfl rfl rfl hr, hG2.typed (Nat.le_refl _) q3, trivial, q2⟩
  rintro v3 w3 hb3 hF3 _
  apply Exists.intro
  refine ⟨fun w2 hb2 hF2 => wpQuiet_nil rfl, ?_⟩
  refine FlowB.AlChk.nil ?_
  refine FlowB.Walk.fin fun w4 h4 _ hG4 => ?_
  simp only [List.drop_succ_cons, List.drop_zero]
  have hbB := h4.below (B := w.heap.size + 1 + 1 + 1) HBB.out
  have Kr4 := hid (Kr.out.belowB (by omega) hbB)
  have Kb4 := hid (Kb.out.belowB (by omega) hbB)
  have Hb4 := hid (Hb.out.trans (hbB.mono (by omega)))
  have Ho4 := hid (show OwnB w4 (w.heap.size + 1 + 1 + 1) 5 v3 ([1] ++ a) from hG4)
  have hsz4 : w.heap.size + 1 + 1 + 1 ≤ w4.heap.size := Nat.le_trans HBB.out h4.size
  clear h4 hG4 hbB Kr Ka Hb
  go_wp2_with (at_builtin; refine wpList_append_text rfl _ _ rfl Tryz.underlying37 hi hz0 hz1 hz2 rfl Ho4.out rfl (hb_.text Kb4.out) (by rw [List.length_append, ha.len]; simp) hsz4 ?_)
  intro v5 w5 own5 _ b5
  obtain ⟨a5, c5, rfl, hT5, _⟩ := own5.text
  rw [show (1 :: (a ++ b)).length = 65 by rw [List.length_cons, List.length_append, ha.len, hb_.len]] at hT5 ⊢
  have HT5 := hid hT5
  have HBw5 := hid (Hb4.out.trans (b5.mono (by omega)))
  have Krw5 := hid (Kr4.out.belowB (by omega) b5)
  clear own5 hT5 b5
  go_wp2_with fail
  refine (CS.out a5 c5 w5 HT5.out).mono ?_
  rintro e w6 ⟨rfl, b6⟩
  have HBw6 := hid (Below.on HBw5.out b6)
  have Krw6 := hid (Krw5.out.below b6)
  clear b6 HT5
  go_wp2_with (
      refine wpList_store_blk rfl 25 _ _ rfl (w.heap.size + 1 + 1) (X.map (Value.int .u8)).toArray rfl rfl _ 25 Krw6.out 32 size_digest zsize HX.out.size (ints_one _ _) ?_
      intro w9 hb9 hk9
      have HB9 := hid (hb9.below HBw6.out HBw6.out.size (by omega))
      have HK9 := hid hk9
      clear hb9 hk9)
  exact bodyPost_ret (v := .agg (X.map (Value.int .u8)).toArray) (results_blk Tryz.results68 _ (w.heap.size + 1 + 1) rfl _ 25 HK9.out _ Tryz.underlying25 rfl 32 size_digest HX.out.size) rfl ⟨rfl, HB9.out⟩
end Go.Proofs.YtkakoiaahgchmaaGreatDoor
namespace Go.Proofs.YtkakoiaahgchmaaGreatDoor
set_option maxRecDepth 100000
open Go.ChangeShapes Go.WideShapes Go.ChangeAt Go.RowKit
section
variable {P : Program} {ops : Array Oper} {rest : List Oper} {op : Oper} {a : Act} {w : World} {Q : Exit → Act → World → Prop} {t e : TypeId}
end
/-- The way of a place. -/
def pathL : Nat → List (List Int) → Nat → List (List Int)
  | 0, _, _ => []
  | f + 1, ts, i => if ts.length = 1 then [] else if i < halfN ts.length then pathL f (ts.take (halfN ts.length)) i ++ [rootL f (ts.drop (halfN ts.length))] else pathL f (ts.drop (halfN ts.length)) (i - halfN ts.length) ++ [rootL f (ts.take (halfN ts.length))]
/-- The way from a beginning. -/
def growL : Nat → List (List Int) → Nat → Bool → List (List Int)
  | 0, _, _, _ => []
  | f + 1, ts, m, cut => if m = ts.length then (if cut then [rootL (f + 1) ts] else []) else if m ≤ halfN ts.length then growL f (ts.take (halfN ts.length)) m cut ++ [rootL f (ts.drop (halfN ts.length))] else growL f (ts.drop (halfN ts.length)) (m - halfN ts.length) true ++ [rootL f (ts.take (halfN ts.length))]
section
variable {P : Program} {ops : Array Oper} {rest : List Oper} {op : Oper} {a : Act} {w : World} {Q : Exit → Act → World → Prop}
theorem wpList_index_len8 (hgd : op.guard = none) (t : TypeId) (s : ByteArray) (x : Operand) (ho : op.op = .index t (.const (.string s)) x) (hs : s = Lib.len8tab) (ht : P.underlying t = some .string) (k : IntKind) (i : Int) (hx : a.eval x = .int k i) (h0 : 0 ≤ i) (h1 : i ≤ 255)
    (h : wpList P ops Q rest (a.put op.dst (.int .u8 (Lib.len8 i))) w) : wpList P ops Q (op :: rest) a w :=
  wpList_plain hgd fun K hK => by
    subst hs
    unfold Oper.wp execOp
    have hc : a.eval (.const (.string Lib.len8tab)) = .string Lib.len8tab := rfl
    simp only [ho, hx, hc, Sem.run_bind, Sem.run_pure, Result.andThen_ok, Lib.run_index_len8tab w t k i ht h0 h1, Oper.upon_value]
    exact hK _ _ h
end
theorem len8_log (x : Nat) (hx : x < 256) : Lib.len8 (x : Int) = (if x = 0 then 0 else (Nat.log2 x : Int) + 1) :=
  (by decide +kernel : ∀ i : Fin 256, Lib.len8 ((i.val : Nat) : Int) = (if i.val = 0 then 0 else (Nat.log2 i.val : Int) + 1)) ⟨x, hx⟩
set_option maxHeartbeats 4000000 in
theorem len64_any (x : Int) (w : World) (h0 : 0 ≤ x) (h1 : x ≤ 255) : Calls Tryz.prog 134 #[.int .u64 x] w fun e w' => e = .returned (.int .i64 (Lib.len8 x)) ∧ w' = w := by
  have h2 : ¬ (4294967296 ≤ x) := by omega
  have h3 : ¬ (65536 ≤ x) := by omega
  have h4 : ¬ (256 ≤ x) := by omega
  have h5 : x % 256 = x := by omega
  have h6 : wrap64 (Lib.len8 x) = Lib.len8 x := by
    obtain ⟨n, rfl⟩ := Int.eq_ofNat_of_zero_le h0
    have hn : n < 256 := by omega
    have hl : Nat.log2 n ≤ 7 := (by decide +kernel : ∀ i : Fin 256, Nat.log2 i.val ≤ 7) ⟨n, hn⟩
    rw [len8_log n hn]
    unfold wrap64
    split <;> omega
  go_enter Tryz.func134, Tryz.ntmps134
  go_wp2_with (refine wpList_index_len8 rfl _ _ _ rfl (by kernel_rfl) Tryz.underlying9 .u8 x rfl (by omega) (by omega) ?_)
  go_ret
  exact ⟨by first | rfl | (rw [h6]; rfl) | (rw [h6, h6]; rfl), rfl⟩
set_option maxHeartbeats 4000000 in
theorem len_any (x : Int) (w : World) (h0 : 0 ≤ x) (h1 : x ≤ 255) : Calls Tryz.prog 109 #[.int .u64 x] w fun e w' => e = .returned (.int .i64 (Lib.len8 x)) ∧ w' = w := by
  go_enter Tryz.func109, Tryz.ntmps109
  go_wp2_with (go_at_call 134; refine (len64_any x _ h0 h1).mono ?_; rintro e w' ⟨rfl, rfl⟩)
  go_ret
  exact ⟨rfl, rfl⟩
theorem log2_half {n : Nat} (h : 2 ≤ n) (h2 : n ≤ 256) : ∃ k : Nat, k ≤ 7 ∧ Lib.len8 ((n : Int) - 1) = (k : Int) + 1 ∧ halfN n = 2 ^ k := by
  refine ⟨Nat.log2 (n - 1), (by decide +kernel : ∀ i : Fin 256, Nat.log2 i.val ≤ 7) ⟨n - 1, by omega⟩, ?_, rfl⟩
  have := len8_log (n - 1) (by omega)
  rw [if_neg (by omega)] at this
  rw [← this]
  congr 1
  omega
theorem wrap_pow7 {n : Nat} (h : n ≤ 7) : wrap64 ((2 : Int) ^ n) = ((2 ^ n : Nat) : Int) := (by decide +kernel : ∀ i : Fin 8, wrap64 ((2 : Int) ^ i.val) = ((2 ^ i.val : Nat) : Int)) ⟨n, by omega⟩
set_option maxHeartbeats 4000000 in
theorem lohalf_any (n : Nat) (w : World) (h : 2 ≤ n) (h2 : n ≤ 256) : Calls Tryz.prog 78 #[.int .i64 n] w fun e w' => e = .returned (.int .i64 (halfN n : Int)) ∧ w' = w := by
  obtain ⟨k, hk, hl, hn⟩ := log2_half h h2
  rw [hn]
  have CL := hid (fun W : World => len_any ((n : Int) - 1) W (by omega) (by omega))
  rw [hl] at CL
  have hw := wrap_pow7 hk
  have hw1 : wrap64 ((n : Int) - 1) = (n : Int) - 1 := by unfold wrap64; omega
  have hw2 : wrap64 ((k : Int) + 1 - 1) = (k : Int) := by unfold wrap64; omega
  have hk1 : (k : Int) + 1 - 1 = k := by omega
  have hw3 : wrap64 (k : Int) = (k : Int) := by unfold wrap64; omega
  have hc : ((n : Int) - 1) % 18446744073709551616 = (n : Int) - 1 := by omega
  go_enter Tryz.func78, Tryz.ntmps78
  go_wp2_with (go_at_call 109; refine (CL.out _).mono ?_; rintro e w' ⟨rfl, rfl⟩)
  go_ret
  exact ⟨by first | rfl | (rw [← hw]; rfl), rfl⟩
end Go.Proofs.YtkakoiaahgchmaaGreatDoor
namespace Go.Proofs.YtkakoiaahgchmaaGreatDoor
set_option maxRecDepth 100000
open Go.ChangeShapes Go.WideShapes Go.ChangeAt Go.RowKit
section
variable {P : Program} {ops : Array Oper} {rest : List Oper} {op : Oper} {a : Act} {w : World} {Q : Exit → Act → World → Prop}
theorem wpList_store_cell_q (hgd : op.guard = none) (ty : TypeId) (x y : Operand) (ho : op.op = .store ty x y) (b o : Nat) (v : Value) (hx : a.eval x = .pointer (some ⟨b, o, none⟩)) (hy : a.eval y = v) (h1 : v.oneCell' = true) (hc : v.cells = #[v])
    (cs : Array Value) (T : TypeId) (hk : Blk w b cs T) (hlt : o < cs.size) (hi : (P.info? ty).map (·.size) = some 1)
    (h : ∀ w', But b w w' → Blk w' b (cs.setIfInBounds o v) T → wpList P ops Q rest (a.put op.dst undef) w') : wpList P ops Q (op :: rest) a w :=
  wpList_plain hgd fun K hK => by
    unfold Oper.wp execOp
    simp only [ho, hx, hy, Instr.storeAt, Instr.sureAddr, Sem.run_bind, Sem.run_pure, Result.andThen_ok, run_store_one w hk hlt hi h1 hc, Oper.upon_skip]
    exact hK _ _ (h _ (But.setCells [v] o w (But.of (Below.refl _ _))) (hk.set o v))
end
theorem size_int : (Tryz.prog.info? 3).map (·.size) = some 1 := by kernel_rfl
/-- What is taken, where so many are left. -/
def takeZ (ds : List (List Int)) (left : Int) : List Int := if left - 1 < 0 then zD else ds.getD (left - 1).toNat []
theorem Dg.take {ds : List (List Int)} {left : Int} (h : ∀ d ∈ ds, Dg d) (hl : left ≤ ds.length) : Dg (takeZ ds left) := by
  unfold takeZ
  split
  · exact Dg.zero
  · exact Dg.getD h (by omega)
set_option maxHeartbeats 4000000 in
theorem take_none (bl bw : Nat) (left : Int) (ya : Option Addr) (yn yc : Nat) (w : World) (hne : bl ≠ bw) (kl : Blk w bl #[.int .i64 left] 3) (kw : Blk w bw #[.slice ya yn yc] 33) (hlo : -1000 ≤ left) (h0 : left - 1 < 0) :
    Calls Tryz.prog 107 #[.pointer (some ⟨bl, 0, none⟩), .pointer (some ⟨bw, 0, none⟩)] w fun e w' => e = .returned (.agg (zD.map (Value.int .u8)).toArray) ∧ But bl w w' ∧ Blk w' bl #[.int .i64 (left - 1)] 3 := by
  have hw1 : wrap64 (left - 1) = left - 1 := by unfold wrap64; omega
  have b1 := (Below.refl w.heap.size w).alloc (Nat.le_refl _) (.cells (byteCells 32 []) 25 (0, 0))
  have Kr := hid (Blk.new (w := w) (n := w.heap.size) rfl (byteCells 32 []) 25)
  have Hb := hid b1
  have hbz := b1.size
  have Hbs := hid (show w.heap.size + 1 = (w.alloc (.cells (byteCells 32 []) 25 (0, 0))).heap.size by simp only [World.size_alloc])
  clear b1 
  have Kl := hid (kl.below Hb.out)
  have Kw := hid (kw.below Hb.out)
  have hlt0 := kl.lt
  have hlt1 := kw.lt
  clear kl kw
  have cl : (w.alloc (.cells #[.int .u8 0, .int .u8 0, .int .u8 0, .int .u8 0, .int .u8 0, .int .u8 0, .int .u8 0, .int .u8 0, .int .u8 0, .int .u8 0, .int .u8 0, .int .u8 0, .int .u8 0, .int .u8 0, .int .u8 0, .int .u8 0, .int .u8 0, .int .u8 0, .int .u8 0, .int .u8 0, .int .u8 0, .int .u8 0, .int .u8 0, .int .u8 0, .int .u8 0, .int .u8 0, .int .u8 0, .int .u8 0, .int .u8 0, .int .u8 0, .int .u8 0, .int .u8 0] 25 (0, 0))).cell? ⟨bl, 0, none⟩ = some (.int .i64 left) := (show (w.alloc (.cells (byteCells 32 []) 25 (0, 0))).cell? ⟨bl, 0, none⟩ = some (.int .i64 left) by rw [Kl.out.cell]; rfl)
  go_enter Tryz.func107, Tryz.ntmps107
  go_wp2_with (first
     | (
        refine wpList_store_cell_q rfl 3 _ _ rfl bl 0 (.int .i64 (left - 1)) rfl rfl rfl rfl #[.int .i64 left] 3 Kl.out (by simp) size_int ?_
        intro w1 hb1 hk1
        have HB1 := hid hb1
        have Kl1 := hid (show Blk w1 bl #[.int .i64 (left - 1)] 3 from hk1)
        have Kr1 := hid (hb1.blk Kr.out (by omega))
        have Kw1 := hid (hb1.blk Kw.out (fun e => hne e.symm))
        have cl1 : w1.cell? ⟨bl, 0, none⟩ = some (.int .i64 (left - 1)) := by rw [Kl1.out.cell]; rfl
        have cw1 : w1.cell? ⟨bw, 0, none⟩ = some (.slice ya yn yc) := by rw [Kw1.out.cell]; rfl
        clear hb1 hk1)
     | (
        refine wpList_store_blk rfl 25 _ _ rfl (w.heap.size) (zD.map (Value.int .u8)).toArray rfl rfl _ 25 Kr1.out 32 size_digest zsize Dg.zero.size (ints_one _ _) ?_
        intro w9 hb9 hk9
        have HB9 := hid hb9
        have HK9 := hid hk9
        have Kl9 := hid (hb9.blk Kl1.out (by omega))
        clear hb9 hk9))
  exact bodyPost_ret (v := .agg (zD.map (Value.int .u8)).toArray) (results_blk Tryz.results107 _ (w.heap.size) rfl _ 25 HK9.out _ Tryz.underlying25 rfl 32 size_digest Dg.zero.size) rfl ⟨rfl, But.fresh (But.trans (But.of Hb.out) HB1.out) HB9.out (Nat.le_refl _), Kl9.out⟩
set_option maxHeartbeats 4000000 in
theorem take_some (bl bw : Nat) (x o q yn yc : Nat) (X : List Int) (w : World) (hne : bl ≠ bw) (kl : Blk w bl #[.int .i64 ((q : Int) + 1)] 3) (kw : Blk w bw #[.slice (some ⟨x, o, none⟩) yn yc] 33) (hq : q ≤ 1000000) (hqn : q < yn) (hx : x < w.heap.size) (hxl : x ≠ bl) (hc : w.rangeAt x (o + q * 32) (X.map (Value.int .u8))) (hX : Dg X) :
    Calls Tryz.prog 107 #[.pointer (some ⟨bl, 0, none⟩), .pointer (some ⟨bw, 0, none⟩)] w fun e w' => e = .returned (.agg (X.map (Value.int .u8)).toArray) ∧ But bl w w' ∧ Blk w' bl #[.int .i64 q] 3 := by
  have hw1 : wrap64 (q : Int) = (q : Int) := by unfold wrap64; omega
  have h0 : ¬ ((q : Int) < 0) := by omega
  have HX := hid hX
  have Hc := hid hc
  clear hc hX
  have b1 := (Below.refl w.heap.size w).alloc (Nat.le_refl _) (.cells (byteCells 32 []) 25 (0, 0))
  have Kr := hid (Blk.new (w := w) (n := w.heap.size) rfl (byteCells 32 []) 25)
  have Hb := hid b1
  have hbz := b1.size
  have Hbs := hid (show w.heap.size + 1 = (w.alloc (.cells (byteCells 32 []) 25 (0, 0))).heap.size by simp only [World.size_alloc])
  clear b1 
  have Kl := hid (kl.below Hb.out)
  have Kw := hid (kw.below Hb.out)
  have hlt0 := kl.lt
  have hlt1 := kw.lt
  clear kl kw
  have cl : (w.alloc (.cells #[.int .u8 0, .int .u8 0, .int .u8 0, .int .u8 0, .int .u8 0, .int .u8 0, .int .u8 0, .int .u8 0, .int .u8 0, .int .u8 0, .int .u8 0, .int .u8 0, .int .u8 0, .int .u8 0, .int .u8 0, .int .u8 0, .int .u8 0, .int .u8 0, .int .u8 0, .int .u8 0, .int .u8 0, .int .u8 0, .int .u8 0, .int .u8 0, .int .u8 0, .int .u8 0, .int .u8 0, .int .u8 0, .int .u8 0, .int .u8 0, .int .u8 0, .int .u8 0] 25 (0, 0))).cell? ⟨bl, 0, none⟩ = some (.int .i64 ((q : Int) + 1)) := (show (w.alloc (.cells (byteCells 32 []) 25 (0, 0))).cell? ⟨bl, 0, none⟩ = some (.int .i64 ((q : Int) + 1)) by rw [Kl.out.cell]; rfl)
  go_enter Tryz.func107, Tryz.ntmps107
  go_wp2_with (first
     | (
        refine wpList_store_cell_q rfl 3 _ _ rfl bl 0 (.int .i64 q) rfl rfl rfl rfl #[.int .i64 ((q : Int) + 1)] 3 Kl.out (by simp) size_int ?_
        intro w1 hb1 hk1
        have HB1 := hid hb1
        have Kl1 := hid (show Blk w1 bl #[.int .i64 q] 3 from hk1)
        have Kr1 := hid (hb1.blk Kr.out (by omega))
        have Kw1 := hid (hb1.blk Kw.out (fun e => hne e.symm))
        have cl1 : w1.cell? ⟨bl, 0, none⟩ = some (.int .i64 q) := by rw [Kl1.out.cell]; rfl
        have cw1 : w1.cell? ⟨bw, 0, none⟩ = some (.slice (some ⟨x, o, none⟩) yn yc) := by rw [Kw1.out.cell]; rfl
        have Hcx : Hid (w1.rangeAt x (o + q * 32) (X.map (Value.int .u8))) := hid (fun j v hv => by
          rw [hb1.cell (by rw [World.size_alloc]; omega) hxl]
          exact (Hb.out.cell (p := ⟨x, o + q * 32 + j, none⟩) hx).trans (Hc.out j v hv))
        clear hb1 hk1)
     | (refine wpList_index_digs rfl 33 _ _ rfl Tryz.underlying33 size_digest x o yn yc rfl _ _ rfl q (by omega) (by omega) ?_)
     | (refine wpList_load_mid rfl 25 _ rfl x (o + q * 32) rfl _ _ Hcx.out Tryz.underlying25 rfl (by rw [List.length_map, HX.out.len]; exact size_digest) ?_)
     | (
        refine wpList_store_blk rfl 25 _ _ rfl (w.heap.size) (X.map (Value.int .u8)).toArray rfl rfl _ 25 Kr1.out 32 size_digest zsize HX.out.size (ints_one _ _) ?_
        intro w9 hb9 hk9
        have HB9 := hid hb9
        have HK9 := hid hk9
        have Kl9 := hid (hb9.blk Kl1.out (by omega))
        clear hb9 hk9))
  exact bodyPost_ret (v := .agg (X.map (Value.int .u8)).toArray) (results_blk Tryz.results107 _ (w.heap.size) rfl _ 25 HK9.out _ Tryz.underlying25 rfl 32 size_digest HX.out.size) rfl ⟨rfl, But.fresh (But.trans (But.of Hb.out) HB1.out) HB9.out (Nat.le_refl _), Kl9.out⟩
set_option maxHeartbeats 4000000 in
theorem done_any (bl : Nat) (left : Int) (w : World) (kl : Blk w bl #[.int .i64 left] 3) :
    Calls Tryz.prog 108 #[.pointer (some ⟨bl, 0, none⟩)] w fun e w' => e = .returned (.bool (decide (left = 0))) ∧ w' = w := by
  have cl : w.cell? ⟨bl, 0, none⟩ = some (.int .i64 left) := by rw [kl.cell]; rfl
  go_enter Tryz.func108, Tryz.ntmps108
  go_wp2_with fail
  go_ret
  exact ⟨rfl, rfl⟩
set_option maxHeartbeats 4000000 in
theorem taker_any (ya : Option Addr) (yn yc : Nat) (w : World) :
    Calls Tryz.prog 76 #[.slice ya yn yc] w fun e w' => e = .returned (.tuple #[.func (.func 107) #[] #[.pointer (some ⟨w.heap.size + 1, 0, none⟩), .pointer (some ⟨w.heap.size, 0, none⟩)], .func (.func 108) #[] #[.pointer (some ⟨w.heap.size + 1, 0, none⟩)]]) ∧ Below w.heap.size w w' ∧ Blk w' (w.heap.size + 1) #[.int .i64 yn] 3 ∧ Blk w' w.heap.size #[.slice ya yn yc] 33 := by
  have b1 := (Below.refl w.heap.size w).alloc (Nat.le_refl _) (.cells #[.slice ya yn yc] 33 (0, 0))
  have Kw := hid (Blk.new (w := w) (n := w.heap.size) rfl #[.slice ya yn yc] 33)
  have Hb := hid b1
  have hbz := b1.size
  have Hbs := hid (show w.heap.size + 1 = (w.alloc (.cells #[.slice ya yn yc] 33 (0, 0))).heap.size by simp only [World.size_alloc])
  clear b1 
  go_enter Tryz.func76, Tryz.ntmps76
  have cw : (w.alloc (.cells #[.slice ya yn yc] 33 (0, 0))).cell? ⟨w.heap.size, 0, none⟩ = some (.slice ya yn yc) := by rw [Kw.out.cell]; rfl
  go_wp2_with fail
  go_returns
  exact ⟨rfl, Hb.out.alloc Hb.out.size _, Blk.new (w := (w.alloc (.cells #[.slice ya yn yc] 33 (0, 0)))) (n := w.heap.size + 1) (by simp only [World.size_alloc]) _ _, Kw.out.old _⟩
theorem Dg.head {d : List Int} (h : Dg d) : (d.map (Value.int .u8))[0]? = some (.int .u8 (d.getD 0 0)) := by
  have hl := h.len
  match d, hl with
  | x :: d, _ => rfl
  | [], hl => simp at hl
theorem blk_not {w : World} {bl x o : Nat} {left : Int} {v : Value} (kl : Blk w bl #[.int .i64 left] 3) (hc : w.cell? ⟨x, o, none⟩ = some v) (hv : ∀ n, v ≠ .int .i64 n) : x ≠ bl := fun e => by
  subst e
  rw [kl.cell] at hc
  match o, hc with
  | 0, hc => exact hv left (by simpa using hc.symm)
  | o + 1, hc => simp at hc
/-- What climbing from a leaf comes to, and how many digests are left then. -/
def upZ : Nat → List Int → Nat → Int → List (List Int) → Int → List Int × Int
  | 0, X, _, _, _, left => (X, left)
  | f + 1, X, n, i, ds, left => if n = 1 then (X, left) else if i < halfN n then
      (nodeL (upZ f X (halfN n) i ds (left - 1)).1 (takeZ ds left), (upZ f X (halfN n) i ds (left - 1)).2)
    else (nodeL (takeZ ds left) (upZ f X (n - halfN n) (i - halfN n) ds (left - 1)).1, (upZ f X (n - halfN n) (i - halfN n) ds (left - 1)).2)
end Go.Proofs.YtkakoiaahgchmaaGreatDoor
namespace Go.Proofs.YtkakoiaahgchmaaGreatDoor
set_option maxRecDepth 100000
open Go.ChangeShapes Go.WideShapes Go.ChangeAt Go.RowKit
theorem but_of_in {b : Nat} {w w' : World} (h : FlowB.ButIn [b] w w') : But b w w' := ⟨h.os, h.tape, h.output, h.size, fun k hk hne => h.block k hk (by simpa using hne)⟩
theorem st_butIn_q {b : Nat} {w : World} (obj : Obj) (hb : b < w.heap.size) : FlowB.St (FlowB.ButIn [b]) w obj := fun w1 w2 c h1 h2 hc ho => by
  have hlt : c < w1.heap.size := by
    have := (Array.getElem?_eq_some_iff.1 ho).1
    exact this
  rw [h2.block c hlt (by simp only [List.mem_cons, List.not_mem_nil, or_false]; omega)]
  exact ho
end Go.Proofs.YtkakoiaahgchmaaGreatDoor
namespace Go.Proofs.YtkakoiaahgchmaaGreatDoor
set_option maxRecDepth 100000
open Go.ChangeShapes Go.WideShapes Go.ChangeAt Go.RowKit
theorem size_f96 : (Tryz.prog.info? 116).map (·.size) = some 1 := by kernel_rfl
end Go.Proofs.YtkakoiaahgchmaaGreatDoor
namespace Go.Proofs.YtkakoiaahgchmaaGreatDoor
set_option maxRecDepth 100000
open Go.ChangeShapes Go.WideShapes Go.ChangeAt Go.RowKit
/-- Climbing, as the reference does it: with the digests that are left. -/
def upR : Nat → List Int → Nat → Nat → List (List Int) → List Int × Bool
  | 0, X, _, _, _ => (X, false)
  | f + 1, X, n, i, ds => if n = 1 then (X, decide (ds.length = 0)) else if ds.length = 0 then (X, false) else if i < halfN n then
      (nodeL (upR f X (halfN n) i (ds.take (ds.length - 1))).1 (ds.getD (ds.length - 1) []), (upR f X (halfN n) i (ds.take (ds.length - 1))).2)
    else (nodeL (ds.getD (ds.length - 1) []) (upR f X (n - halfN n) (i - halfN n) (ds.take (ds.length - 1))).1, (upR f X (n - halfN n) (i - halfN n) (ds.take (ds.length - 1))).2)
end Go.Proofs.YtkakoiaahgchmaaGreatDoor
