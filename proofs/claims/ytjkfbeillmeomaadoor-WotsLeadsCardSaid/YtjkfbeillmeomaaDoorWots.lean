/-
  Layer 8: one-time keys, as the program makes them: a row that a function fills.
-/
import Derived.Test.YtjkfbeillmeomaaDoorAbove
import Derived.Test.YtjkfbeillmeomaaDoorMChain
import Derived.Test.YtjkfbeillmeomaaDoorMDigits
namespace Go.Proofs.YtjkfbeillmeomaaDoor
open Go.ChangeShapes Go.WideShapes Go.ChangeAt Go.RowKit

def rowW (P : Nat → List Int) : List (List Int) := (List.range 67).map P
def fillW (P : Nat → List Int) (k : Nat) : List (List Int) := (List.range k).map P ++ List.replicate (67 - k) zD
theorem fillW_length {P : Nat → List Int} {k : Nat} (h : k ≤ 67) : (fillW P k).length = 67 := by
  simp only [fillW, List.length_append, List.length_map, List.length_range, List.length_replicate]
  omega
theorem fillW_each {P : Nat → List Int} (h : ∀ i, Dg (P i)) (k : Nat) : ∀ d ∈ fillW P k, Dg d := fun d hd => by
  unfold fillW at hd
  rcases List.mem_append.1 hd with hd | hd
  · obtain ⟨i, _, rfl⟩ := List.mem_map.1 hd
    exact h i
  · exact zRow _ d hd
theorem fillW_set {P : Nat → List Int} {k : Nat} (h : k < 67) : (fillW P k).set k (P k) = fillW P (k + 1) := by
  unfold fillW
  rw [List.set_append_right _ _ (by simp), show 67 - k = (67 - (k + 1)) + 1 by omega, List.replicate_succ, List.range_succ, List.map_append]
  simp
theorem fillW_zero (P : Nat → List Int) : fillW P 0 = List.replicate 67 zD := by simp [fillW]
theorem fillW_done (P : Nat → List Int) : fillW P 67 = rowW P := by simp [fillW, rowW]
theorem rowW_length (P : Nat → List Int) : (rowW P).length = 67 := by simp [rowW]
theorem rowW_each {P : Nat → List Int} (h : ∀ i, Dg (P i)) : ∀ d ∈ rowW P, Dg d := fun d hd => by
  obtain ⟨i, _, rfl⟩ := List.mem_map.1 hd
  exact h i
theorem rowW_get (P : Nat → List Int) {i : Nat} (h : i < 67) : (rowW P).getD i [] = P i := by
  simp [rowW, h]
theorem enter_run {P : Program} {f : FuncId} {fn : Func} {c : Code} (hf : P.funcs[f]? = some fn) (hname : (fn.name == "runtime.NumGoroutine") = false) (hb : fn.body = some c) (args : Array Value) (w : World) :
    (callFunc f args).run P w = .ok (.enter f args) w := by
  have h1 : fn.name ≠ "runtime.NumGoroutine" := by simpa using hname
  simp [callFunc, hf, h1, hb]

set_option maxHeartbeats 4000000 in
set_option maxRecDepth 100000 in
theorem each_any (ad : List Int) (f : FuncId) (cap : Array Value) (P : Nat → List Int) (w : World) (had : Aw ad) (hP : ∀ i, Dg (P i)) (hf : ∀ (args : Array Value) (W : World), (callFunc f args).run Tryd.prog W = .ok (.enter f args) W)
    (hp : ∀ i, i < 67 → ∀ W, Below w.heap.size w W → Calls Tryd.prog f (#[.int .i64 i, (.agg ((setAd ad i 0 0).map (Value.int .u32)).toArray)] ++ cap) W fun e w' => e = .returned (.agg ((P i).map (Value.int .u8)).toArray) ∧ Below W.heap.size W w') :
    Calls Tryd.prog 67 #[(.agg (ad.map (Value.int .u32)).toArray), .func (.func f) #[] cap] w fun e w' => ∃ g, w.heap.size ≤ g ∧ e = .returned (.slice (some ⟨g, 0, none⟩) 67 67) ∧ Below w.heap.size w w' ∧ Blk w' g (dcs (rowW P)) 23 := by
  have b1 := (Below.refl w.heap.size w).alloc (Nat.le_refl _) (.cells (ad.map (Value.int .u32)).toArray 26 (0, 0))
  have Kad := hid (Blk.new (w := w) (n := w.heap.size) rfl (ad.map (Value.int .u32)).toArray 26)
  have Hb := hid b1
  have HzA := hid zsize
  have hbz := b1.size
  have Hbs := hid (show w.heap.size + 1 = (w.alloc (.cells (ad.map (Value.int .u32)).toArray 26 (0, 0))).heap.size by simp only [World.size_alloc])
  clear b1
  have hb2 := Hb.out
  have b3 := hb2.alloc hb2.size (.cells (dcs (List.replicate 67 zD)) 23 (0, 0))
  have Kg3 := hid (Blk.new (w := (w.alloc (.cells (ad.map (Value.int .u32)).toArray 26 (0, 0)))) (n := (w.heap.size + 1)) (by simp only [World.size_alloc]) (dcs (List.replicate 67 zD)) 23)
  have Ka3 := hid (Kad.out.old (.cells (dcs (List.replicate 67 zD)) 23 (0, 0)))
  have Hb3 := hid b3
  clear b3 hb2
  have hmk := fun W : World => make_digs 67 67 rfl (by omega) W
  rw [← fillW_zero P] at Kg3
  go_enter Tryd.func67, Tryd.ntmps67
  go_wp2_with fail
  go_loopw [10] (fun v wr => ∃ k : Nat, k ≤ 67 ∧ v = .int .i64 k ∧ Blk wr (w.heap.size + 1) (dcs (fillW P k)) 23 ∧ Blk wr (w.heap.size) (ad.map (Value.int .u32)).toArray 26 ∧ Below w.heap.size w wr) (fun v _ => 67 - (intOf v).toNat)
  case atStart => exact ⟨0, Nat.zero_le _, rfl, Kg3.out, Ka3.out, Hb3.out⟩
  case round =>
    clear Kg3 Ka3 Hb3
    obtain ⟨k, hk, rfl, kg, ka, bel⟩ := hrel
    have Kgwr := hid kg
    have Kadwr := hid ka
    have HBwr := hid bel
    have hswr := bel.size
    clear kg ka bel
    by_cases hlt : k < 67
    · skip
      have hc0 : (k : Int) < 67 := by omega
      have HS := hid (fillW_set (P := P) hlt)
      have HC := hid (hp k hlt)
      have HP := hid (hP k)
      generalize hX : P k = X at *
      go_wp2_with (refine wpList_load_blk rfl 26 _ rfl (w.heap.size) rfl _ 26 Kadwr.out _ Tryd.underlying26 rfl 8 sizeAdrs had.size ?_)
      refine (at_list ad k 0 _ had).mono ?_
      rintro e w21 ⟨rfl, bw21⟩
      have HBw21 := hid (Below.on HBwr.out bw21)
      have hsw21 := HBw21.out.size
      have Kadw21 := hid (Kadwr.out.below bw21)
      have Kgw21 := hid (Kgwr.out.below bw21)
      clear bw21
      go_wp2_with fail
      refine (HC.out _ HBw21.out).mono ?_
      rintro e w22 ⟨rfl, bw22⟩
      have HBw22 := hid (Below.on HBw21.out bw22)
      have hsw22 := HBw22.out.size
      have Kadw22 := hid (Kadw21.out.below bw22)
      have Kgw22 := hid (Kgw21.out.below bw22)
      clear bw22
      go_wp2_with (first
         | (refine wpList_index_digs rfl 28 _ _ rfl Tryd.underlying28 size_digest (w.heap.size + 1) 0 67 67 rfl _ _ rfl k rfl hlt ?_)
         | (
            refine wpList_store_dig rfl _ _ _ rfl (w.heap.size + 1) k X rfl rfl _ 23 Kgw22.out (fillW_each hP k) HP.out (by rw [fillW_length hk]; exact hlt) size_digest ?_
            intro w6 hb6 hk6
            rw [HS.out] at hk6
            have H6 := hid (And.intro hk6 (And.intro (hb6.blk Kadw22.out (by omega)) (hb6.below HBw22.out HBw22.out.size (by omega))))
            clear hb6 hk6))
      exact ⟨⟨k + 1, by omega, by go_num, H6.out.1, H6.out.2.1, H6.out.2.2⟩, by simp [intOf]; omega⟩
    · skip
      have hk7 : k = 67 := by omega
      subst hk7
      have hc0 : ¬ ((67 : Int) < 67) := by omega
      rw [fillW_done] at Kgwr
      go_wp2_with fail
      go_ret
      exact ⟨(w.heap.size + 1), by omega, rfl, HBwr.out, Kgwr.out⟩
end Go.Proofs.YtjkfbeillmeomaaDoor
