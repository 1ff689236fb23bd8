/-
  Layer 17: PtreeRoots; a row of entries, as it comes in.
-/
import Derived.Test.YthaicocfbmpnmaaDoorQtG
import Derived.Test.YthaicocfbmpnmaaDoorQtB
import Derived.Shelf.SlSortCmp.WholeK
import Derived.Shelf.SlSortCmp.NoneTotal
import Derived.Deep.SlicePairs
import Derived.Deep.Slices
namespace Go.Proofs.YthaicocfbmpnmaaDoor
open Go.ChangeShapes Go.WideShapes Go.ChangeAt Go.RowKit
open Go.Shelf (Ren)
open Go.Sort (HoldsK)

def sortRen : Ren := ⟨fun | 6 => 92 | 15 => 89 | 14 => 100 | 28 => 95 | 29 => 96 | 20 => 101 | 21 => 102 | 22 => 103 | 23 => 104 | 24 => 105 | 25 => 106 | 26 => 107 | 27 => 108 | 46 => 109 | 47 => 110 | 48 => 111 | 49 => 112 | 50 => 113 | 57 => 114 | n => n, fun | 22 => 36 | 24 => 25 | 25 => 123 | 3 => 3 | 39 => 129 | 0 => 0 | 53 => 105 | 55 => 108 | 4 => 4 | 46 => 145 | 45 => 144 | 50 => 149 | 5 => 5 | 9 => 9 | 66 => 151 | 70 => 155 | 76 => 157 | 77 => 158 | n => n, fun | n => n⟩
theorem sortLays : SlLaysF0.n6 Tryd.prog sortRen where
  mixed := by kernel_rfl
  f6 := ⟨ "slices.SortFunc[[]planchet/ptree.Entry,planchet/ptree.Entry]", by decide, Tryd.func92.trans (congrArg some (by kernel_rfl))⟩
  f14 := ⟨ "slices.pdqsortCmpFunc[planchet/ptree.Entry]", by decide, Tryd.func100.trans (congrArg some (by kernel_rfl))⟩
  f15 := Tryd.func89.trans (congrArg some (by kernel_rfl))
  f20 := ⟨ "slices.insertionSortCmpFunc[planchet/ptree.Entry]", by decide, Tryd.func101.trans (congrArg some (by kernel_rfl))⟩
  f21 := ⟨ "slices.heapSortCmpFunc[planchet/ptree.Entry]", by decide, Tryd.func102.trans (congrArg some (by kernel_rfl))⟩
  f22 := ⟨ "slices.breakPatternsCmpFunc[planchet/ptree.Entry]", by decide, Tryd.func103.trans (congrArg some (by kernel_rfl))⟩
  f23 := ⟨ "slices.choosePivotCmpFunc[planchet/ptree.Entry]", by decide, Tryd.func104.trans (congrArg some (by kernel_rfl))⟩
  f24 := ⟨ "slices.reverseRangeCmpFunc[planchet/ptree.Entry]", by decide, Tryd.func105.trans (congrArg some (by kernel_rfl))⟩
  f25 := ⟨ "slices.partialInsertionSortCmpFunc[planchet/ptree.Entry]", by decide, Tryd.func106.trans (congrArg some (by kernel_rfl))⟩
  f26 := ⟨ "slices.partitionEqualCmpFunc[planchet/ptree.Entry]", by decide, Tryd.func107.trans (congrArg some (by kernel_rfl))⟩
  f27 := ⟨ "slices.partitionCmpFunc[planchet/ptree.Entry]", by decide, Tryd.func108.trans (congrArg some (by kernel_rfl))⟩
  f28 := Tryd.func95.trans (congrArg some (by kernel_rfl))
  f29 := Tryd.func96.trans (congrArg some (by kernel_rfl))
  f46 := ⟨ "slices.siftDownCmpFunc[planchet/ptree.Entry]", by decide, Tryd.func109.trans (congrArg some (by kernel_rfl))⟩
  f47 := Tryd.func110.trans (congrArg some (by kernel_rfl))
  f48 := Tryd.func111.trans (congrArg some (by kernel_rfl))
  f49 := ⟨ "slices.medianAdjacentCmpFunc[planchet/ptree.Entry]", by decide, Tryd.func112.trans (congrArg some (by kernel_rfl))⟩
  f50 := ⟨ "slices.medianCmpFunc[planchet/ptree.Entry]", by decide, Tryd.func113.trans (congrArg some (by kernel_rfl))⟩
  f57 := ⟨ "slices.order2CmpFunc[planchet/ptree.Entry]", by decide, Tryd.func114.trans (congrArg some (by kernel_rfl))⟩
  t0 := Tryd.underlying0
  a0 := Tryd.isAgg0
  z0 := Tryd.sizeOf0
  v0 := Tryd.zeroValue0
  t3 := Tryd.underlying3
  a3 := Tryd.isAgg3
  z3 := Tryd.sizeOf3
  v3 := Tryd.zeroValue3
  t4 := Tryd.underlying4
  a4 := Tryd.isAgg4
  z4 := Tryd.sizeOf4
  v4 := Tryd.zeroValue4
  t5 := Tryd.underlying5
  a5 := Tryd.isAgg5
  z5 := Tryd.sizeOf5
  v5 := Tryd.zeroValue5
  t9 := Tryd.underlying9
  a9 := Tryd.isAgg9
  z9 := Tryd.sizeOf9
  v9 := Tryd.zeroValue9
  t22 := Tryd.underlying36
  a22 := Tryd.isAgg36
  z22 := Tryd.sizeOf36
  v22 := Tryd.zeroValue36
  t25 := Tryd.underlying123
  a25 := Tryd.isAgg123
  z25 := Tryd.sizeOf123
  v25 := Tryd.zeroValue123
  t39 := Tryd.underlying129
  a39 := Tryd.isAgg129
  z39 := Tryd.sizeOf129
  v39 := Tryd.zeroValue129
  t45 := Tryd.underlying144
  a45 := Tryd.isAgg144
  z45 := Tryd.sizeOf144
  v45 := Tryd.zeroValue144
  t46 := Tryd.underlying145
  a46 := Tryd.isAgg145
  z46 := Tryd.sizeOf145
  v46 := Tryd.zeroValue145
  t50 := Tryd.underlying149
  a50 := Tryd.isAgg149
  z50 := Tryd.sizeOf149
  v50 := Tryd.zeroValue149
  t53 := Tryd.underlying105
  a53 := Tryd.isAgg105
  z53 := Tryd.sizeOf105
  v53 := Tryd.zeroValue105
  t55 := Tryd.underlying108
  a55 := Tryd.isAgg108
  z55 := Tryd.sizeOf108
  v55 := Tryd.zeroValue108
  t66 := Tryd.underlying151
  a66 := Tryd.isAgg151
  z66 := Tryd.sizeOf151
  v66 := Tryd.zeroValue151
  t70 := Tryd.underlying155
  a70 := Tryd.isAgg155
  z70 := Tryd.sizeOf155
  v70 := Tryd.zeroValue155
  t76 := Tryd.underlying157
  a76 := Tryd.isAgg157
  z76 := Tryd.sizeOf157
  v76 := Tryd.zeroValue157
  t77 := Tryd.underlying158
  a77 := Tryd.isAgg158
  z77 := Tryd.sizeOf158
  v77 := Tryd.zeroValue158

/-- An entry's cells. -/
def encE (x : EntD) : List Value := (entL x.1.1 x.1.2).map (Value.int .u8)
theorem encE_length (x : EntD) : (encE x).length = 64 := by unfold encE; rw [List.length_map, ent_len x.2.1 x.2.2]
theorem encE_one (x : EntD) : ∀ v ∈ encE x, v.oneCell' = true := fun v hv => by
  obtain ⟨y, _, rfl⟩ := List.mem_map.1 hv
  rfl
/-- How two entries are compared. -/
def cmpE (x y : EntD) : Int := cmpN (numL x.1.1) (numL y.1.1)
theorem cmpE_lt (x y : EntD) : ltOf cmpE x y = decide (numL x.1.1 < numL y.1.1) := by
  unfold ltOf cmpE cmpN
  by_cases h1 : numL x.1.1 < numL y.1.1
  · simp [h1]
  · by_cases h2 : numL y.1.1 < numL x.1.1 <;> simp [h1, h2]
theorem cmpE_order : Go.Sort.SWO (ltOf cmpE) where
  irrefl x := by rw [cmpE_lt]; simp
  trans x y z h1 h2 := by rw [cmpE_lt] at *; simp at *; omega
  ntrans x y z h1 h2 := by rw [cmpE_lt] at *; simp at *; omega
theorem cmpE_calls (blk off size : Nat) (w : World) : CmpLays Tryd.prog 81 #[] encE 64 cmpE blk off size w :=
  fun _ _ _ _ x y => less_any x.1.1 x.1.2 y.1.1 y.1.2 _ x.2.1 y.2.1
theorem flatE_snoc_at {es : List EntD} {j k : Nat} (hj : j < es.length) (hk : k < 64) : ((flatE (es.map Subtype.val)).map (Value.int .u8))[j * 64 + k]? = some (encE es[j])[k]! := by
  have he : ∀ x ∈ es.map Subtype.val, Dg x.1 ∧ Dg x.2 := fun x hx => by
    obtain ⟨y, _, rfl⟩ := List.mem_map.1 hx
    exact y.2
  have e0 : (es.map Subtype.val).getD j ([], []) = (es[j]).1 := by rw [List.getD_eq_getElem?_getD, List.getElem?_map, List.getElem?_eq_getElem hj]; rfl
  have hl : k < (encE es[j]).length := by rw [encE_length]; exact hk
  rw [List.getElem?_map, flatE_at he j k (by rw [List.length_map]; exact hj) hk, e0, ← List.getElem?_map, getElem!_pos (encE es[j]) k hl]
  exact List.getElem?_eq_getElem hl
/-- A row of the call's own is laid as the sort wants it. -/
theorem OwnE.holds {w : World} {base : Nat} {es : List EntD} {g n c : Nat} (h : OwnE w base (.slice (some ⟨g, 0, none⟩) n c) (es.map Subtype.val)) : n = es.length ∧ g < w.heap.size ∧ HoldsK encE 64 w g 0 es.toArray := by
  obtain ⟨⟨h1, ⟨h2, _⟩ | ⟨g', cap, cur, hv, hg, hh, hle, hmx, hsz, htk⟩⟩, h3⟩ := h
  · cases h2
  · cases hv
    have hb : Blk w g cur 25 := hh
    refine ⟨by rw [List.length_map], hb.lt, fun j hj => ?_⟩
    rw [Go.Sort.size_flatK] at hj
    have hs : es.toArray.size = es.length := by simp
    rw [hs] at hj
    refine ⟨?_, hb.free _⟩
    rw [hb.cell, Nat.zero_add, Go.Sort.get_flatK _ _ _ _ (by rw [hs]; exact hj)]
    have hjd : j / 64 < es.length := by omega
    have h5 := flatE_snoc_at (es := es) hjd (Nat.mod_lt j (show 0 < 64 by omega))
    rw [show j / 64 * 64 + j % 64 = j by omega] at h5
    rw [List.length_map] at htk
    have h6 : (cur.toList.take (es.length * 64))[j]? = some (encE es[j / 64])[j % 64]! := by rw [htk]; exact h5
    rw [List.getElem?_take_of_lt hj] at h6
    rw [show es.toArray[j / 64]! = es[j / 64] by simp [hjd]]
    simpa using h6
theorem holds_ents {w : World} {g c : Nat} {d : Array EntD} (h : HoldsK encE 64 w g 0 d) (hg : g < w.heap.size) (hc : d.size ≤ c) : EntsAt w (some ⟨g, 0, none⟩) d.size c (d.toList.map Subtype.val) := by
  refine ⟨by simp, hc, fun x hx => ?_, .inr ⟨g, 0, rfl, hg, fun j hj k v hv => ?_⟩⟩
  · obtain ⟨y, _, rfl⟩ := List.mem_map.1 hx
    exact y.2
  · have hjl : j < d.toList.length := by simpa using hj
    have e0 : (d.toList.map Subtype.val).getD j ([], []) = (d.toList[j]).1 := by rw [List.getD_eq_getElem?_getD, List.getElem?_map, List.getElem?_eq_getElem hjl]; rfl
    rw [e0] at hv
    have hk : k < (encE d.toList[j]).length := (List.getElem?_eq_some_iff.1 hv).1
    rw [encE_length] at hk
    have h1 := (HoldsK.cell h hj hk).1
    rw [h1]
    have hv2 : (encE d.toList[j])[k]? = some v := hv
    rw [show d[j]! = d.toList[j] by simp [hj], getElem!_pos (encE d.toList[j]) k (by rw [encE_length]; exact hk), ← hv2]
    exact (List.getElem?_eq_getElem _).symm
theorem sort_below {w0 w : World} {B g n : Nat} {d : Array EntD} {os : Array Obj} (h : Below B w0 w) (hB : B ≤ g) (hw : B ≤ w.heap.size) : Below B w0 (sortWorldK encE 64 w g 0 n d os) :=
  h.trans ⟨rfl, rfl, rfl, size_sortWorldK_c encE 64 w g 0 n d os, fun k hk => by
    show ((w.heap.modify g _) ++ os)[k]? = _
    rw [Array.getElem?_append_left (by rw [Array.size_modify]; omega), Array.getElem?_modify, if_neg (by omega)]⟩

set_option maxHeartbeats 4000000 in
set_option maxRecDepth 100000 in
theorem collect_all (ad : Option Addr) (len cap : Nat) (es : List EntD) (pb : Nat) (w : World) (hE : EntsAt w ad len cap (es.map Subtype.val)) (hmx : len ≤ 300) (hk : Blk w pb #[.slice ad len cap] 36) :
    Calls Tryd.prog 91 #[.func (.func 93) #[] #[.pointer (some ⟨pb, 0, none⟩)]] w fun e w' => ∃ v, e = .returned v ∧ OwnE w' w.heap.size v (es.map Subtype.val) ∧ Below w.heap.size w w' := by
  have HE := hid hE
  have HK := hid hk
  clear hE hk
  go_enter Tryd.func91, Tryd.ntmps91
  go_wp2_with fail
  refine (appendSeq_all ad len cap es pb _ HE.out hmx HK.out).mono ?_
  rintro e w1 ⟨v, rfl, o1, b1⟩
  have HO := hid o1
  have HB := hid b1
  clear o1 b1
  go_wp2_with fail
  go_returns
  exact ⟨v, rfl, HO.out, HB.out⟩

set_option maxHeartbeats 4000000 in
set_option maxRecDepth 100000 in
theorem sorted_any (ad : Option Addr) (len cap : Nat) (es : List EntD) (pb : Nat) (w : World) (hE : EntsAt w ad len cap (es.map Subtype.val)) (hmx : len ≤ 300) (hk : Blk w pb #[.slice ad len cap] 36) :
    Calls Tryd.prog 79 #[.func (.func 93) #[] #[.pointer (some ⟨pb, 0, none⟩)], .func (.func 81) #[] #[]] w fun e w' => ∃ (a' : Option Addr) (c' : Nat) (fs : List (List Int × List Int)), e = .returned (.slice a' len c') ∧ (∀ x o, a' = some ⟨x, o, none⟩ → w.heap.size ≤ x) ∧ EntsAt w' a' len c' fs ∧ (es.map Subtype.val).Perm fs ∧ fs.Pairwise (fun x y => numL x.1 ≤ numL y.1) ∧ Below w.heap.size w w' := by
  have HE := hid hE
  have HK := hid hk
  have hlen := hE.length
  rw [List.length_map] at hlen
  clear hE hk
  go_enter Tryd.func79, Tryd.ntmps79
  go_wp2_with fail
  refine (collect_all ad len cap es pb _ HE.out hmx HK.out).mono ?_
  rintro e w1 ⟨v, rfl, o1, b1⟩
  have HB1 := hid b1
  have HO1 := hid o1
  have hb1 := b1.size
  obtain ⟨a1, c1, rfl, e1⟩ := o1.ents
  have HE1 := hid e1
  rw [List.length_map, hlen] at HE1 HO1 ⊢
  clear o1 b1 e1
  dsimp only
  by_cases h0 : len = 0
  · skip
    subst h0
    obtain rfl := List.eq_nil_of_length_eq_zero hlen
    have hn := fun W : World => AnyF.slices_SortFunc_none sortLays a1 c1 (.func (.func 81) #[] #[]) W
    have hn : ∀ W : World, Calls Tryd.prog 92 #[.slice a1 0 c1, .func (.func 81) #[] #[]] W (fun e w' => e = .returned (.tuple #[]) ∧ w' = W) := hn
    have HN := hid hn
    clear hn
    go_wp2_with fail
    refine (HN.out _).mono ?_
    rintro e w2 ⟨rfl, rfl⟩
    go_wp2_with fail
    go_returns
    exact ⟨a1, c1, [], rfl, fun x o hx => (HO1.out.lt x (by rw [hx]; rfl)).1, HE1.out, .refl _, List.Pairwise.nil, HB1.out⟩
  · skip
    obtain ⟨g, o, rfl, -, -⟩ := HE1.out.at_ (by omega)
    have ho := HO1.out
    obtain rfl : o = 0 := by
      obtain ⟨⟨_, ⟨h2, _⟩ | ⟨g', cap', cur, hv, _⟩⟩, _⟩ := ho
      · cases h2
      · cases hv; rfl
    obtain ⟨hn1, hg1, hh1⟩ := ho.holds
    have hsz : es.toArray.size = len := by simp [hlen]
    have hcon0 := AnyQ.slices_SortFunc sortLays 64 Tryd.isAgg25 Tryd.sizeOf25 encE encE_length encE_one cmpE cmpE_order 81 #[] g 0 c1 es.toArray w1 (enters_of Tryd.func81 (by kernel_rfl) rfl) (cmpE_calls g 0 _ w1) hh1 hg1 (by rw [hsz]; omega)
    rw [hsz] at hcon0
    have hcon : Calls Tryd.prog 92 #[.slice (some ⟨g, 0, none⟩) len c1, .func (.func 81) #[] #[]] w1 _ := hcon0
    have HC := hid hcon
    have HH1 := hid hh1
    have hgw := (HO1.out.lt g rfl).1
    have hle := HE1.out.le
    have HSZ := hid hsz
    have HLN := hid hlen
    clear hcon hcon0 ho hh1 hn1 hsz hlen
    go_wp2_with fail
    refine HC.out.mono ?_
    rintro e w2 ⟨rfl, d', n, os, hp, hs, rfl⟩
    have hsz := HSZ.out
    obtain ⟨hp1, _, hp3⟩ := hp
    rw [hsz] at hp1
    have hd' : HoldsK encE 64 (sortWorldK encE 64 w1 g 0 n d' os) g 0 d' := holdsK_sortWorldK_c encE 64 w1 g 0 es.toArray d' n os HH1.out hg1 (by rw [hp1, hsz])
    have hg2 := Nat.lt_of_lt_of_le hg1 (size_sortWorldK_c encE 64 w1 g 0 n d' os)
    have hb2 := sort_below (n := n) (d := d') (os := os) HB1.out hgw hb1
    have he2 := holds_ents hd' hg2 (by rw [hp1]; exact hle)
    rw [hp1] at he2
    rw [Array.extract_eq_self_of_le (Nat.le_of_eq hp1), Array.extract_eq_self_of_le (Nat.le_of_eq hsz)] at hp3
    have hpm : (es.map Subtype.val).Perm (d'.toList.map Subtype.val) := (hp3.map Subtype.val).symm
    have hso : (d'.toList.map Subtype.val).Pairwise (fun x y => numL x.1 ≤ numL y.1) := by
      rw [List.pairwise_map]
      refine List.pairwise_iff_getElem.2 (fun i j hi hj hij => ?_)
      have h := hs i j (Nat.zero_le _) hij (by rw [← hp1]; simpa using hj)
      rw [cmpE_lt] at h
      have h := of_decide_eq_false h
      rw [show d'[j]! = d'.toList[j] by simp at hj; simp [hj], show d'[i]! = d'.toList[i] by simp at hi; simp [hi]] at h
      omega
    have HE2 := hid he2
    have HB2 := hid hb2
    have HM := hid hpm
    have HO := hid hso
    clear he2 hb2 hpm hso hp3 hd' hs hsz hp1
    generalize sortWorldK encE 64 w1 g 0 n d' os = w3 at *
    dsimp only
    go_wp2_with fail
    go_returns
    exact ⟨_, c1, _, rfl, fun x o hx => by cases hx; exact hgw, HE2.out, HM.out, HO.out, HB2.out⟩
end Go.Proofs.YthaicocfbmpnmaaDoor

namespace Go.Proofs.YthaicocfbmpnmaaDoor
open Go.ChangeShapes Go.WideShapes Go.ChangeAt Go.RowKit

theorem grow_all (a : Option Addr) (len cap : Nat) (es : List (List Int × List Int)) (w : World) (hE : EntsAt w a len cap es) (hmx : len ≤ 256) (hnf : (es.map Prod.fst).Nodup) (tab : ShaTab w) :
    Calls Tryd.prog 49 #[.slice a len cap] w fun e w' => ∃ g a' c' fs, e = .returned (.tuple #[.agg #[.slice a' len c', .slice (some ⟨g, 0, none⟩) 257 257], .int .i64 0]) ∧ EntsAt w' a' len c' fs ∧ es.Perm fs ∧ fs.Pairwise (fun x y => numL x.1 ≤ numL y.1) ∧ Below w.heap.size w w' ∧ Blk w' g (dcs (empN 257)) 23 := by
  obtain ⟨es, rfl⟩ := ents_of hE.each
  exact grow_good a len cap _ w hE hmx hnf tab (fun pb W hk h => sorted_any a len cap es pb W h (by omega) hk)
/-- What a grown row comes to. -/
theorem grown_node {es fs : List (List Int × List Int)} (he : ∀ x ∈ es, Dg x.1 ∧ Dg x.2) (hnf : (es.map Prod.fst).Nodup) (hp : es.Perm fs) (hs : fs.Pairwise (fun x y => numL x.1 ≤ numL y.1)) : SplitT 256 fs ∧ nodeT 256 fs = nodeT 256 es :=
  ⟨split_all (fun x hx => (he x (hp.mem_iff.2 hx)).1) hs, (nodeT_perm 256 (apart_of (fun x hx => (he x hx).1) (List.pairwise_map.1 hnf)) hp).symm⟩
set_option maxHeartbeats 4000000 in
set_option maxRecDepth 100000 in
theorem root_good (a : Option Addr) (len cap : Nat) (es : List (List Int × List Int)) (w : World) (hE : EntsAt w a len cap es) (hmx : len ≤ 256) (tab : ShaTab w) (hnf : (es.map Prod.fst).Nodup) :
    Calls Tryd.prog 22 #[.slice a len cap] w fun e w' => e = .returned (.tuple #[.agg ((nodeT 256 es).map (Value.int .u8)).toArray, .int .i64 0]) ∧ Below w.heap.size w w' := by
  have b1 := (Below.refl w.heap.size w).alloc (Nat.le_refl _) (.cells (byteCells 32 []) 23 (0, 0))
  have Kr := hid (Blk.new (w := w) (n := w.heap.size) rfl (byteCells 32 []) 23)
  have Hb := hid b1
  have hbz := b1.size
  have Hbs := hid (show w.heap.size + 1 = (w.alloc (.cells (byteCells 32 []) 23 (0, 0))).heap.size by simp only [World.size_alloc])
  have Htab := hid tab
  clear b1 tab 
  have HE := hid (hE.below Hb.out)
  clear hE
  go_enter Tryd.func22, Tryd.ntmps22
  go_wp2_with fail
  refine (grow_all a len cap es _ HE.out hmx hnf (Htab.out.below Hb.out)).mono ?_
  rintro e w1 ⟨g, a1, c1, fs, rfl, e1, p1, s1, b1, kg⟩
  have hgn := grown_node HE.out.each hnf p1 s1
  have HSP := hid hgn.1
  have HND := hid hgn.2
  have HE1 := hid e1
  have HG1 := hid kg
  have HX := hid (Dg.nodeT 256 es HE.out.each)
  clear e1 p1 s1 kg hgn hnf
  have Hb1 := hid (Below.on Hb.out b1)
  have Kr1 := hid (Kr.out.below b1)
  have hs1 := Hb1.out.size
  have hr1 := Kr1.out.lt
  clear b1
  have Krw21 := hid (Kr1.out.old (.cells #[.slice a1 len c1, .slice (some ⟨g, 0, none⟩) 257 257] 76 (0, 0)))
  have hlrw21 := Kr1.out.lt
  have Kxw21 := hid (Blk.new (w := w1) rfl #[.slice a1 len c1, .slice (some ⟨g, 0, none⟩) 257 257] 76)
  have HBw21 := hid (Hb1.out.alloc Hb1.out.size (.cells #[.slice a1 len c1, .slice (some ⟨g, 0, none⟩) 257 257] 76 (0, 0)))
  have hsw21 := HBw21.out.size
  have hfw21 : w.heap.size ≤ w1.heap.size := Hb1.out.size
  have cx0 : (w1.alloc (.cells #[.slice a1 len c1, .slice (some ⟨g, 0, none⟩) 257 257] 76 (0, 0))).cell? ⟨w1.heap.size, 0, none⟩ = some (.slice a1 len c1) := by rw [Kxw21.out.cell]; rfl
  go_wp2_with (refine wpList_load_blk rfl 76 _ rfl (w1.heap.size) rfl _ 76 Kxw21.out _ Tryd.underlying76 rfl 2 size_forest rfl ?_)
  refine (node_all a1 len c1 g 256 (Nat.le_refl _) a1 len c1 fs _ HSP.out (HE1.out.below ((Below.refl _ _).alloc (Nat.le_refl _) _)) hmx (HG1.out.below ((Below.refl _ _).alloc (Nat.le_refl _) _)) (Htab.out.below HBw21.out)).mono ?_
  rintro e w22 ⟨rfl, bw22⟩
  have HBw22 := hid (Below.on HBw21.out bw22)
  have hsw22 := HBw22.out.size
  have Krw22 := hid (Krw21.out.below bw22)
  have Kxw22 := hid (Kxw21.out.below bw22)
  clear bw22
  rw [HND.out]
  generalize hX1 : nodeT 256 es = X at *
  go_wp2_with (
      refine wpList_store_blk rfl 23 _ _ rfl (w.heap.size) (X.map (Value.int .u8)).toArray rfl rfl _ 23 Krw22.out 32 size_digest zsize HX.out.size (ints_one _ _) ?_
      intro w9 hb9 hk9
      have HB9 := hid (hb9.below HBw22.out HBw22.out.size (by omega))
      have HK9 := hid hk9
      clear hb9 hk9)
  exact bodyPost_ret (v := .tuple #[.agg (X.map (Value.int .u8)).toArray, .int .i64 0]) (results_blk_tmp Tryd.results22 _ (w.heap.size) rfl _ rfl _ 23 HK9.out _ Tryd.underlying23 rfl 32 size_digest HX.out.size) rfl ⟨by first | rfl | rw [hX1], HB9.out⟩
set_option maxHeartbeats 4000000 in
set_option maxRecDepth 100000 in
theorem root_dup (a : Option Addr) (len cap : Nat) (es : List (List Int × List Int)) (w : World) (hE : EntsAt w a len cap es) (hmx : len ≤ 256) (tab : ShaTab w) (hnf : ¬ (es.map Prod.fst).Nodup) :
    Calls Tryd.prog 22 #[.slice a len cap] w fun e w' => e = .returned (.tuple #[.agg (zD.map (Value.int .u8)).toArray, .int .i64 5]) ∧ Below w.heap.size w w' := by
  have b1 := (Below.refl w.heap.size w).alloc (Nat.le_refl _) (.cells (byteCells 32 []) 23 (0, 0))
  have Kr := hid (Blk.new (w := w) (n := w.heap.size) rfl (byteCells 32 []) 23)
  have Hb := hid b1
  have hbz := b1.size
  have Hbs := hid (show w.heap.size + 1 = (w.alloc (.cells (byteCells 32 []) 23 (0, 0))).heap.size by simp only [World.size_alloc])
  have Htab := hid tab
  clear b1 tab 
  have HE := hid (hE.below Hb.out)
  clear hE
  go_enter Tryd.func22, Tryd.ntmps22
  go_wp2_with fail
  refine (grow_dup a len cap es _ HE.out hmx hnf).mono ?_
  rintro e w1 ⟨rfl, b1⟩
  have Hb1 := hid (Below.on Hb.out b1)
  have Kr1 := hid (Kr.out.below b1)
  have hs1 := Hb1.out.size
  have hr1 := Kr1.out.lt
  clear b1
  have Krw21 := hid (Kr1.out.old (.cells #[.slice none 0 0, .slice none 0 0] 76 (0, 0)))
  have hlrw21 := Kr1.out.lt
  have Kxw21 := hid (Blk.new (w := w1) rfl #[.slice none 0 0, .slice none 0 0] 76)
  have HBw21 := hid (Hb1.out.alloc Hb1.out.size (.cells #[.slice none 0 0, .slice none 0 0] 76 (0, 0)))
  have hsw21 := HBw21.out.size
  have hfw21 : w.heap.size ≤ w1.heap.size := Hb1.out.size
  have cx0 : (w1.alloc (.cells #[.slice none 0 0, .slice none 0 0] 76 (0, 0))).cell? ⟨w1.heap.size, 0, none⟩ = some (.slice none 0 0) := by rw [Kxw21.out.cell]; rfl
  go_wp2_with (
      refine wpList_store_blk rfl 23 _ _ rfl (w.heap.size) (zD.map (Value.int .u8)).toArray rfl rfl _ 23 Krw21.out 32 size_digest zsize Dg.zero.size (ints_one _ _) ?_
      intro w9 hb9 hk9
      have HB9 := hid (hb9.below HBw21.out HBw21.out.size (by omega))
      have HK9 := hid hk9
      clear hb9 hk9)
  exact bodyPost_ret (v := .tuple #[.agg (zD.map (Value.int .u8)).toArray, .int .i64 5]) (results_blk_tmp Tryd.results22 _ (w.heap.size) rfl _ rfl _ 23 HK9.out _ Tryd.underlying23 rfl 32 size_digest Dg.zero.size) rfl ⟨rfl, HB9.out⟩
end Go.Proofs.YthaicocfbmpnmaaDoor

namespace Go.Proofs.YthaicocfbmpnmaaDoor
open Go.ChangeShapes Go.WideShapes Go.ChangeAt Go.RowKit

/-- A row of pairs of digests of the call's own, of whatever type. -/
structure OwnS (T : TypeId) (w : World) (base : Nat) (v : Value) (es : List (List Int × List Int)) : Prop where
  row : w.ownsRow base T 64 v es.length ((flatE es).map (Value.int .u8))
  each : ∀ x ∈ es, Dg x.1 ∧ Dg x.2
section
variable {T L : TypeId} {w w' : World} {base : Nat} {v : Value} {es : List (List Int × List Int)}
theorem OwnS.nil (T : TypeId) (w : World) (base : Nat) : OwnS T w base (.slice none 0 0) [] := ⟨World.ownsRow_nil w base T 64, by simp⟩
theorem OwnS.below (h : OwnS T w base v es) (hb : Below w.heap.size w w') : OwnS T w' base v es := ⟨owns_below h.row hb, h.each⟩
theorem OwnS.lt (h : OwnS T w base v es) : ∀ k, v.ownBlock = some k → base ≤ k ∧ k < w.heap.size := h.row.lt
theorem OwnS.kept (h : OwnS T w base v es) (hb : ∀ k, v.ownBlock = some k → w'.heap[k]? = w.heap[k]?) : OwnS T w' base v es := by
  obtain ⟨⟨h1, h2⟩, h3⟩ := h
  refine ⟨⟨h1, h2.imp id ?_⟩, h3⟩
  rintro ⟨g, cap, cur, rfl, hg, hh, hle⟩
  exact ⟨g, cap, cur, rfl, hg, (hb g rfl).trans hh, hle⟩
theorem OwnS.re {base' : Nat} (h : OwnS T w base v es) (hb : base' ≤ base) : OwnS T w base' v es := by
  obtain ⟨⟨h1, h2⟩, h3⟩ := h
  refine ⟨⟨h1, h2.imp id ?_⟩, h3⟩
  rintro ⟨g, cap, cur, rfl, hg, hh⟩
  exact ⟨g, cap, cur, rfl, Nat.le_trans hb hg, hh⟩
theorem OwnS.ents (h : OwnS T w base v es) : ∃ a c, v = .slice a es.length c ∧ EntsAt w a es.length c es := by
  obtain ⟨⟨h1, ⟨rfl, h2⟩ | ⟨g, cap, cur, rfl, hg, hh, hle, hmx, hsz, htk⟩⟩, h3⟩ := h
  · obtain rfl := List.eq_nil_of_length_eq_zero h2
    exact ⟨none, 0, rfl, rfl, Nat.le_refl _, h3, .inl rfl⟩
  · refine ⟨_, cap, rfl, rfl, hle, h3, .inr ⟨g, 0, rfl, (Array.getElem?_eq_some_iff.1 hh).1, fun j hj k v hv => ?_⟩⟩
    have hm : es.getD j ([], []) ∈ es := by rw [List.getD_eq_getElem?_getD, List.getElem?_eq_getElem hj]; exact List.getElem_mem _
    have hk : k < 64 := by
      have := (List.getElem?_eq_some_iff.1 hv).1
      rw [List.length_map, ent_len (h3 _ hm).1 (h3 _ hm).2] at this
      exact this
    have hb : Blk w g cur T := hh
    rw [Nat.zero_add, hb.cell]
    have : (cur.toList.take (es.length * 64))[j * 64 + k]? = some v := by
      rw [htk, List.getElem?_map, flatE_at h3 j k hj hk, ← List.getElem?_map]
      exact hv
    rw [List.getElem?_take_of_lt (by omega)] at this
    simpa using this
/-- One pair more. -/
theorem run_append_s (hu : Tryd.prog.underlying L = some (.slice T)) (hin : (Tryd.prog.info? T).map (fun i => (i.zero, i.size, i.bytes)) = some (some (.agg ((entL zD zD).map (Value.int .u8)).toArray), 64, 64)) (ty : TypeId) (hown : OwnS T w base v es) {b : Nat} {x : List Int × List Int} {U : TypeId} (hk : Blk w b ((entL x.1 x.2).map (Value.int .u8)).toArray U) (hx : Dg x.1 ∧ Dg x.2) (hb : es.length ≤ 1000000000000) (hbase : base ≤ w.heap.size) :
    ∃ v' w', (Builtin.append_ #[L, L] ty #[v, .slice (some ⟨b, 0, none⟩) 1 1]).run Tryd.prog w = .ok v' w' ∧ OwnS T w' base v' (es ++ [x]) ∧ w.grownBy w' v.ownBlock := by
  obtain ⟨i0, hi, hz0, hz1, hz2⟩ := info_parts hin
  obtain ⟨v', w', h1, h2, h3, _⟩ := run_append_own (P := Tryd.prog) w base L ty T i0 (.agg ((entL zD zD).map (Value.int .u8)).toArray) 64 64 hu hi hz0 hz1 hz2 (two_size Dg.zero Dg.zero) (by omega) v es.length _ hown.row ⟨b, 0, none⟩ 1 1 ((entL x.1 x.2).map (Value.int .u8)) (by rw [List.length_map, ent_len hx.1 hx.2, Nat.one_mul]) (news_blk hk) (fun u hu => by
    simp only [List.mem_map] at hu
    obtain ⟨_, _, rfl⟩ := hu
    rfl) (by unfold maxLen; omega) (by omega) hbase
  refine ⟨v', w', h1, ⟨?_, ?_⟩, h3⟩
  · rw [flatE_snoc, List.map_append, List.length_append]
    exact h2
  · intro d hd
    rcases List.mem_append.1 hd with h | h
    · exact hown.each d h
    · simp only [List.mem_singleton] at h
      rw [h]; exact hx
end
theorem st_butIn {S : List Nat} {w : World} (obj : Obj) (hS : ∀ s ∈ S, s < w.heap.size) : FlowB.St (FlowB.ButIn S) w obj := fun w1 w2 b _ h2 hb h => by
  have hlt : b < w1.heap.size := (Array.getElem?_eq_some_iff.1 h).1
  rw [h2.block b hlt (fun hc => by have := hS b hc; omega)]
  exact h
theorem butIn_grown {w w' : World} {v : Value} (h : w.grownBy w' v.ownBlock) : FlowB.ButIn v.ownBlock.toList w w' :=
  ⟨h.os, h.tape, h.output, h.size, fun k hk hc => h.block k hk (fun e => hc (by rw [← e]; simp))⟩
/-- An entry's place, and what stands there. -/
def leafP (x : List Int × List Int) : List Int × List Int := (x.1, leafE x.1 x.2)
theorem info_rent : (Tryd.prog.info? 31).map (fun i => (i.zero, i.size, i.bytes)) = some (some (.agg ((entL zD zD).map (Value.int .u8)).toArray), 64, 64) := by kernel_rfl
theorem info_spot : (Tryd.prog.info? 84).map (fun i => (i.zero, i.size, i.bytes)) = some (some (.agg ((entL zD zD).map (Value.int .u8)).toArray), 64, 64) := by kernel_rfl
theorem size_rent : (Tryd.prog.info? 31).map (·.size) = some 64 := by kernel_rfl
theorem size_spot : (Tryd.prog.info? 84).map (·.size) = some 64 := by kernel_rfl
set_option maxRecDepth 100000 in
theorem run_build_pair (T L : TypeId) (hu : Tryd.prog.underlying L = some (.slice T)) (hz : ∀ w, (sizeOf T).run Tryd.prog w = .ok 64 w) (hv : ∀ w, (zeroValue T).run Tryd.prog w = .ok (.agg ((entL zD zD).map (Value.int .u8)).toArray) w) {x : List Int × List Int} (hx : Dg x.1 ∧ Dg x.2) (w : World) : (Instr.buildSlice L 1 #[(0, .agg ((entL x.1 x.2).map (Value.int .u8)).toArray)]).run Tryd.prog w = .ok (.slice (some ⟨w.heap.size, 0, none⟩) 1 1) (w.alloc (.cells ((entL x.1 x.2).map (Value.int .u8)).toArray T (0, 0))) := by
  have hf : ∀ zs : Array Value, zs.size = 64 → Instr.fill (fun i => some (i * 64, 64)) zs [(0, .agg ((entL x.1 x.2).map (Value.int .u8)).toArray)] = some ((entL x.1 x.2).map (Value.int .u8)).toArray := fun zs hz => by
    have hs : (Value.agg ((entL x.1 x.2).map (Value.int .u8)).toArray).cells.size = 64 := two_size hx.1 hx.2
    rw [fill_part _ _ 0 0 _ _ (by rw [hs]) (by rw [hs, hz]; omega), Instr.fill]
    congr 1
    show (splice zs.toList 0 (((entL x.1 x.2).map (Value.int .u8)).toArray).toList).toArray = _
    unfold splice
    rw [List.take_zero, List.nil_append, List.drop_eq_nil_of_le (by rw [Array.length_toList, Array.length_toList, hz, two_size hx.1 hx.2]; omega), List.append_nil]
  unfold Instr.buildSlice
  simp only [Sem.run_bind, run_underlying hu, Result.andThen_ok, hz]
  rw [if_neg (by decide), if_neg (by decide)]
  simp only [Sem.run_bind, Sem.run_pure, Result.andThen_ok, hv]
  rw [hf _ (by rw [Array.size_map, Array.size_range])]
  simp [newRow]
theorem exec_build_pair {o : Oper} {A : Act} {w : World} {e : Operand} (T L : TypeId) (hu : Tryd.prog.underlying L = some (.slice T)) (hz : ∀ w, (sizeOf T).run Tryd.prog w = .ok 64 w) (hv : ∀ w, (zeroValue T).run Tryd.prog w = .ok (.agg ((entL zD zD).map (Value.int .u8)).toArray) w) (ho : o.op = .buildSlice L 1 #[(0, e)]) {x : List Int × List Int} (he : A.eval e = .agg ((entL x.1 x.2).map (Value.int .u8)).toArray) (hx : Dg x.1 ∧ Dg x.2) :
    (execOp A.eval o).run Tryd.prog w = .ok (.value (.slice (some ⟨w.heap.size, 0, none⟩) 1 1)) (w.alloc (.cells ((entL x.1 x.2).map (Value.int .u8)).toArray T (0, 0))) := by
  unfold execOp
  simp only [ho, List.map_toArray, List.map_cons, List.map_nil, he, Sem.run_bind, run_build_pair T L hu hz hv hx, Result.andThen_ok, Sem.run_pure]
theorem range_front {a b : List Int} (_ha : Dg a) {w : World} {x o : Nat} (h : w.rangeAt x o ((entL a b).map (Value.int .u8))) : w.rangeAt x o (a.map (Value.int .u8)) := fun j v hv => h j v (by
  have hj : j < a.length := by have := (List.getElem?_eq_some_iff.1 hv).1; simpa using this
  rw [entL, List.map_append, List.getElem?_append_left (by rw [List.length_map]; exact hj)]
  exact hv)
theorem range_back {a b : List Int} (ha : Dg a) {w : World} {x o : Nat} (h : w.rangeAt x o ((entL a b).map (Value.int .u8))) : w.rangeAt x (o + 32) (b.map (Value.int .u8)) := fun j v hv => by
  rw [show o + 32 + j = o + (32 + j) by omega]
  refine h (32 + j) v ?_
  rw [entL, List.map_append, List.getElem?_append_right (by rw [List.length_map, ha.len]; omega), List.length_map, ha.len, Nat.add_sub_cancel_left]
  exact hv
theorem quiet_build_pair {op : Oper} {a : Act} {C : World → Prop} {K : Act → Prop} (T : TypeId) (x y : Operand) (ho : op.op = .build T #[(0, x), (1, y)]) (u v r : Value) (hx : a.eval x = u) (hy : a.eval y = v) (hr : ∀ w', (Instr.build T #[(0, u), (1, v)]).run Tryd.prog w' = .ok r w') (h : K (a.put op.dst r)) : op.quiet Tryd.prog a C K :=
  ⟨r, fun w' _ => by
    unfold Oper.quietAt execOp
    simp only [ho, List.map_toArray, List.map_cons, List.map_nil, hx, hy, Sem.run_bind, hr w', Result.andThen_ok, Sem.run_pure]
    simp [Oper.quietUpon], h⟩
set_option maxRecDepth 100000 in
theorem build_spot {a b : List Int} (ha : Dg a) (hb : Dg b) (w : World) : (Instr.build 84 #[(0, .agg (a.map (Value.int .u8)).toArray), (1, .agg (b.map (Value.int .u8)).toArray)]).run Tryd.prog w = .ok (.agg ((entL a b).map (Value.int .u8)).toArray) w := by
  refine run_build w _ _ _ ?_
  obtain ⟨i0, hi, hz0⟩ := Option.map_eq_some_iff.1 (show (Tryd.prog.info? 84).map (·.zero) = some (some (.agg ((entL zD zD).map (Value.int .u8)).toArray)) by kernel_rfl)
  obtain ⟨fields, hu, hq⟩ : ∃ fields, Tryd.prog.underlying 84 = some (.struct fields) ∧ fields.toList.mapM (fun f => (Tryd.prog.info? f.type).map fun i => (f.offset, i.size)) = some [(0, 32), (32, 32)] := ⟨_, Tryd.underlying84, by kernel_rfl⟩
  have hz : (Value.agg ((entL zD zD).map (Value.int .u8)).toArray).cells = ((entL zD zD).map (Value.int .u8)).toArray := rfl
  unfold Program.built
  simp only [hi, hu, hz0, hq, hz]
  have hs0 : (Value.agg (a.map (Value.int .u8)).toArray).cells.size = 32 := ha.size
  have hs1 : (Value.agg (b.map (Value.int .u8)).toArray).cells.size = 32 := hb.size
  have t0 : splice (((entL zD zD).map (Value.int .u8)).toArray).toList 0 (Value.agg (a.map (Value.int .u8)).toArray).cells.toList = (entL a zD).map (Value.int .u8) := by
    show splice ((entL zD zD).map (Value.int .u8)) 0 (a.map (Value.int .u8)) = _
    unfold splice entL
    rw [List.take_zero, List.nil_append, List.length_map, ha.len, List.map_append, List.drop_append_of_le_length (by rw [List.length_map, Dg.zero.len]; omega), List.drop_eq_nil_of_le (by rw [List.length_map, Dg.zero.len]; omega), List.nil_append, List.map_append]
  have t1 : splice ((entL a zD).map (Value.int .u8)) 32 (Value.agg (b.map (Value.int .u8)).toArray).cells.toList = (entL a b).map (Value.int .u8) := by
    show splice ((entL a zD).map (Value.int .u8)) 32 (b.map (Value.int .u8)) = _
    unfold splice entL
    rw [List.map_append, List.take_append_of_le_length (by rw [List.length_map, ha.len]; omega), List.take_of_length_le (by rw [List.length_map, ha.len]; omega), List.length_map, hb.len, List.drop_eq_nil_of_le (by simp [ha.len, Dg.zero.len]), List.append_nil, List.map_append]
  rw [fill_part _ _ 0 0 _ _ (by rw [hs0]; rfl) (by rw [hs0, two_size Dg.zero Dg.zero]; omega), t0]
  rw [fill_part _ _ 1 32 _ _ (by rw [hs1]; rfl) (by rw [hs1, two_size ha Dg.zero]; omega), List.toList_toArray, t1, Instr.fill]
set_option maxHeartbeats 4000000 in
set_option maxRecDepth 100000 in
theorem as_any (a : Option Addr) (len cap : Nat) (es : List (List Int × List Int)) (w : World) (hE : EntsAt w a len cap es) (hmx : len ≤ 300) :
    Calls Tryd.prog 24 #[.slice a len cap] w fun e w' => ∃ v, e = .returned v ∧ OwnS 31 w' w.heap.size v es ∧ Below w.heap.size w w' := by
  have HE := hid hE
  have Hb := hid (Below.refl w.heap.size w)
  clear hE
  go_enter Tryd.func24, Tryd.ntmps24
  go_wp2_with fail
  go_loopw [3, 4] (fun ov kv wr => ∃ k : Nat, k ≤ len ∧ kv = .int .i64 k ∧ OwnS 31 wr w.heap.size ov (es.take k) ∧ Below w.heap.size w wr) (fun _ kv _ => len - (intOf kv).toNat)
  case atStart => exact ⟨0, Nat.zero_le _, rfl, OwnS.nil _ _ _, Hb.out⟩
  case round =>
    obtain ⟨k, hk, rfl, ho, bel⟩ := hrel
    have HO := hid ho
    have HBwr := hid bel
    have hswr := bel.size
    have hol := ho.lt
    have hlen := HE.out.length
    have hokl : (es.take k).length ≤ 300 := by rw [List.length_take]; omega
    clear ho bel
    by_cases hcj : k < len
    · skip
      have hcI : (k : Int) < (len : Int) := by omega
      have hwr : wrap64 ((k : Int) + 1) = (k : Int) + 1 := by unfold wrap64; omega
      obtain ⟨x, o, rfl, hx, hc⟩ := HE.out.at_ (by omega)
      have hRg := hc k hcj
      have hme : es.getD k ([], []) ∈ es := by rw [List.getD_eq_getElem?_getD, List.getElem?_eq_getElem (by omega)]; exact List.getElem_mem _
      have htk : es.take (k + 1) = es.take k ++ [es.getD k ([], [])] := by rw [List.take_add_one, List.getD_eq_getElem?_getD, List.getElem?_eq_getElem (by omega)]; rfl
      have hdx := HE.out.each _ hme
      have HTK := hid htk
      have HOL := hid hol
      generalize es.getD k ([], []) = z at *
      obtain ⟨d, c⟩ := z
      have HDd := hid hdx.1
      have HDc := hid hdx.2
      dsimp only at HDd HDc hRg
      have HRa := hid (range_front HDd.out hRg)
      have HRb := hid (range_back HDd.out hRg)
      have HRw := hid hRg
      have HS := hid (show ∀ s ∈ u3.ownBlock.toList, s < wr.heap.size by
        intro s hs
        rw [Option.mem_toList] at hs
        exact (hol s hs).2)
      clear hc hme htk hdx hRg
      go_wp2_with fail
      refine FlowB.wp_region_butIn u3.ownBlock.toList (fun wz => OwnS 31 wz w.heap.size u3 (es.take k)) 14 [0, 1, 2, 3, 4, 5, 6, 7, 8, 9, 10, 11] [12] [(.b 12, [], []), (.c 13, [], [])] (by kernel_rfl) (by kernel_rfl) HO.out (fun _ _ h hb => h.below hb) ?_
      apply Exists.intro
      refine ⟨fun w0 hb0 hF0 => ?_, ?_⟩
      · skip
        have hb1 : Below w.heap.size w w0 := hb0.below HBwr.out hswr (by intro s hs; rw [Option.mem_toList] at hs; exact (HOL.out s hs).1)
        have xa : ∀ w', (∃ x : Ext w0, w' = x.at_) → w'.rangeAt x (o + k * 64) (d.map (Value.int .u8)) := fun w' ⟨y, hy⟩ => hy ▸ rangeAt_belowB HRa.out hx (Below.on hb1 y.same)
        have xb : ∀ w', (∃ x : Ext w0, w' = x.at_) → w'.rangeAt x (o + k * 64 + 32) (c.map (Value.int .u8)) := fun w' ⟨y, hy⟩ => hy ▸ rangeAt_belowB HRb.out hx (Below.on hb1 y.same)
        skip
        simp only [pick, List.getElem?_toArray, List.getElem?_cons_succ, List.getElem?_cons_zero, Option.toList_some, List.cons_append, List.nil_append]
        repeat (first | (go_big_quiet_want; refine quiet_index_k 36 _ _ rfl Tryd.underlying36 size_entry x o len cap rfl _ _ rfl k rfl (by omega) ?_; go_big_quiet_on; simp only [Act.put, List.setIfInBounds_toArray, List.set_cons_zero, List.set_cons_succ]) | (go_big_quiet_want; refine quiet_load_mid 23 _ rfl x (o + k * 64) rfl _ xa _ Tryd.underlying23 rfl (by rw [List.length_map, HDd.out.len]; exact size_digest) ?_; go_big_quiet_on; simp only [Act.put, List.setIfInBounds_toArray, List.set_cons_zero, List.set_cons_succ]) | (go_big_quiet_want; refine quiet_load_mid 23 _ rfl x (o + k * 64 + 32) rfl _ xb _ Tryd.underlying23 rfl (by rw [List.length_map, HDc.out.len]; exact size_digest) ?_; go_big_quiet_on; simp only [Act.put, List.setIfInBounds_toArray, List.set_cons_zero, List.set_cons_succ]) | (go_big_quiet_want; refine quiet_build_pair 31 _ _ rfl (.agg (d.map (Value.int .u8)).toArray) (.agg (c.map (Value.int .u8)).toArray) (.agg ((entL d c).map (Value.int .u8)).toArray) rfl rfl (fun W => build_ent HDd.out HDc.out W) ?_; go_big_quiet_on; simp only [Act.put, List.setIfInBounds_toArray, List.set_cons_zero, List.set_cons_succ]) | go_big_quiet_step (fail))
        exact wpQuiet_nil rfl
      refine FlowB.AlChk.one rfl (fun b => .slice (some ⟨b, 0, none⟩) 1 1) (.cells ((entL (d, c).1 (d, c).2).map (Value.int .u8)).toArray 31 (0, 0)) rfl (st_butIn _ HS.out) (fun w2 hb2 hF2 => exec_build_pair 31 41 Tryd.underlying41 Tryd.sizeOf31 Tryd.zeroValue31 rfl (x := (d, c)) rfl ⟨HDd.out, HDc.out⟩) ?_
      refine FlowB.AlChk.nil ?_
      refine FlowB.Walk.blk rfl (fun b => .slice (some ⟨b, 0, none⟩) 1 1) (.cells ((entL (d, c).1 (d, c).2).map (Value.int .u8)).toArray 31 (0, 0)) (by simp) ?_
      intro bi w5 hb5 hF5 hge5 _
      apply Exists.intro
      refine ⟨fun w4 hb4 hF4 => wpQuiet_nil rfl, ?_⟩
      refine FlowB.AlChk.nil ?_
      refine FlowB.Walk.does rfl (fun _ _ => True) (fun v w' => OwnS 31 w' w.heap.size v ((es.take k) ++ [(d, c)])) (fun _ _ _ _ h _ => h) (fun v w' w'' h k => h.below k) rfl (fun q1 hb1 hF1 hG1 => ?_) ?_
      · have kb : Blk q1 bi ((entL (d, c).1 (d, c).2).map (Value.int .u8)).toArray 31 := hF1.2
        obtain ⟨v', w', hr, ho', hg⟩ := run_append_s (L := 41) Tryd.underlying41 info_rent 41 hG1 kb ⟨HDd.out, HDc.out⟩ (by omega) (Nat.le_trans hswr hb1.size)
        exact ⟨v', w', FlowB.exec_append rfl rfl rfl hr, butIn_grown hg, trivial, ho'⟩
      rintro v1 q1 hb1 hF1 _
      apply Exists.intro
      refine ⟨fun w4 hb4 hF4 => wpQuiet_nil rfl, ?_⟩
      refine FlowB.AlChk.nil ?_
      refine FlowB.Walk.fin fun w9 h9 _ hG9 => ?_
      simp only [List.drop_succ_cons, List.drop_zero]
      have HB9 := hid (h9.below HBwr.out hswr (by intro s hs; rw [Option.mem_toList] at hs; exact (HOL.out s hs).1))
      have HG9 := hid hG9
      clear h9 hG9
      go_wp2_with fail
      exact ⟨⟨k + 1, by omega, by first | rfl | simp, by rw [HTK.out]; exact HG9.out, HB9.out⟩, by simp [intOf]; omega⟩
    · skip
      have hke : k = len := by omega
      subst hke
      have hcI : ¬ (k : Int) < (k : Int) := by omega
      have hta : es.take k = es := List.take_of_length_le (by omega)
      rw [hta] at HO
      clear hta hol hokl
      go_wp2_with fail
      go_returns
      exact ⟨_, rfl, HO.out, HBwr.out⟩
set_option maxHeartbeats 4000000 in
set_option maxRecDepth 100000 in
theorem row_any (a : Option Addr) (len cap : Nat) (es : List (List Int × List Int)) (w : World) (hE : EntsAt w a len cap es) (hmx : len ≤ 300) :
    Calls Tryd.prog 51 #[.slice a len cap] w fun e w' => ∃ v, e = .returned v ∧ OwnS 84 w' w.heap.size v (es.map leafP) ∧ Below w.heap.size w w' := by
  have HE := hid hE
  have Hb := hid (Below.refl w.heap.size w)
  clear hE
  go_enter Tryd.func51, Tryd.ntmps51
  go_wp2_with fail
  go_loopw [3, 4] (fun ov kv wr => ∃ k : Nat, k ≤ len ∧ kv = .int .i64 k ∧ OwnS 84 wr w.heap.size ov ((es.take k).map leafP) ∧ Below w.heap.size w wr) (fun _ kv _ => len - (intOf kv).toNat)
  case atStart => exact ⟨0, Nat.zero_le _, rfl, OwnS.nil _ _ _, Hb.out⟩
  case round =>
    obtain ⟨k, hk, rfl, ho, bel⟩ := hrel
    have HO := hid ho
    have HBwr := hid bel
    have hswr := bel.size
    have hol := ho.lt
    have hlen := HE.out.length
    have hokl : ((es.take k).map leafP).length ≤ 300 := by rw [List.length_map, List.length_take]; omega
    clear ho bel
    by_cases hcj : k < len
    · skip
      have hcI : (k : Int) < (len : Int) := by omega
      have hwr : wrap64 ((k : Int) + 1) = (k : Int) + 1 := by unfold wrap64; omega
      obtain ⟨x, o, rfl, hx, hc⟩ := HE.out.at_ (by omega)
      have hRg := hc k hcj
      have hme : es.getD k ([], []) ∈ es := by rw [List.getD_eq_getElem?_getD, List.getElem?_eq_getElem (by omega)]; exact List.getElem_mem _
      have htk : es.take (k + 1) = es.take k ++ [es.getD k ([], [])] := by rw [List.take_add_one, List.getD_eq_getElem?_getD, List.getElem?_eq_getElem (by omega)]; rfl
      have hdx := HE.out.each _ hme
      have HTK := hid htk
      have HOL := hid hol
      generalize es.getD k ([], []) = z at *
      obtain ⟨d, c⟩ := z
      have HDd := hid hdx.1
      have HDc := hid hdx.2
      dsimp only at HDd HDc hRg
      have HRa := hid (range_front HDd.out hRg)
      have HRb := hid (range_back HDd.out hRg)
      have HRw := hid hRg
      have HS := hid (show ∀ s ∈ u3.ownBlock.toList, s < wr.heap.size by
        intro s hs
        rw [Option.mem_toList] at hs
        exact (hol s hs).2)
      clear hc hme htk hdx hRg
      go_wp2_with fail
      have CL := hid (fun W : World => refleafE_any d c W HDd.out HDc.out)
      have HLf := hid (Dg.leafE d c)
      have HRT := hid (show ([(d, c)] : List (List Int × List Int)).map leafP = [(d, leafE d c)] from rfl)
      refine FlowB.wp_region_butIn u3.ownBlock.toList (fun wz => OwnS 84 wz w.heap.size u3 ((es.take k).map leafP)) 14 [0, 1, 2, 3, 4, 5, 6, 7, 8, 9, 10, 11] [12] [(.b 12, [], []), (.c 13, [], [])] (by kernel_rfl) (by kernel_rfl) HO.out (fun _ _ h hb => h.below hb) ?_
      apply Exists.intro
      refine ⟨fun w0 hb0 hF0 => ?_, ?_⟩
      · skip
        have hb1 : Below w.heap.size w w0 := hb0.below HBwr.out hswr (by intro s hs; rw [Option.mem_toList] at hs; exact (HOL.out s hs).1)
        have xa : ∀ w', (∃ x : Ext w0, w' = x.at_) → w'.rangeAt x (o + k * 64) (d.map (Value.int .u8)) := fun w' ⟨y, hy⟩ => hy ▸ rangeAt_belowB HRa.out hx (Below.on hb1 y.same)
        have xw : ∀ w', (∃ x : Ext w0, w' = x.at_) → w'.rangeAt x (o + k * 64) ((entL d c).map (Value.int .u8)) := fun w' ⟨y, hy⟩ => hy ▸ rangeAt_belowB HRw.out hx (Below.on hb1 y.same)
        have c0 := fun e : Ext w0 => CL.out e.at_
        simp only [pick, List.getElem?_toArray, List.getElem?_cons_succ, List.getElem?_cons_zero, Option.toList_some, List.cons_append, List.nil_append]
        repeat (first | (go_big_quiet_want; refine quiet_index_k 41 _ _ rfl Tryd.underlying41 size_rent x o len cap rfl _ _ rfl k rfl (by omega) ?_; go_big_quiet_on; simp only [Act.put, List.setIfInBounds_toArray, List.set_cons_zero, List.set_cons_succ]) | (go_big_quiet_want; refine quiet_load_mid 23 _ rfl x (o + k * 64) rfl _ xa _ Tryd.underlying23 rfl (by rw [List.length_map, HDd.out.len]; exact size_digest) ?_; go_big_quiet_on; simp only [Act.put, List.setIfInBounds_toArray, List.set_cons_zero, List.set_cons_succ]) | (go_big_quiet_want; refine quiet_load_mid 31 _ rfl x (o + k * 64) rfl _ xw _ Tryd.underlying31 rfl (by rw [List.length_map, ent_len HDd.out HDc.out]; exact size_rent) ?_; go_big_quiet_on; simp only [Act.put, List.setIfInBounds_toArray, List.set_cons_zero, List.set_cons_succ]) | (go_big_quiet_want; refine quiet_build_pair 84 _ _ rfl (.agg (d.map (Value.int .u8)).toArray) (.agg ((leafE d c).map (Value.int .u8)).toArray) (.agg ((entL d (leafE d c)).map (Value.int .u8)).toArray) rfl rfl (fun W => build_spot HDd.out HLf.out W) ?_; go_big_quiet_on; simp only [Act.put, List.setIfInBounds_toArray, List.set_cons_zero, List.set_cons_succ]) | go_big_quiet_step (first | (go_at_call 16; with_reducible exact Calls.ext (c0 _))))
        exact wpQuiet_nil rfl
      refine FlowB.AlChk.one rfl (fun b => .slice (some ⟨b, 0, none⟩) 1 1) (.cells ((entL (d, leafE d c).1 (d, leafE d c).2).map (Value.int .u8)).toArray 84 (0, 0)) rfl (st_butIn _ HS.out) (fun w2 hb2 hF2 => exec_build_pair 84 80 Tryd.underlying80 Tryd.sizeOf84 Tryd.zeroValue84 rfl (x := (d, leafE d c)) rfl ⟨HDd.out, HLf.out⟩) ?_
      refine FlowB.AlChk.nil ?_
      refine FlowB.Walk.blk rfl (fun b => .slice (some ⟨b, 0, none⟩) 1 1) (.cells ((entL (d, leafE d c).1 (d, leafE d c).2).map (Value.int .u8)).toArray 84 (0, 0)) (by simp) ?_
      intro bi w5 hb5 hF5 hge5 _
      apply Exists.intro
      refine ⟨fun w4 hb4 hF4 => wpQuiet_nil rfl, ?_⟩
      refine FlowB.AlChk.nil ?_
      refine FlowB.Walk.does rfl (fun _ _ => True) (fun v w' => OwnS 84 w' w.heap.size v (((es.take k).map leafP) ++ [(d, leafE d c)])) (fun _ _ _ _ h _ => h) (fun v w' w'' h k => h.below k) rfl (fun q1 hb1 hF1 hG1 => ?_) ?_
      · have kb : Blk q1 bi ((entL (d, leafE d c).1 (d, leafE d c).2).map (Value.int .u8)).toArray 84 := hF1.2
        obtain ⟨v', w', hr, ho', hg⟩ := run_append_s (L := 80) Tryd.underlying80 info_spot 80 hG1 kb ⟨HDd.out, HLf.out⟩ (by omega) (Nat.le_trans hswr hb1.size)
        exact ⟨v', w', FlowB.exec_append rfl rfl rfl hr, butIn_grown hg, trivial, ho'⟩
      rintro v1 q1 hb1 hF1 _
      apply Exists.intro
      refine ⟨fun w4 hb4 hF4 => wpQuiet_nil rfl, ?_⟩
      refine FlowB.AlChk.nil ?_
      refine FlowB.Walk.fin fun w9 h9 _ hG9 => ?_
      simp only [List.drop_succ_cons, List.drop_zero]
      have HB9 := hid (h9.below HBwr.out hswr (by intro s hs; rw [Option.mem_toList] at hs; exact (HOL.out s hs).1))
      have HG9 := hid hG9
      clear h9 hG9
      go_wp2_with fail
      exact ⟨⟨k + 1, by omega, by first | rfl | simp, by rw [HTK.out, List.map_append, HRT.out]; exact HG9.out, HB9.out⟩, by simp [intOf]; omega⟩
    · skip
      have hke : k = len := by omega
      subst hke
      have hcI : ¬ (k : Int) < (k : Int) := by omega
      have hta : es.take k = es := List.take_of_length_le (by omega)
      rw [hta] at HO
      clear hta hol hokl
      go_wp2_with fail
      go_returns
      exact ⟨_, rfl, HO.out, HBwr.out⟩
end Go.Proofs.YthaicocfbmpnmaaDoor

namespace Go.Proofs.YthaicocfbmpnmaaDoor
open Go.ChangeShapes Go.WideShapes Go.ChangeAt Go.RowKit

/-- The place beside one. -/
def besideL (d : List Int) : List Int := d.set 31 (if d.getD 31 0 % 2 = 0 then d.getD 31 0 + 1 else d.getD 31 0 - 1)
theorem Dg.beside {d : List Int} (h : Dg d) : Dg (besideL d) := ⟨by unfold besideL; rw [List.length_set, h.len], fun x hx => by
  have h31 := dg_at h 31
  rcases List.mem_or_eq_of_mem_set hx with hx | rfl
  · exact h.small x hx
  · split <;> omega⟩
/-- What stands at a place. -/
def findP (S : List (List Int × List Int)) (p : List Int) : List Int × Bool := match S.find? fun y => decide (y.1 = p) with | some y => (y.2, true) | none => (zD, false)
theorem findP_at {S : List (List Int × List Int)} {p : List Int} {j : Nat} (hj : j < S.length) (h0 : ∀ i, i < j → (S.getD i ([], [])).1 ≠ p) (h1 : (S.getD j ([], [])).1 = p) : findP S p = ((S.getD j ([], [])).2, true) := by
  induction S generalizing j with
  | nil => simp at hj
  | cons y l ih =>
    cases j with
    | zero =>
      rw [List.getD_cons_zero] at h1 ⊢
      unfold findP
      rw [List.find?_cons_of_pos (by simpa using h1)]
    | succ j =>
      have hy := h0 0 (by omega)
      rw [List.getD_cons_zero] at hy
      rw [List.getD_cons_succ] at h1 ⊢
      have h2 := ih (by simpa using hj) (fun i hi => by have := h0 (i + 1) (by omega); rwa [List.getD_cons_succ] at this) h1
      unfold findP at h2 ⊢
      rw [List.find?_cons_of_neg (by simpa using hy)]
      exact h2
theorem findP_none {S : List (List Int × List Int)} {p : List Int} (h0 : ∀ i, i < S.length → (S.getD i ([], [])).1 ≠ p) : findP S p = (zD, false) := by
  unfold findP
  rw [List.find?_eq_none.2 (fun x hx => by
    obtain ⟨i, hi, rfl⟩ := List.mem_iff_getElem.1 hx
    have := h0 i hi
    rw [List.getD_eq_getElem?_getD, List.getElem?_eq_getElem hi] at this
    simpa using this)]
theorem Dg.find {S : List (List Int × List Int)} (hS : ∀ x ∈ S, Dg x.1 ∧ Dg x.2) (p : List Int) : Dg (findP S p).1 := by
  unfold findP
  split
  · rename_i y hy
    exact (hS y (List.mem_of_find?_eq_some hy)).2
  · exact Dg.zero
set_option maxHeartbeats 4000000 in
set_option maxRecDepth 100000 in
theorem beside_any (d : List Int) (w : World) (hd : Dg d) :
    Calls Tryd.prog 56 #[.agg (d.map (Value.int .u8)).toArray] w fun e w' => e = .returned (.agg ((besideL d).map (Value.int .u8)).toArray) ∧ Below w.heap.size w w' := by
  have hxx := dg_at hd 31
  have hlen := hd.len
  have hgd : d[31]'(by omega) = d.getD 31 0 := by rw [List.getD_eq_getElem?_getD, List.getElem?_eq_getElem (by omega)]; rfl
  have HBD := hid (show besideL d = d.set 31 (if d.getD 31 0 % 2 = 0 then d.getD 31 0 + 1 else d.getD 31 0 - 1) from rfl)
  have HDB := hid (Dg.beside hd)
  generalize besideL d = bd at *
  generalize d.getD 31 0 = x at *
  by_cases hq : x % 2 = 0
  · skip
    have hw8 : (x + 1) % 256 = x + 1 := by omega
    rw [if_pos hq] at HBD
    have hm : x.tmod 2 = 0 := by rw [Int.tmod_eq_emod_of_nonneg hxx.1]; omega
    have hbl : (d.map (Value.int .u8)).set 31 (.int .u8 (x + 1)) = bd.map (Value.int .u8) := by rw [HBD.out, List.map_set]
    have b1 := (Below.refl w.heap.size w).alloc (Nat.le_refl _) (.cells (bd.map (Value.int .u8)).toArray 23 (0, 0))
    have b2 := b1.alloc b1.size (.cells (byteCells 32 []) 23 (0, 0))
    have Kd := hid ((Blk.new (w := w) (n := w.heap.size) rfl (bd.map (Value.int .u8)).toArray 23).old (.cells (byteCells 32 []) 23 (0, 0)))
    have Kr := hid (Blk.new (w := (w.alloc (.cells (bd.map (Value.int .u8)).toArray 23 (0, 0)))) (n := w.heap.size + 1) (by simp only [World.size_alloc]) (byteCells 32 []) 23)
    have Hb := hid b2
    have hbz := b2.size
    have Hbs := hid (show w.heap.size + 1 + 1 = ((w.alloc (.cells (bd.map (Value.int .u8)).toArray 23 (0, 0))).alloc (.cells (byteCells 32 []) 23 (0, 0))).heap.size by simp only [World.size_alloc])
    clear b1 b2 
    clear hxx hq
    go_enter Tryd.func56, Tryd.ntmps56
    go_wp2_with (first
       | (refine wpList_load_blk rfl 23 _ rfl (w.heap.size) rfl _ 23 Kd.out _ Tryd.underlying23 rfl 32 size_digest HDB.out.size ?_)
       | (
        refine wpList_store_blk rfl 23 _ _ rfl (w.heap.size + 1) (bd.map (Value.int .u8)).toArray rfl rfl _ 23 Kr.out 32 size_digest zsize HDB.out.size (ints_one _ _) ?_
        intro w9 hb9 hk9
        have HB9 := hid (hb9.below Hb.out Hb.out.size (by omega))
        have HK9 := hid hk9
        clear hb9 hk9))
    exact bodyPost_ret (v := .agg (bd.map (Value.int .u8)).toArray) (results_blk Tryd.results56 _ (w.heap.size + 1) rfl _ 23 HK9.out _ Tryd.underlying23 rfl 32 size_digest HDB.out.size) rfl ⟨rfl, HB9.out⟩
  · skip
    have hw8 : (x - 1) % 256 = x - 1 := by omega
    rw [if_neg hq] at HBD
    have hm : x.tmod 2 = 1 := by rw [Int.tmod_eq_emod_of_nonneg hxx.1]; omega
    have hbl : (d.map (Value.int .u8)).set 31 (.int .u8 (x - 1)) = bd.map (Value.int .u8) := by rw [HBD.out, List.map_set]
    have b1 := (Below.refl w.heap.size w).alloc (Nat.le_refl _) (.cells (bd.map (Value.int .u8)).toArray 23 (0, 0))
    have b2 := b1.alloc b1.size (.cells (byteCells 32 []) 23 (0, 0))
    have Kd := hid ((Blk.new (w := w) (n := w.heap.size) rfl (bd.map (Value.int .u8)).toArray 23).old (.cells (byteCells 32 []) 23 (0, 0)))
    have Kr := hid (Blk.new (w := (w.alloc (.cells (bd.map (Value.int .u8)).toArray 23 (0, 0)))) (n := w.heap.size + 1) (by simp only [World.size_alloc]) (byteCells 32 []) 23)
    have Hb := hid b2
    have hbz := b2.size
    have Hbs := hid (show w.heap.size + 1 + 1 = ((w.alloc (.cells (bd.map (Value.int .u8)).toArray 23 (0, 0))).alloc (.cells (byteCells 32 []) 23 (0, 0))).heap.size by simp only [World.size_alloc])
    clear b1 b2 
    clear hxx hq
    go_enter Tryd.func56, Tryd.ntmps56
    go_wp2_with (first
       | (refine wpList_load_blk rfl 23 _ rfl (w.heap.size) rfl _ 23 Kd.out _ Tryd.underlying23 rfl 32 size_digest HDB.out.size ?_)
       | (
        refine wpList_store_blk rfl 23 _ _ rfl (w.heap.size + 1) (bd.map (Value.int .u8)).toArray rfl rfl _ 23 Kr.out 32 size_digest zsize HDB.out.size (ints_one _ _) ?_
        intro w9 hb9 hk9
        have HB9 := hid (hb9.below Hb.out Hb.out.size (by omega))
        have HK9 := hid hk9
        clear hb9 hk9))
    exact bodyPost_ret (v := .agg (bd.map (Value.int .u8)).toArray) (results_blk Tryd.results56 _ (w.heap.size + 1) rfl _ 23 HK9.out _ Tryd.underlying23 rfl 32 size_digest HDB.out.size) rfl ⟨rfl, HB9.out⟩
set_option maxHeartbeats 4000000 in
set_option maxRecDepth 100000 in
theorem find_any (a : Option Addr) (len cap : Nat) (S : List (List Int × List Int)) (p : List Int) (w : World) (hE : EntsAt w a len cap S) (hmx : len ≤ 300) (hp : Dg p) :
    Calls Tryd.prog 55 #[.slice a len cap, .agg (p.map (Value.int .u8)).toArray] w fun e w' => e = .returned (.tuple #[.agg ((findP S p).1.map (Value.int .u8)).toArray, .bool (findP S p).2]) ∧ Below w.heap.size w w' := by
  have b1 := (Below.refl w.heap.size w).alloc (Nat.le_refl _) (.cells (p.map (Value.int .u8)).toArray 23 (0, 0))
  have b2 := b1.alloc b1.size (.cells (byteCells 32 []) 23 (0, 0))
  have Kp := hid ((Blk.new (w := w) (n := w.heap.size) rfl (p.map (Value.int .u8)).toArray 23).old (.cells (byteCells 32 []) 23 (0, 0)))
  have Kr := hid (Blk.new (w := (w.alloc (.cells (p.map (Value.int .u8)).toArray 23 (0, 0)))) (n := w.heap.size + 1) (by simp only [World.size_alloc]) (byteCells 32 []) 23)
  have Hb := hid b2
  have hbz := b2.size
  have Hbs := hid (show w.heap.size + 1 + 1 = ((w.alloc (.cells (p.map (Value.int .u8)).toArray 23 (0, 0))).alloc (.cells (byteCells 32 []) 23 (0, 0))).heap.size by simp only [World.size_alloc])
  clear b1 b2 
  have HE := hid (hE.below Hb.out)
  clear hE
  go_enter Tryd.func55, Tryd.ntmps55
  go_wp2_with fail
  go_loopw [6] (fun kv wr => ∃ k : Nat, k ≤ len ∧ kv = .int .i64 k ∧ (∀ i, i < k → (S.getD i ([], [])).1 ≠ p) ∧ Blk wr w.heap.size (p.map (Value.int .u8)).toArray 23 ∧ Blk wr (w.heap.size + 1) (byteCells 32 []) 23 ∧ Below w.heap.size w wr ∧ EntsAt wr a len cap S) (fun kv _ => len - (intOf kv).toNat)
  case atStart => exact ⟨0, Nat.zero_le _, rfl, fun i hi => by omega, Kp.out, Kr.out, Hb.out, HE.out⟩
  case round =>
    obtain ⟨k, hk, rfl, hno, kp, kr, bel, hE⟩ := hrel
    have HBwr := hid bel
    have Kpwr := hid kp
    have Krwr := hid kr
    have HEw := hid hE
    have HNO := hid hno
    have hswr := bel.size
    have hrl := kr.lt
    have hlen := hE.length
    clear bel hno kp kr
    by_cases hcj : k < len
    · skip
      have hcI : (k : Int) < (len : Int) := by omega
      have hwr : wrap64 ((k : Int) + 1) = (k : Int) + 1 := by unfold wrap64; omega
      obtain ⟨x, o, rfl, hx, hc⟩ := hE.at_ (by omega)
      have hRg := hc k hcj
      have hme : S.getD k ([], []) ∈ S := by rw [List.getD_eq_getElem?_getD, List.getElem?_eq_getElem (by omega)]; exact List.getElem_mem _
      have hdx := hE.each _ hme
      have HFA := hid (fun (h : (S.getD k ([], [])).1 = p) => findP_at (S := S) (p := p) (j := k) (by omega) HNO.out h)
      have HNX := hid (fun (h : (S.getD k ([], [])).1 ≠ p) => fun (i : Nat) (hi : i < k + 1) => show (S.getD i ([], [])).1 ≠ p from by
        rcases Nat.lt_succ_iff_lt_or_eq.1 hi with h1 | rfl
        · exact HNO.out i h1
        · exact h)
      generalize S.getD k ([], []) = z at *
      obtain ⟨d, c⟩ := z
      have HDd := hid hdx.1
      have HDc := hid hdx.2
      dsimp only at HDd HDc hRg HFA HNX
      have HRa := hid (range_front HDd.out hRg)
      have HRb := hid (range_back HDd.out hRg)
      clear hc hme hdx hRg hE
      go_wp2_with fail
      have hqq := fun W : World => eqD d p HDd.out.len hp.len W
      by_cases hdp : d = p
      · skip
        rw [decide_eq_true hdp] at hqq
        have HQ := hid hqq
        have HDP := hid hdp
        clear hqq hdp
        refine wp_region_flow 7 (List.range 7) [] [] (by kernel_rfl) (by kernel_rfl) ?_
        apply Exists.intro
        refine ⟨fun w0 hb0 hF0 => ?_, ?_⟩
        · skip
          have x0 : ∀ w', (∃ x : Ext w0, w' = x.at_) → ∃ T, Blk w' (w.heap.size) (p.map (Value.int .u8)).toArray T := fun w' ⟨x, hx⟩ => ⟨_, hx ▸ (Kpwr.out.below hb0).below x.same⟩
          have xa : ∀ w', (∃ x : Ext w0, w' = x.at_) → w'.rangeAt x (o + k * 64) (d.map (Value.int .u8)) := fun w' ⟨y, hy⟩ => hy ▸ rangeAt_belowB HRa.out hx (Below.on hb0 y.same)
          simp only [pick, List.range, List.range.loop, List.getElem?_toArray, List.getElem?_cons_succ, List.getElem?_cons_zero, Option.toList_some, List.cons_append, List.nil_append]
          repeat (first | (go_big_quiet_want; refine quiet_load_blk 23 _ rfl (w.heap.size) rfl _ x0 _ Tryd.underlying23 rfl 32 size_digest hp.size ?_; go_big_quiet_on; simp only [Act.put, List.setIfInBounds_toArray, List.set_cons_zero, List.set_cons_succ]) | (go_big_quiet_want; refine quiet_index_k 80 _ _ rfl Tryd.underlying80 size_spot x o len cap rfl _ _ rfl k rfl (by omega) ?_; go_big_quiet_on; simp only [Act.put, List.setIfInBounds_toArray, List.set_cons_zero, List.set_cons_succ]) | (go_big_quiet_want; refine quiet_load_mid 23 _ rfl x (o + k * 64) rfl _ xa _ Tryd.underlying23 rfl (by rw [List.length_map, HDd.out.len]; exact size_digest) ?_; go_big_quiet_on; simp only [Act.put, List.setIfInBounds_toArray, List.set_cons_zero, List.set_cons_succ]) | (go_big_quiet_want; refine quiet_cmp _ _ rfl _ _ _ rfl rfl HQ.out ?_; go_big_quiet_on; simp only [Act.put, List.setIfInBounds_toArray, List.set_cons_zero, List.set_cons_succ]) | go_big_quiet_step (fail))
          exact wpQuiet_nil rfl
        refine AlChk.nil ?_
        refine Walk.fin fun w31 hw31 _ _ => ?_
        simp only [List.drop_succ_cons, List.drop_zero]
        have Hw31 := hid hw31
        have HBw31 := hid (Below.on HBwr.out hw31)
        have hsw31 := HBw31.out.size
        have Kpw31 := hid (Kpwr.out.below hw31)
        have Krw31 := hid (Krwr.out.below hw31)
        clear hw31
        have HRc := hid (rangeAt_belowB HRb.out hx (show Below wr.heap.size wr w31 from Hw31.out))
        go_wp2_with (first
           | (refine wpList_index_k rfl 80 _ _ rfl Tryd.underlying80 size_spot x o len cap rfl _ _ rfl k rfl (by omega) ?_)
           | (refine wpList_load_mid rfl 23 _ rfl x (o + k * 64 + 32) rfl _ _ HRc.out Tryd.underlying23 rfl (by rw [List.length_map, HDc.out.len]; exact size_digest) ?_)
           | (
            refine wpList_store_blk rfl 23 _ _ rfl (w.heap.size + 1) (c.map (Value.int .u8)).toArray rfl rfl _ 23 Krw31.out 32 size_digest zsize HDc.out.size (ints_one _ _) ?_
            intro w9 hb9 hk9
            have HB9 := hid (hb9.below HBw31.out HBw31.out.size (by omega))
            have HK9 := hid hk9
            clear hb9 hk9))
        exact bodyPost_ret (v := .tuple #[.agg (c.map (Value.int .u8)).toArray, .bool true]) (results_blk_tmp Tryd.results55 _ (w.heap.size + 1) rfl _ rfl _ 23 HK9.out _ Tryd.underlying23 rfl 32 size_digest HDc.out.size) rfl ⟨by rw [HFA.out HDP.out], HB9.out⟩
      · skip
        rw [decide_eq_false hdp] at hqq
        have HQ := hid hqq
        have HDP := hid hdp
        clear hqq hdp
        refine wp_region_flow 7 (List.range 7) [] [] (by kernel_rfl) (by kernel_rfl) ?_
        apply Exists.intro
        refine ⟨fun w0 hb0 hF0 => ?_, ?_⟩
        · skip
          have x0 : ∀ w', (∃ x : Ext w0, w' = x.at_) → ∃ T, Blk w' (w.heap.size) (p.map (Value.int .u8)).toArray T := fun w' ⟨x, hx⟩ => ⟨_, hx ▸ (Kpwr.out.below hb0).below x.same⟩
          have xa : ∀ w', (∃ x : Ext w0, w' = x.at_) → w'.rangeAt x (o + k * 64) (d.map (Value.int .u8)) := fun w' ⟨y, hy⟩ => hy ▸ rangeAt_belowB HRa.out hx (Below.on hb0 y.same)
          simp only [pick, List.range, List.range.loop, List.getElem?_toArray, List.getElem?_cons_succ, List.getElem?_cons_zero, Option.toList_some, List.cons_append, List.nil_append]
          repeat (first | (go_big_quiet_want; refine quiet_load_blk 23 _ rfl (w.heap.size) rfl _ x0 _ Tryd.underlying23 rfl 32 size_digest hp.size ?_; go_big_quiet_on; simp only [Act.put, List.setIfInBounds_toArray, List.set_cons_zero, List.set_cons_succ]) | (go_big_quiet_want; refine quiet_index_k 80 _ _ rfl Tryd.underlying80 size_spot x o len cap rfl _ _ rfl k rfl (by omega) ?_; go_big_quiet_on; simp only [Act.put, List.setIfInBounds_toArray, List.set_cons_zero, List.set_cons_succ]) | (go_big_quiet_want; refine quiet_load_mid 23 _ rfl x (o + k * 64) rfl _ xa _ Tryd.underlying23 rfl (by rw [List.length_map, HDd.out.len]; exact size_digest) ?_; go_big_quiet_on; simp only [Act.put, List.setIfInBounds_toArray, List.set_cons_zero, List.set_cons_succ]) | (go_big_quiet_want; refine quiet_cmp _ _ rfl _ _ _ rfl rfl HQ.out ?_; go_big_quiet_on; simp only [Act.put, List.setIfInBounds_toArray, List.set_cons_zero, List.set_cons_succ]) | go_big_quiet_step (fail))
          exact wpQuiet_nil rfl
        refine AlChk.nil ?_
        refine Walk.fin fun w31 hw31 _ _ => ?_
        simp only [List.drop_succ_cons, List.drop_zero]
        have Hw31 := hid hw31
        have HBw31 := hid (Below.on HBwr.out hw31)
        have hsw31 := HBw31.out.size
        have Kpw31 := hid (Kpwr.out.below hw31)
        have Krw31 := hid (Krwr.out.below hw31)
        clear hw31
        go_wp2_with fail
        exact ⟨⟨k + 1, by omega, by first | rfl | simp, HNX.out HDP.out, Kpw31.out, Krw31.out, HBw31.out, HEw.out.below Hw31.out⟩, by simp [intOf]; omega⟩
    · skip
      have hke : k = len := by omega
      subst hke
      have hcI : ¬ (k : Int) < (k : Int) := by omega
      have HNF := hid (findP_none (S := S) (p := p) (fun i hi => HNO.out i (by omega)))
      clear hE
      go_wp2_with (
        refine wpList_store_blk rfl 23 _ _ rfl (w.heap.size + 1) (byteCells 32 []) rfl rfl _ 23 Krwr.out 32 size_digest zsize zsize (by decide +kernel) ?_
        intro w9 hb9 hk9
        have HB9 := hid (hb9.below HBwr.out HBwr.out.size (by omega))
        have HK9 := hid hk9
        clear hb9 hk9)
      exact bodyPost_ret (v := .tuple #[.agg (byteCells 32 []), .bool false]) (results_blk_tmp Tryd.results55 _ (w.heap.size + 1) rfl _ rfl _ 23 HK9.out _ Tryd.underlying23 rfl 32 size_digest zsize) rfl ⟨by rw [HNF.out]; rfl, HB9.out⟩
end Go.Proofs.YthaicocfbmpnmaaDoor

namespace Go.Proofs.YthaicocfbmpnmaaDoor
open Go.ChangeShapes Go.WideShapes Go.ChangeAt Go.RowKit

/-- What stands beside a place, or the empty node. -/
def otherP (S : List (List Int × List Int)) (E d : List Int) : List Int := if (findP S (besideL d)).2 = true then (findP S (besideL d)).1 else E
/-- The next row, one place on. -/
def upStep (S : List (List Int × List Int)) (E : List Int) (R : List (List Int × List Int)) (s : List Int × List Int) : List (List Int × List Int) :=
  if (findP R (halfL s.1)).2 = true then R else R ++ [(halfL s.1, if s.1.getD 31 0 % 2 = 0 then nodeL s.2 (otherP S E s.1) else nodeL (otherP S E s.1) s.2)]
def upRow (S : List (List Int × List Int)) (E : List Int) (l : List (List Int × List Int)) : List (List Int × List Int) := l.foldl (upStep S E) []
/-- The next row. -/
def upL (S : List (List Int × List Int)) (E : List Int) : List (List Int × List Int) := upRow S E S
theorem upRow_snoc (S : List (List Int × List Int)) (E : List Int) (l : List (List Int × List Int)) (s : List Int × List Int) : upRow S E (l ++ [s]) = upStep S E (upRow S E l) s := by
  unfold upRow
  rw [List.foldl_append]
  rfl
theorem upStep_len (S : List (List Int × List Int)) (E : List Int) (R : List (List Int × List Int)) (s : List Int × List Int) : (upStep S E R s).length ≤ R.length + 1 := by
  unfold upStep
  split
  · omega
  · rw [List.length_append]
    exact Nat.le_refl _
theorem upRow_len (S : List (List Int × List Int)) (E : List Int) (l : List (List Int × List Int)) : (upRow S E l).length ≤ l.length := by
  suffices h : ∀ R : List (List Int × List Int), (l.foldl (upStep S E) R).length ≤ R.length + l.length by
    have := h []
    rwa [List.length_nil, Nat.zero_add] at this
  induction l with
  | nil => intro R; exact Nat.le_refl _
  | cons s l ih =>
    intro R
    have h1 := ih (upStep S E R s)
    have h2 := upStep_len S E R s
    rw [List.foldl_cons, List.length_cons]
    omega
theorem cell_belowB {w w' : World} {x o n : Nat} {v : Value} (h : w.cell? ⟨x, o, none⟩ = some v) (hx : x < n) (hb : Below n w w') : w'.cell? ⟨x, o, none⟩ = some v := by
  rw [hb.cell (p := ⟨x, o, none⟩) hx]; exact h
set_option maxHeartbeats 4000000 in
set_option maxRecDepth 100000 in
theorem up_any (a : Option Addr) (len cap : Nat) (S : List (List Int × List Int)) (E : List Int) (w : World) (hE : EntsAt w a len cap S) (hmx : len ≤ 300) (hE0 : Dg E) :
    Calls Tryd.prog 52 #[.slice a len cap, .agg (E.map (Value.int .u8)).toArray] w fun e w' => ∃ v, e = .returned v ∧ OwnS 84 w' w.heap.size v (upL S E) ∧ Below w.heap.size w w' := by
  have HE0 := hid hE0
  have b1 := (Below.refl w.heap.size w).alloc (Nat.le_refl _) (.cells (E.map (Value.int .u8)).toArray 23 (0, 0))
  have Ke := hid (Blk.new (w := w) (n := w.heap.size) rfl (E.map (Value.int .u8)).toArray 23)
  have Hb := hid b1
  have hbz := b1.size
  have Hbs := hid (show w.heap.size + 1 = (w.alloc (.cells (E.map (Value.int .u8)).toArray 23 (0, 0))).heap.size by simp only [World.size_alloc])
  clear b1 
  have HE := hid hE
  clear hE
  go_enter Tryd.func52, Tryd.ntmps52
  go_wp2_with fail
  go_loopw [5, 6] (fun ov kv wr => ∃ k : Nat, k ≤ len ∧ kv = .int .i64 k ∧ OwnS 84 wr (w.heap.size + 1) ov (upRow S E (S.take k)) ∧ Blk wr w.heap.size (E.map (Value.int .u8)).toArray 23 ∧ Below w.heap.size w wr) (fun _ kv _ => len - (intOf kv).toNat)
  case atStart => exact ⟨0, Nat.zero_le _, rfl, OwnS.nil _ _ _, Ke.out, Hb.out⟩
  case round =>
    obtain ⟨k, hk, rfl, ho, ke, bel⟩ := hrel
    have HBwr := hid bel
    have Kewr := hid ke
    have hswr := ke.lt
    have hlen := HE.out.length
    have hrl : (upRow S E (S.take k)).length ≤ 300 := Nat.le_trans (upRow_len S E _) (by rw [List.length_take]; omega)
    clear bel ke
    by_cases hcj : k < len
    · skip
      have hcI : (k : Int) < (len : Int) := by omega
      have hwr : wrap64 ((k : Int) + 1) = (k : Int) + 1 := by unfold wrap64; omega
      obtain ⟨x, o, rfl, hx, hc⟩ := HE.out.at_ (by omega)
      have hRg := hc k hcj
      have hme : S.getD k ([], []) ∈ S := by rw [List.getD_eq_getElem?_getD, List.getElem?_eq_getElem (by omega)]; exact List.getElem_mem _
      have hdx := HE.out.each _ hme
      have HTK := hid (show upRow S E (S.take (k + 1)) = upStep S E (upRow S E (S.take k)) (S.getD k ([], [])) by
        rw [show S.take (k + 1) = S.take k ++ [S.getD k ([], [])] by rw [List.take_add_one, List.getD_eq_getElem?_getD, List.getElem?_eq_getElem (by omega)]; rfl, upRow_snoc])
      generalize S.getD k ([], []) = z at *
      obtain ⟨d, c⟩ := z
      dsimp only at hdx hRg
      have HDd := hid hdx.1
      have HDc := hid hdx.2
      have HRa := hid (range_front hdx.1 hRg)
      have HRb := hid (range_back hdx.1 hRg)
      have hqq := dg_at hdx.1 31
      have HQC := hid (show w.cell? ⟨x, o + k * 64 + 31, none⟩ = some (.int .u8 (d.getD 31 0)) from HRa.out 31 _ (by rw [List.getElem?_map, List.getD_eq_getElem?_getD, List.getElem?_eq_getElem (by rw [hdx.1.len]; omega)]; rfl))
      generalize upRow S E (S.take k) = R at *
      have hR := ho.each
      have HOL := hid ho.lt
      have HO := hid ho
      obtain ⟨a1, c1, rfl, hEo⟩ := ho.ents
      have HRR := hid hEo
      have hn1 : ∃ n1, n1 = R.length := ⟨_, rfl⟩
      obtain ⟨n1, hn1⟩ := hn1
      have HRL := hid hrl
      rw [← hn1] at HO HOL HRR hrl ⊢
      clear ho hEo hc hme hRg
      have CH := hid (fun W : World => half_any d W HDd.out)
      have CB := hid (fun W : World => beside_any d W HDd.out)
      have CF := hid (fun (W : World) (h : EntsAt W a1 n1 c1 R) => find_any a1 n1 c1 R (halfL d) W h hrl HDd.out.half)
      have CG := hid (fun (W : World) (h : EntsAt W (some ⟨x, o, none⟩) len cap S) => find_any (some ⟨x, o, none⟩) len cap S (besideL d) W h hmx (Dg.beside HDd.out))
      have HDP := hid HDd.out.half
      have HDB := hid (Dg.beside HDd.out)
      have HDM := hid (Dg.find hR (halfL d))
      have HDF := hid (Dg.find HE.out.each (besideL d))
      unfold upStep otherP at HTK
      dsimp only at HTK
      clear hR hdx hn1
      generalize halfL d = P at *
      generalize besideL d = B at *
      generalize findP R P = m at *
      generalize findP S B = g at *
      generalize d.getD 31 0 = q at *
      obtain ⟨m1, m2⟩ := m
      obtain ⟨g1, g2⟩ := g
      dsimp only at HTK HDM HDF CF CG
      have HWwr := hid (Below.refl wr.heap.size wr)
      go_wp2_with (first
         | (refine wpList_index_k rfl 80 _ _ rfl Tryd.underlying80 size_spot x o len cap rfl _ _ rfl k rfl (by omega) ?_)
         | (refine wpList_load_mid rfl 23 _ rfl x (o + k * 64) rfl _ _ (rangeAt_belowB HRa.out hx (Below.on HBwr.out HWwr.out)) Tryd.underlying23 rfl (by rw [List.length_map, HDd.out.len]; exact size_digest) ?_))
      refine (CH.out _).mono ?_
      rintro e w31 ⟨rfl, bw31⟩
      have HBw31 := hid (Below.on HWwr.out bw31)
      have hsw31 := HBw31.out.size
      have Kew31 := hid (Kewr.out.below bw31)
      clear bw31
      go_wp2_with (first
         | (
            refine wpList_store_blk rfl 23 _ _ rfl (w31.heap.size) (P.map (Value.int .u8)).toArray rfl rfl _ 23 (Blk.new rfl (byteCells 32 []) _) 32 size_digest zsize HDP.out.size (ints_one _ _) ?_
            intro w32 hbw32 hkw32
            have hw32 := hbw32.below ((Below.refl w31.heap.size w31).alloc (Nat.le_refl _) _) (by simp only [World.size_alloc]; omega) (Nat.le_refl _)
            have HBw32 := hid (Below.on HBw31.out hw32)
            have hsw32 := HBw32.out.size
            have Kew32 := hid (Kew31.out.below hw32)
            have hlew32 := Kew31.out.lt
            have Kpw32 := hid hkw32
            have hfw32 : wr.heap.size ≤ w31.heap.size := HBw31.out.size
            clear hbw32 hkw32 hw32)
         | (refine wpList_load_blk rfl 23 _ rfl (w31.heap.size) rfl _ 23 Kpw32.out _ Tryd.underlying23 rfl 32 size_digest HDP.out.size ?_))
      refine (CF.out _ (HRR.out.below HBw32.out)).mono ?_
      rintro e w33 ⟨rfl, bw33⟩
      have HBw33 := hid (Below.on HBw32.out bw33)
      have hsw33 := HBw33.out.size
      have Kew33 := hid (Kew32.out.below bw33)
      have Kpw33 := hid (Kpw32.out.below bw33)
      clear bw33
      cases m2
      · skip
        go_wp2_with (first
           | (
              refine wpList_store_blk rfl 23 _ _ rfl (w33.heap.size) (m1.map (Value.int .u8)).toArray rfl rfl _ 23 (Blk.new rfl (byteCells 32 []) _) 32 size_digest zsize HDM.out.size (ints_one _ _) ?_
              intro w34 hbw34 hkw34
              have hw34 := hbw34.below ((Below.refl w33.heap.size w33).alloc (Nat.le_refl _) _) (by simp only [World.size_alloc]; omega) (Nat.le_refl _)
              have HBw34 := hid (Below.on HBw33.out hw34)
              have hsw34 := HBw34.out.size
              have Kew34 := hid (Kew33.out.below hw34)
              have hlew34 := Kew33.out.lt
              have Kpw34 := hid (Kpw33.out.below hw34)
              have hlpw34 := Kpw33.out.lt
              have Kmw34 := hid hkw34
              have hfw34 : wr.heap.size ≤ w33.heap.size := HBw33.out.size
              clear hbw34 hkw34 hw34)
           | (refine wpList_index_k rfl 80 _ _ rfl Tryd.underlying80 size_spot x o len cap rfl _ _ rfl k rfl (by omega) ?_)
           | (refine wpList_load_mid rfl 23 _ rfl x (o + k * 64) rfl _ _ (rangeAt_belowB HRa.out hx (Below.on HBwr.out HBw34.out)) Tryd.underlying23 rfl (by rw [List.length_map, HDd.out.len]; exact size_digest) ?_))
        refine (CB.out _).mono ?_
        rintro e w35 ⟨rfl, bw35⟩
        have HBw35 := hid (Below.on HBw34.out bw35)
        have hsw35 := HBw35.out.size
        have Kew35 := hid (Kew34.out.below bw35)
        have Kpw35 := hid (Kpw34.out.below bw35)
        have Kmw35 := hid (Kmw34.out.below bw35)
        clear bw35
        go_wp2_with fail
        refine (CG.out _ (HE.out.below (Below.on HBwr.out HBw35.out))).mono ?_
        rintro e w36 ⟨rfl, bw36⟩
        have HBw36 := hid (Below.on HBw35.out bw36)
        have hsw36 := HBw36.out.size
        have Kew36 := hid (Kew35.out.below bw36)
        have Kpw36 := hid (Kpw35.out.below bw36)
        have Kmw36 := hid (Kmw35.out.below bw36)
        clear bw36
        cases g2
        · skip
          by_cases hq : q % 2 = 0
          · skip
            have HTT := hid (show upRow S E (S.take (k + 1)) = R ++ [(P, (nodeL c E))] from HTK.out.trans (by rw [if_pos hq]; rfl))
            have hm : q.tmod 2 = 0 := by rw [Int.tmod_eq_emod_of_nonneg hqq.1]; omega
            go_wp2_with (first
               | (
                  refine wpList_store_blk rfl 23 _ _ rfl (w36.heap.size) (g1.map (Value.int .u8)).toArray rfl rfl _ 23 (Blk.new rfl (byteCells 32 []) _) 32 size_digest zsize HDF.out.size (ints_one _ _) ?_
                  intro w37 hbw37 hkw37
                  have hw37 := hbw37.below ((Below.refl w36.heap.size w36).alloc (Nat.le_refl _) _) (by simp only [World.size_alloc]; omega) (Nat.le_refl _)
                  have HBw37 := hid (Below.on HBw36.out hw37)
                  have hsw37 := HBw37.out.size
                  have Kew37 := hid (Kew36.out.below hw37)
                  have hlew37 := Kew36.out.lt
                  have Kpw37 := hid (Kpw36.out.below hw37)
                  have hlpw37 := Kpw36.out.lt
                  have Kmw37 := hid (Kmw36.out.below hw37)
                  have hlmw37 := Kmw36.out.lt
                  have Kow37 := hid hkw37
                  have hfw37 : wr.heap.size ≤ w36.heap.size := HBw36.out.size
                  clear hbw37 hkw37 hw37)
               | (refine wpList_load_blk rfl 23 _ rfl (w.heap.size) rfl _ 23 Kew37.out _ Tryd.underlying23 rfl 32 size_digest HE0.out.size ?_)
               | (
                  refine wpList_store_blk rfl 23 _ _ rfl (w36.heap.size) (E.map (Value.int .u8)).toArray rfl rfl _ 23 Kow37.out 32 size_digest HDF.out.size HE0.out.size (ints_one _ _) ?_
                  intro w38 hbw38 hkw38
                  have HBw38 := hid (hbw38.below HBw37.out HBw37.out.size (by omega))
                  have hsw38 := HBw38.out.size
                  have Kew38 := hid (hbw38.blk Kew37.out (by have := Kew37.out.lt; omega))
                  have Kpw38 := hid (hbw38.blk Kpw37.out (by have := Kpw37.out.lt; omega))
                  have Kmw38 := hid (hbw38.blk Kmw37.out (by have := Kmw37.out.lt; omega))
                  have Kow38 := hid hkw38
                  clear hbw38 hkw38
                  have hcc := cell_belowB HQC.out hx (Below.on HBwr.out HBw38.out))
               | (refine wpList_index_k rfl 80 _ _ rfl Tryd.underlying80 size_spot x o len cap rfl _ _ rfl k rfl (by omega) ?_))
            have CN := hid (fun W : World => refnode_any c E W HDc.out HE0.out)
            have HX := hid (Dg.nodeL c E)
            generalize nodeL c E = X at *
            have HOc := hid (HO.out.below HBw38.out)
            have HWc := hid (Below.on HBwr.out HBw38.out)
            have hsc : w.heap.size + 1 ≤ w38.heap.size := by have := Kew38.out.lt; omega
            have HS := hid (show ∀ s ∈ (Value.slice a1 n1 c1).ownBlock.toList, w.heap.size + 1 ≤ s ∧ s < wr.heap.size from fun s hs => HOL.out s (Option.mem_toList.1 hs))
            have HSC := hid (show ∀ s ∈ (Value.slice a1 n1 c1).ownBlock.toList, s < w38.heap.size from fun s hs => Nat.lt_of_lt_of_le (HS.out s hs).2 HBw38.out.size)
            refine FlowB.wp_region_butIn (Value.slice a1 n1 c1).ownBlock.toList (fun wz => OwnS 84 wz (w.heap.size + 1) (Value.slice a1 n1 c1) R) 12 [0, 1, 2, 3, 4, 5, 6, 7, 8, 9] [10] [(.b 10, [], []), (.c 11, [], [])] (by kernel_rfl) (by kernel_rfl) HOc.out (fun _ _ h hb => h.below hb) ?_
            apply Exists.intro
            refine ⟨fun w0 hb0 hF0 => ?_, ?_⟩
            · skip
              have hb1 : Below w.heap.size w w0 := hb0.below HWc.out HWc.out.size (by intro s hs; have := (HS.out s hs).1; omega)
              have xb : ∀ w', (∃ x : Ext w0, w' = x.at_) → w'.rangeAt x (o + k * 64 + 32) (c.map (Value.int .u8)) := fun w' ⟨y, hy⟩ => hy ▸ rangeAt_belowB HRb.out hx (Below.on hb1 y.same)
              have x0 : ∀ w', (∃ x : Ext w0, w' = x.at_) → ∃ T, Blk w' (w31.heap.size) (P.map (Value.int .u8)).toArray T := fun w' ⟨y, hy⟩ => ⟨_, hy ▸ (hb0.blk Kpw38.out (fun hs => by have := (HS.out _ hs).2; omega)).below y.same⟩
              have x1 : ∀ w', (∃ x : Ext w0, w' = x.at_) → ∃ T, Blk w' (w36.heap.size) (E.map (Value.int .u8)).toArray T := fun w' ⟨y, hy⟩ => ⟨_, hy ▸ (hb0.blk Kow38.out (fun hs => by have := (HS.out _ hs).2; omega)).below y.same⟩
              have c0 := fun e : Ext w0 => CN.out e.at_
              simp only [pick, List.getElem?_toArray, List.getElem?_cons_succ, List.getElem?_cons_zero, Option.toList_some, List.cons_append, List.nil_append]
              repeat (first | (go_big_quiet_want; refine quiet_index_k 80 _ _ rfl Tryd.underlying80 size_spot x o len cap rfl _ _ rfl k rfl (by omega) ?_; go_big_quiet_on; simp only [Act.put, List.setIfInBounds_toArray, List.set_cons_zero, List.set_cons_succ]) | (go_big_quiet_want; refine quiet_load_mid 23 _ rfl x (o + k * 64 + 32) rfl _ xb _ Tryd.underlying23 rfl (by rw [List.length_map, HDc.out.len]; exact size_digest) ?_; go_big_quiet_on; simp only [Act.put, List.setIfInBounds_toArray, List.set_cons_zero, List.set_cons_succ]) | (go_big_quiet_want; refine quiet_load_blk 23 _ rfl (w31.heap.size) rfl _ x0 _ Tryd.underlying23 rfl 32 size_digest HDP.out.size ?_; go_big_quiet_on; simp only [Act.put, List.setIfInBounds_toArray, List.set_cons_zero, List.set_cons_succ]) | (go_big_quiet_want; refine quiet_load_blk 23 _ rfl (w36.heap.size) rfl _ x1 _ Tryd.underlying23 rfl 32 size_digest HE0.out.size ?_; go_big_quiet_on; simp only [Act.put, List.setIfInBounds_toArray, List.set_cons_zero, List.set_cons_succ]) | (go_big_quiet_want; refine quiet_build_pair 84 _ _ rfl (.agg (P.map (Value.int .u8)).toArray) (.agg (X.map (Value.int .u8)).toArray) (.agg ((entL P X).map (Value.int .u8)).toArray) rfl rfl (fun W => build_spot HDP.out HX.out W) ?_; go_big_quiet_on; simp only [Act.put, List.setIfInBounds_toArray, List.set_cons_zero, List.set_cons_succ]) | go_big_quiet_step (first | (go_at_call 18; with_reducible exact Calls.ext (c0 _))))
              exact wpQuiet_nil rfl
            refine FlowB.AlChk.one rfl (fun b => .slice (some ⟨b, 0, none⟩) 1 1) (.cells ((entL (P, X).1 (P, X).2).map (Value.int .u8)).toArray 84 (0, 0)) rfl (st_butIn _ HSC.out) (fun w2 hb2 hF2 => exec_build_pair 84 80 Tryd.underlying80 Tryd.sizeOf84 Tryd.zeroValue84 rfl (x := (P, X)) rfl ⟨HDP.out, HX.out⟩) ?_
            refine FlowB.AlChk.nil ?_
            refine FlowB.Walk.blk rfl (fun b => .slice (some ⟨b, 0, none⟩) 1 1) (.cells ((entL (P, X).1 (P, X).2).map (Value.int .u8)).toArray 84 (0, 0)) (by simp) ?_
            intro bi w5 hb5 hF5 hge5 _
            apply Exists.intro
            refine ⟨fun w4 hb4 hF4 => wpQuiet_nil rfl, ?_⟩
            refine FlowB.AlChk.nil ?_
            refine FlowB.Walk.does rfl (fun _ _ => True) (fun v w' => OwnS 84 w' (w.heap.size + 1) v (R ++ [(P, X)])) (fun _ _ _ _ h _ => h) (fun v w' w'' h k => h.below k) rfl (fun q1 hb1 hF1 hG1 => ?_) ?_
            · have kb : Blk q1 bi ((entL (P, X).1 (P, X).2).map (Value.int .u8)).toArray 84 := hF1.2
              obtain ⟨v', w', hr, ho', hg⟩ := run_append_s (L := 80) Tryd.underlying80 info_spot 80 hG1 kb ⟨HDP.out, HX.out⟩ (Nat.le_trans HRL.out (by decide)) (Nat.le_trans hsc hb1.size)
              exact ⟨v', w', FlowB.exec_append rfl rfl rfl hr, butIn_grown hg, trivial, ho'⟩
            rintro v1 q1 hb1 hF1 _
            apply Exists.intro
            refine ⟨fun w4 hb4 hF4 => wpQuiet_nil rfl, ?_⟩
            refine FlowB.AlChk.nil ?_
            refine FlowB.Walk.fin fun wq h9 _ hG9 => ?_
            simp only [List.drop_succ_cons, List.drop_zero]
            have HBq := hid (h9.below HWc.out HWc.out.size (by intro s hs; have := (HS.out s hs).1; omega))
            have HGq := hid hG9
            have HKq := hid (h9.blk Kew38.out (fun hs => by have := (HS.out _ hs).1; omega))
            clear h9 hG9
            go_wp2_with fail
            exact ⟨⟨k + 1, by omega, by first | rfl | simp, by rw [HTT.out]; exact HGq.out, HKq.out, HBq.out⟩, by simp [intOf]; omega⟩
          · skip
            have HTT := hid (show upRow S E (S.take (k + 1)) = R ++ [(P, (nodeL E c))] from HTK.out.trans (by rw [if_neg hq]; rfl))
            have hm : q.tmod 2 = 1 := by rw [Int.tmod_eq_emod_of_nonneg hqq.1]; omega
            go_wp2_with (first
               | (
                  refine wpList_store_blk rfl 23 _ _ rfl (w36.heap.size) (g1.map (Value.int .u8)).toArray rfl rfl _ 23 (Blk.new rfl (byteCells 32 []) _) 32 size_digest zsize HDF.out.size (ints_one _ _) ?_
                  intro w37 hbw37 hkw37
                  have hw37 := hbw37.below ((Below.refl w36.heap.size w36).alloc (Nat.le_refl _) _) (by simp only [World.size_alloc]; omega) (Nat.le_refl _)
                  have HBw37 := hid (Below.on HBw36.out hw37)
                  have hsw37 := HBw37.out.size
                  have Kew37 := hid (Kew36.out.below hw37)
                  have hlew37 := Kew36.out.lt
                  have Kpw37 := hid (Kpw36.out.below hw37)
                  have hlpw37 := Kpw36.out.lt
                  have Kmw37 := hid (Kmw36.out.below hw37)
                  have hlmw37 := Kmw36.out.lt
                  have Kow37 := hid hkw37
                  have hfw37 : wr.heap.size ≤ w36.heap.size := HBw36.out.size
                  clear hbw37 hkw37 hw37)
               | (refine wpList_load_blk rfl 23 _ rfl (w.heap.size) rfl _ 23 Kew37.out _ Tryd.underlying23 rfl 32 size_digest HE0.out.size ?_)
               | (
                  refine wpList_store_blk rfl 23 _ _ rfl (w36.heap.size) (E.map (Value.int .u8)).toArray rfl rfl _ 23 Kow37.out 32 size_digest HDF.out.size HE0.out.size (ints_one _ _) ?_
                  intro w38 hbw38 hkw38
                  have HBw38 := hid (hbw38.below HBw37.out HBw37.out.size (by omega))
                  have hsw38 := HBw38.out.size
                  have Kew38 := hid (hbw38.blk Kew37.out (by have := Kew37.out.lt; omega))
                  have Kpw38 := hid (hbw38.blk Kpw37.out (by have := Kpw37.out.lt; omega))
                  have Kmw38 := hid (hbw38.blk Kmw37.out (by have := Kmw37.out.lt; omega))
                  have Kow38 := hid hkw38
                  clear hbw38 hkw38
                  have hcc := cell_belowB HQC.out hx (Below.on HBwr.out HBw38.out))
               | (refine wpList_index_k rfl 80 _ _ rfl Tryd.underlying80 size_spot x o len cap rfl _ _ rfl k rfl (by omega) ?_))
            have CN := hid (fun W : World => refnode_any E c W HE0.out HDc.out)
            have HX := hid (Dg.nodeL E c)
            generalize nodeL E c = X at *
            have HOc := hid (HO.out.below HBw38.out)
            have HWc := hid (Below.on HBwr.out HBw38.out)
            have hsc : w.heap.size + 1 ≤ w38.heap.size := by have := Kew38.out.lt; omega
            have HS := hid (show ∀ s ∈ (Value.slice a1 n1 c1).ownBlock.toList, w.heap.size + 1 ≤ s ∧ s < wr.heap.size from fun s hs => HOL.out s (Option.mem_toList.1 hs))
            have HSC := hid (show ∀ s ∈ (Value.slice a1 n1 c1).ownBlock.toList, s < w38.heap.size from fun s hs => Nat.lt_of_lt_of_le (HS.out s hs).2 HBw38.out.size)
            refine FlowB.wp_region_butIn (Value.slice a1 n1 c1).ownBlock.toList (fun wz => OwnS 84 wz (w.heap.size + 1) (Value.slice a1 n1 c1) R) 12 [0, 1, 2, 3, 4, 5, 6, 7, 8, 9] [10] [(.b 10, [], []), (.c 11, [], [])] (by kernel_rfl) (by kernel_rfl) HOc.out (fun _ _ h hb => h.below hb) ?_
            apply Exists.intro
            refine ⟨fun w0 hb0 hF0 => ?_, ?_⟩
            · skip
              have hb1 : Below w.heap.size w w0 := hb0.below HWc.out HWc.out.size (by intro s hs; have := (HS.out s hs).1; omega)
              have xb : ∀ w', (∃ x : Ext w0, w' = x.at_) → w'.rangeAt x (o + k * 64 + 32) (c.map (Value.int .u8)) := fun w' ⟨y, hy⟩ => hy ▸ rangeAt_belowB HRb.out hx (Below.on hb1 y.same)
              have x0 : ∀ w', (∃ x : Ext w0, w' = x.at_) → ∃ T, Blk w' (w31.heap.size) (P.map (Value.int .u8)).toArray T := fun w' ⟨y, hy⟩ => ⟨_, hy ▸ (hb0.blk Kpw38.out (fun hs => by have := (HS.out _ hs).2; omega)).below y.same⟩
              have x1 : ∀ w', (∃ x : Ext w0, w' = x.at_) → ∃ T, Blk w' (w36.heap.size) (E.map (Value.int .u8)).toArray T := fun w' ⟨y, hy⟩ => ⟨_, hy ▸ (hb0.blk Kow38.out (fun hs => by have := (HS.out _ hs).2; omega)).below y.same⟩
              have c0 := fun e : Ext w0 => CN.out e.at_
              simp only [pick, List.getElem?_toArray, List.getElem?_cons_succ, List.getElem?_cons_zero, Option.toList_some, List.cons_append, List.nil_append]
              repeat (first | (go_big_quiet_want; refine quiet_index_k 80 _ _ rfl Tryd.underlying80 size_spot x o len cap rfl _ _ rfl k rfl (by omega) ?_; go_big_quiet_on; simp only [Act.put, List.setIfInBounds_toArray, List.set_cons_zero, List.set_cons_succ]) | (go_big_quiet_want; refine quiet_load_mid 23 _ rfl x (o + k * 64 + 32) rfl _ xb _ Tryd.underlying23 rfl (by rw [List.length_map, HDc.out.len]; exact size_digest) ?_; go_big_quiet_on; simp only [Act.put, List.setIfInBounds_toArray, List.set_cons_zero, List.set_cons_succ]) | (go_big_quiet_want; refine quiet_load_blk 23 _ rfl (w31.heap.size) rfl _ x0 _ Tryd.underlying23 rfl 32 size_digest HDP.out.size ?_; go_big_quiet_on; simp only [Act.put, List.setIfInBounds_toArray, List.set_cons_zero, List.set_cons_succ]) | (go_big_quiet_want; refine quiet_load_blk 23 _ rfl (w36.heap.size) rfl _ x1 _ Tryd.underlying23 rfl 32 size_digest HE0.out.size ?_; go_big_quiet_on; simp only [Act.put, List.setIfInBounds_toArray, List.set_cons_zero, List.set_cons_succ]) | (go_big_quiet_want; refine quiet_build_pair 84 _ _ rfl (.agg (P.map (Value.int .u8)).toArray) (.agg (X.map (Value.int .u8)).toArray) (.agg ((entL P X).map (Value.int .u8)).toArray) rfl rfl (fun W => build_spot HDP.out HX.out W) ?_; go_big_quiet_on; simp only [Act.put, List.setIfInBounds_toArray, List.set_cons_zero, List.set_cons_succ]) | go_big_quiet_step (first | (go_at_call 18; with_reducible exact Calls.ext (c0 _))))
              exact wpQuiet_nil rfl
            refine FlowB.AlChk.one rfl (fun b => .slice (some ⟨b, 0, none⟩) 1 1) (.cells ((entL (P, X).1 (P, X).2).map (Value.int .u8)).toArray 84 (0, 0)) rfl (st_butIn _ HSC.out) (fun w2 hb2 hF2 => exec_build_pair 84 80 Tryd.underlying80 Tryd.sizeOf84 Tryd.zeroValue84 rfl (x := (P, X)) rfl ⟨HDP.out, HX.out⟩) ?_
            refine FlowB.AlChk.nil ?_
            refine FlowB.Walk.blk rfl (fun b => .slice (some ⟨b, 0, none⟩) 1 1) (.cells ((entL (P, X).1 (P, X).2).map (Value.int .u8)).toArray 84 (0, 0)) (by simp) ?_
            intro bi w5 hb5 hF5 hge5 _
            apply Exists.intro
            refine ⟨fun w4 hb4 hF4 => wpQuiet_nil rfl, ?_⟩
            refine FlowB.AlChk.nil ?_
            refine FlowB.Walk.does rfl (fun _ _ => True) (fun v w' => OwnS 84 w' (w.heap.size + 1) v (R ++ [(P, X)])) (fun _ _ _ _ h _ => h) (fun v w' w'' h k => h.below k) rfl (fun q1 hb1 hF1 hG1 => ?_) ?_
            · have kb : Blk q1 bi ((entL (P, X).1 (P, X).2).map (Value.int .u8)).toArray 84 := hF1.2
              obtain ⟨v', w', hr, ho', hg⟩ := run_append_s (L := 80) Tryd.underlying80 info_spot 80 hG1 kb ⟨HDP.out, HX.out⟩ (Nat.le_trans HRL.out (by decide)) (Nat.le_trans hsc hb1.size)
              exact ⟨v', w', FlowB.exec_append rfl rfl rfl hr, butIn_grown hg, trivial, ho'⟩
            rintro v1 q1 hb1 hF1 _
            apply Exists.intro
            refine ⟨fun w4 hb4 hF4 => wpQuiet_nil rfl, ?_⟩
            refine FlowB.AlChk.nil ?_
            refine FlowB.Walk.fin fun wq h9 _ hG9 => ?_
            simp only [List.drop_succ_cons, List.drop_zero]
            have HBq := hid (h9.below HWc.out HWc.out.size (by intro s hs; have := (HS.out s hs).1; omega))
            have HGq := hid hG9
            have HKq := hid (h9.blk Kew38.out (fun hs => by have := (HS.out _ hs).1; omega))
            clear h9 hG9
            go_wp2_with fail
            exact ⟨⟨k + 1, by omega, by first | rfl | simp, by rw [HTT.out]; exact HGq.out, HKq.out, HBq.out⟩, by simp [intOf]; omega⟩
        · skip
          by_cases hq : q % 2 = 0
          · skip
            have HTT := hid (show upRow S E (S.take (k + 1)) = R ++ [(P, (nodeL c g1))] from HTK.out.trans (by rw [if_pos hq]; rfl))
            have hm : q.tmod 2 = 0 := by rw [Int.tmod_eq_emod_of_nonneg hqq.1]; omega
            go_wp2_with (first
               | (
                  refine wpList_store_blk rfl 23 _ _ rfl (w36.heap.size) (g1.map (Value.int .u8)).toArray rfl rfl _ 23 (Blk.new rfl (byteCells 32 []) _) 32 size_digest zsize HDF.out.size (ints_one _ _) ?_
                  intro w37 hbw37 hkw37
                  have hw37 := hbw37.below ((Below.refl w36.heap.size w36).alloc (Nat.le_refl _) _) (by simp only [World.size_alloc]; omega) (Nat.le_refl _)
                  have HBw37 := hid (Below.on HBw36.out hw37)
                  have hsw37 := HBw37.out.size
                  have Kew37 := hid (Kew36.out.below hw37)
                  have hlew37 := Kew36.out.lt
                  have Kpw37 := hid (Kpw36.out.below hw37)
                  have hlpw37 := Kpw36.out.lt
                  have Kmw37 := hid (Kmw36.out.below hw37)
                  have hlmw37 := Kmw36.out.lt
                  have Kow37 := hid hkw37
                  have hfw37 : wr.heap.size ≤ w36.heap.size := HBw36.out.size
                  clear hbw37 hkw37 hw37
                  have hcc := cell_belowB HQC.out hx (Below.on HBwr.out HBw37.out))
               | (refine wpList_index_k rfl 80 _ _ rfl Tryd.underlying80 size_spot x o len cap rfl _ _ rfl k rfl (by omega) ?_))
            have CN := hid (fun W : World => refnode_any c g1 W HDc.out HDF.out)
            have HX := hid (Dg.nodeL c g1)
            generalize nodeL c g1 = X at *
            have HOc := hid (HO.out.below HBw37.out)
            have HWc := hid (Below.on HBwr.out HBw37.out)
            have hsc : w.heap.size + 1 ≤ w37.heap.size := by have := Kew37.out.lt; omega
            have HS := hid (show ∀ s ∈ (Value.slice a1 n1 c1).ownBlock.toList, w.heap.size + 1 ≤ s ∧ s < wr.heap.size from fun s hs => HOL.out s (Option.mem_toList.1 hs))
            have HSC := hid (show ∀ s ∈ (Value.slice a1 n1 c1).ownBlock.toList, s < w37.heap.size from fun s hs => Nat.lt_of_lt_of_le (HS.out s hs).2 HBw37.out.size)
            refine FlowB.wp_region_butIn (Value.slice a1 n1 c1).ownBlock.toList (fun wz => OwnS 84 wz (w.heap.size + 1) (Value.slice a1 n1 c1) R) 12 [0, 1, 2, 3, 4, 5, 6, 7, 8, 9] [10] [(.b 10, [], []), (.c 11, [], [])] (by kernel_rfl) (by kernel_rfl) HOc.out (fun _ _ h hb => h.below hb) ?_
            apply Exists.intro
            refine ⟨fun w0 hb0 hF0 => ?_, ?_⟩
            · skip
              have hb1 : Below w.heap.size w w0 := hb0.below HWc.out HWc.out.size (by intro s hs; have := (HS.out s hs).1; omega)
              have xb : ∀ w', (∃ x : Ext w0, w' = x.at_) → w'.rangeAt x (o + k * 64 + 32) (c.map (Value.int .u8)) := fun w' ⟨y, hy⟩ => hy ▸ rangeAt_belowB HRb.out hx (Below.on hb1 y.same)
              have x0 : ∀ w', (∃ x : Ext w0, w' = x.at_) → ∃ T, Blk w' (w31.heap.size) (P.map (Value.int .u8)).toArray T := fun w' ⟨y, hy⟩ => ⟨_, hy ▸ (hb0.blk Kpw37.out (fun hs => by have := (HS.out _ hs).2; omega)).below y.same⟩
              have x1 : ∀ w', (∃ x : Ext w0, w' = x.at_) → ∃ T, Blk w' (w36.heap.size) (g1.map (Value.int .u8)).toArray T := fun w' ⟨y, hy⟩ => ⟨_, hy ▸ (hb0.blk Kow37.out (fun hs => by have := (HS.out _ hs).2; omega)).below y.same⟩
              have c0 := fun e : Ext w0 => CN.out e.at_
              simp only [pick, List.getElem?_toArray, List.getElem?_cons_succ, List.getElem?_cons_zero, Option.toList_some, List.cons_append, List.nil_append]
              repeat (first | (go_big_quiet_want; refine quiet_index_k 80 _ _ rfl Tryd.underlying80 size_spot x o len cap rfl _ _ rfl k rfl (by omega) ?_; go_big_quiet_on; simp only [Act.put, List.setIfInBounds_toArray, List.set_cons_zero, List.set_cons_succ]) | (go_big_quiet_want; refine quiet_load_mid 23 _ rfl x (o + k * 64 + 32) rfl _ xb _ Tryd.underlying23 rfl (by rw [List.length_map, HDc.out.len]; exact size_digest) ?_; go_big_quiet_on; simp only [Act.put, List.setIfInBounds_toArray, List.set_cons_zero, List.set_cons_succ]) | (go_big_quiet_want; refine quiet_load_blk 23 _ rfl (w31.heap.size) rfl _ x0 _ Tryd.underlying23 rfl 32 size_digest HDP.out.size ?_; go_big_quiet_on; simp only [Act.put, List.setIfInBounds_toArray, List.set_cons_zero, List.set_cons_succ]) | (go_big_quiet_want; refine quiet_load_blk 23 _ rfl (w36.heap.size) rfl _ x1 _ Tryd.underlying23 rfl 32 size_digest HDF.out.size ?_; go_big_quiet_on; simp only [Act.put, List.setIfInBounds_toArray, List.set_cons_zero, List.set_cons_succ]) | (go_big_quiet_want; refine quiet_build_pair 84 _ _ rfl (.agg (P.map (Value.int .u8)).toArray) (.agg (X.map (Value.int .u8)).toArray) (.agg ((entL P X).map (Value.int .u8)).toArray) rfl rfl (fun W => build_spot HDP.out HX.out W) ?_; go_big_quiet_on; simp only [Act.put, List.setIfInBounds_toArray, List.set_cons_zero, List.set_cons_succ]) | go_big_quiet_step (first | (go_at_call 18; with_reducible exact Calls.ext (c0 _))))
              exact wpQuiet_nil rfl
            refine FlowB.AlChk.one rfl (fun b => .slice (some ⟨b, 0, none⟩) 1 1) (.cells ((entL (P, X).1 (P, X).2).map (Value.int .u8)).toArray 84 (0, 0)) rfl (st_butIn _ HSC.out) (fun w2 hb2 hF2 => exec_build_pair 84 80 Tryd.underlying80 Tryd.sizeOf84 Tryd.zeroValue84 rfl (x := (P, X)) rfl ⟨HDP.out, HX.out⟩) ?_
            refine FlowB.AlChk.nil ?_
            refine FlowB.Walk.blk rfl (fun b => .slice (some ⟨b, 0, none⟩) 1 1) (.cells ((entL (P, X).1 (P, X).2).map (Value.int .u8)).toArray 84 (0, 0)) (by simp) ?_
            intro bi w5 hb5 hF5 hge5 _
            apply Exists.intro
            refine ⟨fun w4 hb4 hF4 => wpQuiet_nil rfl, ?_⟩
            refine FlowB.AlChk.nil ?_
            refine FlowB.Walk.does rfl (fun _ _ => True) (fun v w' => OwnS 84 w' (w.heap.size + 1) v (R ++ [(P, X)])) (fun _ _ _ _ h _ => h) (fun v w' w'' h k => h.below k) rfl (fun q1 hb1 hF1 hG1 => ?_) ?_
            · have kb : Blk q1 bi ((entL (P, X).1 (P, X).2).map (Value.int .u8)).toArray 84 := hF1.2
              obtain ⟨v', w', hr, ho', hg⟩ := run_append_s (L := 80) Tryd.underlying80 info_spot 80 hG1 kb ⟨HDP.out, HX.out⟩ (Nat.le_trans HRL.out (by decide)) (Nat.le_trans hsc hb1.size)
              exact ⟨v', w', FlowB.exec_append rfl rfl rfl hr, butIn_grown hg, trivial, ho'⟩
            rintro v1 q1 hb1 hF1 _
            apply Exists.intro
            refine ⟨fun w4 hb4 hF4 => wpQuiet_nil rfl, ?_⟩
            refine FlowB.AlChk.nil ?_
            refine FlowB.Walk.fin fun wq h9 _ hG9 => ?_
            simp only [List.drop_succ_cons, List.drop_zero]
            have HBq := hid (h9.below HWc.out HWc.out.size (by intro s hs; have := (HS.out s hs).1; omega))
            have HGq := hid hG9
            have HKq := hid (h9.blk Kew37.out (fun hs => by have := (HS.out _ hs).1; omega))
            clear h9 hG9
            go_wp2_with fail
            exact ⟨⟨k + 1, by omega, by first | rfl | simp, by rw [HTT.out]; exact HGq.out, HKq.out, HBq.out⟩, by simp [intOf]; omega⟩
          · skip
            have HTT := hid (show upRow S E (S.take (k + 1)) = R ++ [(P, (nodeL g1 c))] from HTK.out.trans (by rw [if_neg hq]; rfl))
            have hm : q.tmod 2 = 1 := by rw [Int.tmod_eq_emod_of_nonneg hqq.1]; omega
            go_wp2_with (first
               | (
                  refine wpList_store_blk rfl 23 _ _ rfl (w36.heap.size) (g1.map (Value.int .u8)).toArray rfl rfl _ 23 (Blk.new rfl (byteCells 32 []) _) 32 size_digest zsize HDF.out.size (ints_one _ _) ?_
                  intro w37 hbw37 hkw37
                  have hw37 := hbw37.below ((Below.refl w36.heap.size w36).alloc (Nat.le_refl _) _) (by simp only [World.size_alloc]; omega) (Nat.le_refl _)
                  have HBw37 := hid (Below.on HBw36.out hw37)
                  have hsw37 := HBw37.out.size
                  have Kew37 := hid (Kew36.out.below hw37)
                  have hlew37 := Kew36.out.lt
                  have Kpw37 := hid (Kpw36.out.below hw37)
                  have hlpw37 := Kpw36.out.lt
                  have Kmw37 := hid (Kmw36.out.below hw37)
                  have hlmw37 := Kmw36.out.lt
                  have Kow37 := hid hkw37
                  have hfw37 : wr.heap.size ≤ w36.heap.size := HBw36.out.size
                  clear hbw37 hkw37 hw37
                  have hcc := cell_belowB HQC.out hx (Below.on HBwr.out HBw37.out))
               | (refine wpList_index_k rfl 80 _ _ rfl Tryd.underlying80 size_spot x o len cap rfl _ _ rfl k rfl (by omega) ?_))
            have CN := hid (fun W : World => refnode_any g1 c W HDF.out HDc.out)
            have HX := hid (Dg.nodeL g1 c)
            generalize nodeL g1 c = X at *
            have HOc := hid (HO.out.below HBw37.out)
            have HWc := hid (Below.on HBwr.out HBw37.out)
            have hsc : w.heap.size + 1 ≤ w37.heap.size := by have := Kew37.out.lt; omega
            have HS := hid (show ∀ s ∈ (Value.slice a1 n1 c1).ownBlock.toList, w.heap.size + 1 ≤ s ∧ s < wr.heap.size from fun s hs => HOL.out s (Option.mem_toList.1 hs))
            have HSC := hid (show ∀ s ∈ (Value.slice a1 n1 c1).ownBlock.toList, s < w37.heap.size from fun s hs => Nat.lt_of_lt_of_le (HS.out s hs).2 HBw37.out.size)
            refine FlowB.wp_region_butIn (Value.slice a1 n1 c1).ownBlock.toList (fun wz => OwnS 84 wz (w.heap.size + 1) (Value.slice a1 n1 c1) R) 12 [0, 1, 2, 3, 4, 5, 6, 7, 8, 9] [10] [(.b 10, [], []), (.c 11, [], [])] (by kernel_rfl) (by kernel_rfl) HOc.out (fun _ _ h hb => h.below hb) ?_
            apply Exists.intro
            refine ⟨fun w0 hb0 hF0 => ?_, ?_⟩
            · skip
              have hb1 : Below w.heap.size w w0 := hb0.below HWc.out HWc.out.size (by intro s hs; have := (HS.out s hs).1; omega)
              have xb : ∀ w', (∃ x : Ext w0, w' = x.at_) → w'.rangeAt x (o + k * 64 + 32) (c.map (Value.int .u8)) := fun w' ⟨y, hy⟩ => hy ▸ rangeAt_belowB HRb.out hx (Below.on hb1 y.same)
              have x0 : ∀ w', (∃ x : Ext w0, w' = x.at_) → ∃ T, Blk w' (w31.heap.size) (P.map (Value.int .u8)).toArray T := fun w' ⟨y, hy⟩ => ⟨_, hy ▸ (hb0.blk Kpw37.out (fun hs => by have := (HS.out _ hs).2; omega)).below y.same⟩
              have x1 : ∀ w', (∃ x : Ext w0, w' = x.at_) → ∃ T, Blk w' (w36.heap.size) (g1.map (Value.int .u8)).toArray T := fun w' ⟨y, hy⟩ => ⟨_, hy ▸ (hb0.blk Kow37.out (fun hs => by have := (HS.out _ hs).2; omega)).below y.same⟩
              have c0 := fun e : Ext w0 => CN.out e.at_
              simp only [pick, List.getElem?_toArray, List.getElem?_cons_succ, List.getElem?_cons_zero, Option.toList_some, List.cons_append, List.nil_append]
              repeat (first | (go_big_quiet_want; refine quiet_index_k 80 _ _ rfl Tryd.underlying80 size_spot x o len cap rfl _ _ rfl k rfl (by omega) ?_; go_big_quiet_on; simp only [Act.put, List.setIfInBounds_toArray, List.set_cons_zero, List.set_cons_succ]) | (go_big_quiet_want; refine quiet_load_mid 23 _ rfl x (o + k * 64 + 32) rfl _ xb _ Tryd.underlying23 rfl (by rw [List.length_map, HDc.out.len]; exact size_digest) ?_; go_big_quiet_on; simp only [Act.put, List.setIfInBounds_toArray, List.set_cons_zero, List.set_cons_succ]) | (go_big_quiet_want; refine quiet_load_blk 23 _ rfl (w31.heap.size) rfl _ x0 _ Tryd.underlying23 rfl 32 size_digest HDP.out.size ?_; go_big_quiet_on; simp only [Act.put, List.setIfInBounds_toArray, List.set_cons_zero, List.set_cons_succ]) | (go_big_quiet_want; refine quiet_load_blk 23 _ rfl (w36.heap.size) rfl _ x1 _ Tryd.underlying23 rfl 32 size_digest HDF.out.size ?_; go_big_quiet_on; simp only [Act.put, List.setIfInBounds_toArray, List.set_cons_zero, List.set_cons_succ]) | (go_big_quiet_want; refine quiet_build_pair 84 _ _ rfl (.agg (P.map (Value.int .u8)).toArray) (.agg (X.map (Value.int .u8)).toArray) (.agg ((entL P X).map (Value.int .u8)).toArray) rfl rfl (fun W => build_spot HDP.out HX.out W) ?_; go_big_quiet_on; simp only [Act.put, List.setIfInBounds_toArray, List.set_cons_zero, List.set_cons_succ]) | go_big_quiet_step (first | (go_at_call 18; with_reducible exact Calls.ext (c0 _))))
              exact wpQuiet_nil rfl
            refine FlowB.AlChk.one rfl (fun b => .slice (some ⟨b, 0, none⟩) 1 1) (.cells ((entL (P, X).1 (P, X).2).map (Value.int .u8)).toArray 84 (0, 0)) rfl (st_butIn _ HSC.out) (fun w2 hb2 hF2 => exec_build_pair 84 80 Tryd.underlying80 Tryd.sizeOf84 Tryd.zeroValue84 rfl (x := (P, X)) rfl ⟨HDP.out, HX.out⟩) ?_
            refine FlowB.AlChk.nil ?_
            refine FlowB.Walk.blk rfl (fun b => .slice (some ⟨b, 0, none⟩) 1 1) (.cells ((entL (P, X).1 (P, X).2).map (Value.int .u8)).toArray 84 (0, 0)) (by simp) ?_
            intro bi w5 hb5 hF5 hge5 _
            apply Exists.intro
            refine ⟨fun w4 hb4 hF4 => wpQuiet_nil rfl, ?_⟩
            refine FlowB.AlChk.nil ?_
            refine FlowB.Walk.does rfl (fun _ _ => True) (fun v w' => OwnS 84 w' (w.heap.size + 1) v (R ++ [(P, X)])) (fun _ _ _ _ h _ => h) (fun v w' w'' h k => h.below k) rfl (fun q1 hb1 hF1 hG1 => ?_) ?_
            · have kb : Blk q1 bi ((entL (P, X).1 (P, X).2).map (Value.int .u8)).toArray 84 := hF1.2
              obtain ⟨v', w', hr, ho', hg⟩ := run_append_s (L := 80) Tryd.underlying80 info_spot 80 hG1 kb ⟨HDP.out, HX.out⟩ (Nat.le_trans HRL.out (by decide)) (Nat.le_trans hsc hb1.size)
              exact ⟨v', w', FlowB.exec_append rfl rfl rfl hr, butIn_grown hg, trivial, ho'⟩
            rintro v1 q1 hb1 hF1 _
            apply Exists.intro
            refine ⟨fun w4 hb4 hF4 => wpQuiet_nil rfl, ?_⟩
            refine FlowB.AlChk.nil ?_
            refine FlowB.Walk.fin fun wq h9 _ hG9 => ?_
            simp only [List.drop_succ_cons, List.drop_zero]
            have HBq := hid (h9.below HWc.out HWc.out.size (by intro s hs; have := (HS.out s hs).1; omega))
            have HGq := hid hG9
            have HKq := hid (h9.blk Kew37.out (fun hs => by have := (HS.out _ hs).1; omega))
            clear h9 hG9
            go_wp2_with fail
            exact ⟨⟨k + 1, by omega, by first | rfl | simp, by rw [HTT.out]; exact HGq.out, HKq.out, HBq.out⟩, by simp [intOf]; omega⟩
      · skip
        have HTT := hid (show upRow S E (S.take (k + 1)) = R from HTK.out)
        go_wp2_with (
              refine wpList_store_blk rfl 23 _ _ rfl (w33.heap.size) (m1.map (Value.int .u8)).toArray rfl rfl _ 23 (Blk.new rfl (byteCells 32 []) _) 32 size_digest zsize HDM.out.size (ints_one _ _) ?_
              intro w34 hbw34 hkw34
              have hw34 := hbw34.below ((Below.refl w33.heap.size w33).alloc (Nat.le_refl _) _) (by simp only [World.size_alloc]; omega) (Nat.le_refl _)
              have HBw34 := hid (Below.on HBw33.out hw34)
              have hsw34 := HBw34.out.size
              have Kew34 := hid (Kew33.out.below hw34)
              have hlew34 := Kew33.out.lt
              have Kpw34 := hid (Kpw33.out.below hw34)
              have hlpw34 := Kpw33.out.lt
              have Kmw34 := hid hkw34
              have hfw34 : wr.heap.size ≤ w33.heap.size := HBw33.out.size
              clear hbw34 hkw34 hw34)
        exact ⟨⟨k + 1, by omega, by first | rfl | simp, by rw [HTT.out]; exact HO.out.below HBw34.out, Kew34.out, (Below.on HBwr.out HBw34.out)⟩, by simp [intOf]; omega⟩
    · skip
      have hke : k = len := by omega
      subst hke
      have hcI : ¬ (k : Int) < (k : Int) := by omega
      have hta : S.take k = S := List.take_of_length_le (by omega)
      rw [hta] at ho
      have HO := hid (ho.re (Nat.le_succ w.heap.size))
      clear hta hrl ho
      go_wp2_with fail
      go_returns
      exact ⟨_, rfl, HO.out, HBwr.out⟩
end Go.Proofs.YthaicocfbmpnmaaDoor

namespace Go.Proofs.YthaicocfbmpnmaaDoor
open Go.ChangeShapes Go.WideShapes Go.ChangeAt Go.RowKit

/-- The row of a level. -/
def upN (es : List (List Int × List Int)) : Nat → List (List Int × List Int)
  | 0 => es.map leafP
  | k + 1 => upL (upN es k) (emptyL k)
theorem upN_len (es : List (List Int × List Int)) (k : Nat) : (upN es k).length ≤ es.length := by
  induction k with
  | zero => unfold upN; rw [List.length_map]; exact Nat.le_refl _
  | succ k ih => exact Nat.le_trans (upRow_len _ _ _) ih
/-- The reference's root. -/
def rootR (es : List (List Int × List Int)) : List Int := if (upN es 256).length = 0 then emptyL 256 else ((upN es 256).getD 0 ([], [])).2
set_option maxHeartbeats 4000000 in
set_option maxRecDepth 100000 in
theorem refroot17_any (a : Option Addr) (len cap : Nat) (es : List (List Int × List Int)) (w : World) (hE : EntsAt w a len cap es) (hmx : len ≤ 300) :
    Calls Tryd.prog 25 #[.slice a len cap] w fun e w' => e = .returned (.agg ((rootR es).map (Value.int .u8)).toArray) ∧ Below w.heap.size w w' := by
  have b1 := (Below.refl w.heap.size w).alloc (Nat.le_refl _) (.cells (byteCells 32 []) 23 (0, 0))
  have Kr := hid (Blk.new (w := w) (n := w.heap.size) rfl (byteCells 32 []) 23)
  have Hb := hid b1
  have hbz := b1.size
  have Hbs := hid (show w.heap.size + 1 = (w.alloc (.cells (byteCells 32 []) 23 (0, 0))).heap.size by simp only [World.size_alloc])
  clear b1 
  have HE := hid (hE.below Hb.out)
  clear hE
  go_enter Tryd.func25, Tryd.ntmps25
  go_wp2_with fail
  refine (refempty_any _).mono ?_
  rintro e w1 ⟨ve, rfl, b1, hoe⟩
  obtain ⟨ae, ce, rfl, hde, -⟩ := hoe.digs
  rw [empN_length] at hde ⊢
  obtain ⟨g, o, rfl, hg, hr⟩ := hde.at_ (by decide)
  have HG := hid hr
  have HB1 := hid (Below.on Hb.out b1)
  have Kr1 := hid (Kr.out.below b1)
  have HE1 := hid (HE.out.below b1)
  have hlen := HE.out.length
  have hs1 := HB1.out.size
  clear b1 hoe hde hr
  go_wp2_with fail
  refine (row_any a len cap es _ HE1.out hmx).mono ?_
  rintro e w2 ⟨v2, rfl, o2, b2⟩
  have HO2 := hid o2
  have HB2 := hid b2
  clear o2 b2
  go_wp2_with fail
  go_loopw [4, 5] (fun ov kv wr => ∃ k : Nat, k ≤ 256 ∧ kv = .int .i64 k ∧ OwnS 84 wr w1.heap.size ov (upN es k) ∧ Below w1.heap.size w1 wr) (fun _ kv _ => 256 - (intOf kv).toNat)
  case atStart => exact ⟨0, Nat.zero_le _, rfl, HO2.out, HB2.out⟩
  case round =>
    obtain ⟨k, hk, rfl, ho, bel⟩ := hrel
    have HBr := hid bel
    have hsr := bel.size
    have HLN := hid (upN_len es k)
    obtain ⟨a1, c1, rfl, he1⟩ := ho.ents
    have HE2 := hid he1
    have hn1 : ∃ n1, n1 = (upN es k).length := ⟨_, rfl⟩
    obtain ⟨n1, hn1⟩ := hn1
    have hl1 : n1 ≤ 300 := by have := HLN.out; omega
    have HN1 := hid hn1
    rw [← hn1] at HE2 ⊢
    clear bel ho he1 hn1
    by_cases hlt : k < 256
    · skip
      have hcI : (k : Int) < 256 := by omega
      have hwr : wrap64 ((k : Int) + 1) = (k : Int) + 1 := by unfold wrap64; omega
      have HRG := hid (rangeAt_belowB (HG.out k (by omega)) hg HBr.out)
      rw [empN_get (by omega)] at HRG
      have HD := hid (Dg.emptyL k)
      have HUP := hid (show upL (upN es k) (emptyL k) = upN es (k + 1) from rfl)
      have CU := hid (fun W : World => fun h : EntsAt W a1 n1 c1 (upN es k) => up_any a1 n1 c1 (upN es k) (emptyL k) W h hl1 HD.out)
      rw [HUP.out] at CU
      clear HUP
      generalize emptyL k = E at *
      go_wp2_with (first
        | (refine wpList_index_k rfl 27 _ _ rfl Tryd.underlying27 size_digest g o 257 ce rfl _ _ rfl k rfl (by omega) ?_)
        | (refine wpList_load_mid rfl 23 _ rfl g (o + k * 32) rfl _ _ HRG.out Tryd.underlying23 rfl (by rw [List.length_map, HD.out.len]; exact size_digest) ?_))
      refine (CU.out _ HE2.out).mono ?_
      rintro e w3 ⟨v3, rfl, o3, b3⟩
      have HO3 := hid (o3.re hsr)
      have HB3 := hid (Below.on HBr.out b3)
      clear o3 b3
      go_wp2_with fail
      exact ⟨⟨k + 1, by omega, by first | rfl | simp, HO3.out, HB3.out⟩, by simp [intOf]; omega⟩
    · skip
      have hke : k = 256 := by omega
      subst hke
      have hcI : ¬ ((256 : Nat) : Int) < 256 := by omega
      have HBw := hid (Below.on HB1.out HBr.out)
      have HKr := hid (Kr1.out.below HBr.out)
      by_cases hz : n1 = 0
      · have hb0 : ((n1 : Int) == 0) = true := by rw [hz]; rfl
        have hres : rootR es = emptyL 256 := by unfold rootR; rw [← HN1.out, if_pos hz]
        have HRES := hid hres
        have HRG := hid (rangeAt_belowB (HG.out 256 (by decide)) hg HBr.out)
        rw [empN_get (by decide)] at HRG
        have HD := hid (Dg.emptyL 256)
        clear hres
        generalize emptyL 256 = E at *
        subst hz
        go_wp2_with (first
          | (refine wpList_index_k rfl 27 _ _ rfl Tryd.underlying27 size_digest g o 257 ce rfl _ _ rfl 256 rfl (by decide) ?_)
          | (refine wpList_load_mid rfl 23 _ rfl g (o + 256 * 32) rfl _ _ HRG.out Tryd.underlying23 rfl (by rw [List.length_map, HD.out.len]; exact size_digest) ?_)
          | (
            refine wpList_store_blk rfl 23 _ _ rfl (w.heap.size) (E.map (Value.int .u8)).toArray rfl rfl _ 23 HKr.out 32 size_digest zsize HD.out.size (ints_one _ _) ?_
            intro w9 hb9 hk9
            have HB9 := hid (hb9.below HBw.out HBw.out.size (by omega))
            have HK9 := hid hk9
            clear hb9 hk9))
        exact bodyPost_ret (v := .agg (E.map (Value.int .u8)).toArray) (results_blk Tryd.results25 _ (w.heap.size) rfl _ 23 HK9.out _ Tryd.underlying23 rfl 32 size_digest HD.out.size) rfl ⟨by rw [HRES.out], HB9.out⟩
      · obtain ⟨x, p, rfl, hx, hc⟩ := HE2.out.at_ (by omega)
        have hb0 : ((n1 : Int) == 0) = false := by rw [beq_eq_false_iff_ne]; omega
        have hres : rootR es = ((upN es 256).getD 0 ([], [])).2 := by unfold rootR; rw [← HN1.out, if_neg hz]
        have HRES := hid hres
        have hme : (upN es 256).getD 0 ([], []) ∈ upN es 256 := by rw [List.getD_eq_getElem?_getD, List.getElem?_eq_getElem (by rw [← HN1.out]; omega)]; exact List.getElem_mem _
        have hdx := HE2.out.each _ hme
        have hRg := hc 0 (by omega)
        clear hres hme hc
        generalize (upN es 256).getD 0 ([], []) = y at *
        obtain ⟨d, E⟩ := y
        dsimp only at hdx hRg HRES
        have HD := hid hdx.2
        have HRG := hid (range_back hdx.1 hRg)
        have hn0 : 0 < n1 := by omega
        clear hdx hRg
        go_wp2_with (first
          | (refine wpList_index_k rfl 80 _ _ rfl Tryd.underlying80 size_spot x p n1 c1 rfl _ _ rfl 0 rfl hn0 ?_)
          | (refine wpList_load_mid rfl 23 _ rfl x (p + 0 * 64 + 32) rfl _ _ HRG.out Tryd.underlying23 rfl (by rw [List.length_map, HD.out.len]; exact size_digest) ?_)
          | (
            refine wpList_store_blk rfl 23 _ _ rfl (w.heap.size) (E.map (Value.int .u8)).toArray rfl rfl _ 23 HKr.out 32 size_digest zsize HD.out.size (ints_one _ _) ?_
            intro w9 hb9 hk9
            have HB9 := hid (hb9.below HBw.out HBw.out.size (by omega))
            have HK9 := hid hk9
            clear hb9 hk9))
        exact bodyPost_ret (v := .agg (E.map (Value.int .u8)).toArray) (results_blk Tryd.results25 _ (w.heap.size) rfl _ 23 HK9.out _ Tryd.underlying23 rfl 32 size_digest HD.out.size) rfl ⟨by rw [HRES.out], HB9.out⟩
end Go.Proofs.YthaicocfbmpnmaaDoor

namespace Go.Proofs.YthaicocfbmpnmaaDoor
open Go.ChangeShapes Go.WideShapes Go.ChangeAt Go.RowKit

/-- The index of an entry. -/
def idxE (es : List (List Int × List Int)) (i : Nat) : List Int := (es.getD i ([], [])).1
theorem idx_nodup {es : List (List Int × List Int)} (h : ∀ j, j < es.length → ∀ k, k < j → idxE es j ≠ idxE es k) : (es.map Prod.fst).Nodup := by
  rw [List.Nodup, List.pairwise_map, List.pairwise_iff_getElem]
  intro i j hi hj hij hc
  refine h j hj i hij ?_
  unfold idxE
  rw [List.getD_eq_getElem?_getD, List.getD_eq_getElem?_getD, List.getElem?_eq_getElem hi, List.getElem?_eq_getElem hj]
  exact hc.symm
theorem idx_twice {es : List (List Int × List Int)} {j k : Nat} (hj : j < es.length) (hk : k < j) (h : idxE es j = idxE es k) : ¬ (es.map Prod.fst).Nodup := by
  rw [List.Nodup, List.pairwise_map, List.pairwise_iff_getElem]
  intro hc
  have := hc k j (by omega) hj hk
  unfold idxE at h
  rw [List.getD_eq_getElem?_getD, List.getD_eq_getElem?_getD, List.getElem?_eq_getElem hj, List.getElem?_eq_getElem (by omega)] at h
  exact this h.symm
set_option maxHeartbeats 4000000 in
set_option maxRecDepth 100000 in
theorem refbad_big (a : Option Addr) (len cap : Nat) (es : List (List Int × List Int)) (w : World) (hE : EntsAt w a len cap es) (hmx : 256 < len) :
    Calls Tryd.prog 23 #[.slice a len cap] w fun e w' => e = .returned (.int .i64 3) ∧ Below w.heap.size w w' := by
  have HE := hid hE
  have Hb := hid (Below.refl w.heap.size w)
  clear hE
  have hcL : (256 : Int) < (len : Int) := by omega
  go_enter Tryd.func23, Tryd.ntmps23
  go_wp2_with fail
  go_returns
  exact ⟨rfl, Hb.out⟩
set_option maxHeartbeats 4000000 in
set_option maxRecDepth 100000 in
theorem refbad_in (a : Option Addr) (len cap : Nat) (es : List (List Int × List Int)) (w : World) (hE : EntsAt w a len cap es) (hmx : len ≤ 256) :
    Calls Tryd.prog 23 #[.slice a len cap] w fun e w' => ∃ n : Int, e = .returned (.int .i64 n) ∧ ((n = 0 ∧ (es.map Prod.fst).Nodup) ∨ (n = 5 ∧ ¬ (es.map Prod.fst).Nodup)) ∧ Below w.heap.size w w' := by
  have HE := hid hE
  have Hb := hid (Below.refl w.heap.size w)
  have hlen := hE.length
  clear hE
  have hcL : ¬ (256 : Int) < (len : Int) := by omega
  go_enter Tryd.func23, Tryd.ntmps23
  go_wp2_with fail
  go_loopw [3] (fun iv wr => ∃ i : Nat, i ≤ len ∧ iv = .int .i64 i ∧ (∀ j, j < i → ∀ k, k < j → idxE es j ≠ idxE es k) ∧ Below w.heap.size w wr) (fun iv _ => len - (intOf iv).toNat)
  case atStart => exact ⟨0, Nat.zero_le _, rfl, fun j hj => by omega, Hb.out⟩
  case round =>
    obtain ⟨i, hi, rfl, hno, bel⟩ := hrel
    have HNO := hid hno
    have HBr := hid bel
    have hsr := bel.size
    clear hno bel
    by_cases hlt : i < len
    · skip
      have hcI : (i : Int) < (len : Int) := by omega
      have hwr : wrap64 ((i : Int) + 1) = (i : Int) + 1 := by unfold wrap64; omega
      obtain ⟨x, o, rfl, hx, hc⟩ := HE.out.at_ (by omega)
      have hm : ∀ j, j < len → es.getD j ([], []) ∈ es := fun j hj => by rw [List.getD_eq_getElem?_getD, List.getElem?_eq_getElem (by omega)]; exact List.getElem_mem _
      have HDG := hid (fun (j : Nat) (hj : j < len) => show Dg (idxE es j) from (HE.out.each _ (hm j hj)).1)
      have HRG := hid (fun (j : Nat) (hj : j < len) => show w.rangeAt x (o + j * 64) ((idxE es j).map (Value.int .u8)) from range_front (HE.out.each _ (hm j hj)).1 (hc j hj))
      have HTW := hid (fun (k : Nat) (hk : k < i) (h : idxE es i = idxE es k) => idx_twice (es := es) (by omega) hk h)
      clear hm hc
      go_wp2_with fail
      go_loopw [4] (fun kv wq => ∃ k : Nat, k ≤ i ∧ kv = .int .i64 k ∧ (∀ m, m < k → idxE es i ≠ idxE es m) ∧ Below w.heap.size w wq) (fun kv _ => i - (intOf kv).toNat)
      case atStart => exact ⟨0, Nat.zero_le _, rfl, fun m hm => by omega, HBr.out⟩
      case round =>
        obtain ⟨k, hk, rfl, hnk, bel⟩ := hrel
        have HNK := hid hnk
        have HBq := hid bel
        have hsq := bel.size
        clear hnk bel
        by_cases hlk : k < i
        · skip
          have hcK : (k : Int) < (i : Int) := by omega
          have hwk : wrap64 ((k : Int) + 1) = (k : Int) + 1 := by unfold wrap64; omega
          have HRi := hid (HRG.out i hlt)
          have HRk := hid (HRG.out k (by omega))
          have HDi := hid (HDG.out i hlt)
          have HDk := hid (HDG.out k (by omega))
          have HTK := hid (HTW.out k hlk)
          have HNX := hid (fun (h : idxE es i ≠ idxE es k) (m : Nat) (hm : m < k + 1) => show idxE es i ≠ idxE es m from by
            rcases Nat.lt_succ_iff_lt_or_eq.1 hm with h1 | rfl
            · exact HNK.out m h1
            · exact h)
          generalize hgd : idxE es i = d at HRi HDi HTK
          generalize hgp : idxE es k = p at HRk HDk HTK
          have HGD := hid hgd
          have HGP := hid hgp
          clear hgd hgp
          go_wp2_with fail
          have hqq := fun W : World => eqD d p HDi.out.len HDk.out.len W
          by_cases hdp : d = p
          · skip
            rw [decide_eq_true hdp] at hqq
            have HQ := hid hqq
            have HDP := hid hdp
            clear hqq hdp
            refine wp_region_flow 11 (List.range 11) [] [] (by kernel_rfl) (by kernel_rfl) ?_
            apply Exists.intro
            refine ⟨fun w0 hb0 hF0 => ?_, ?_⟩
            · skip
              have xa : ∀ w', (∃ x : Ext w0, w' = x.at_) → w'.rangeAt x (o + i * 64) (d.map (Value.int .u8)) := fun w' ⟨y, hy⟩ => hy ▸ rangeAt_belowB HRi.out hx (Below.on (Below.on HBq.out hb0) y.same)
              have xb : ∀ w', (∃ x : Ext w0, w' = x.at_) → w'.rangeAt x (o + k * 64) (p.map (Value.int .u8)) := fun w' ⟨y, hy⟩ => hy ▸ rangeAt_belowB HRk.out hx (Below.on (Below.on HBq.out hb0) y.same)
              simp only [pick, List.range, List.range.loop, List.getElem?_toArray, List.getElem?_cons_succ, List.getElem?_cons_zero, Option.toList_some, List.cons_append, List.nil_append]
              repeat (first | (go_big_quiet_want; refine quiet_index_k 41 _ _ rfl Tryd.underlying41 size_rent x o len cap rfl _ _ rfl i rfl (by omega) ?_; go_big_quiet_on; simp only [Act.put, List.setIfInBounds_toArray, List.set_cons_zero, List.set_cons_succ]) | (go_big_quiet_want; refine quiet_index_k 41 _ _ rfl Tryd.underlying41 size_rent x o len cap rfl _ _ rfl k rfl (by omega) ?_; go_big_quiet_on; simp only [Act.put, List.setIfInBounds_toArray, List.set_cons_zero, List.set_cons_succ]) | (go_big_quiet_want; refine quiet_load_mid 23 _ rfl x (o + i * 64) rfl _ xa _ Tryd.underlying23 rfl (by rw [List.length_map, HDi.out.len]; exact size_digest) ?_; go_big_quiet_on; simp only [Act.put, List.setIfInBounds_toArray, List.set_cons_zero, List.set_cons_succ]) | (go_big_quiet_want; refine quiet_load_mid 23 _ rfl x (o + k * 64) rfl _ xb _ Tryd.underlying23 rfl (by rw [List.length_map, HDk.out.len]; exact size_digest) ?_; go_big_quiet_on; simp only [Act.put, List.setIfInBounds_toArray, List.set_cons_zero, List.set_cons_succ]) | (go_big_quiet_want; refine quiet_cmp _ _ rfl _ _ _ rfl rfl HQ.out ?_; go_big_quiet_on; simp only [Act.put, List.setIfInBounds_toArray, List.set_cons_zero, List.set_cons_succ]) | go_big_quiet_step (fail))
              exact wpQuiet_nil rfl
            refine AlChk.nil ?_
            refine Walk.fin fun w31 hw31 _ _ => ?_
            simp only [List.drop_succ_cons, List.drop_zero]
            have HBw31 := hid (Below.on HBq.out hw31)
            have hsw31 := HBw31.out.size
            clear hw31
            go_wp2_with fail
            go_returns
            exact ⟨5, rfl, .inr ⟨rfl, HTK.out HDP.out⟩, HBw31.out⟩
          · skip
            rw [decide_eq_false hdp] at hqq
            have HQ := hid hqq
            have HDP := hid hdp
            clear hqq hdp
            refine wp_region_flow 11 (List.range 11) [] [] (by kernel_rfl) (by kernel_rfl) ?_
            apply Exists.intro
            refine ⟨fun w0 hb0 hF0 => ?_, ?_⟩
            · skip
              have xa : ∀ w', (∃ x : Ext w0, w' = x.at_) → w'.rangeAt x (o + i * 64) (d.map (Value.int .u8)) := fun w' ⟨y, hy⟩ => hy ▸ rangeAt_belowB HRi.out hx (Below.on (Below.on HBq.out hb0) y.same)
              have xb : ∀ w', (∃ x : Ext w0, w' = x.at_) → w'.rangeAt x (o + k * 64) (p.map (Value.int .u8)) := fun w' ⟨y, hy⟩ => hy ▸ rangeAt_belowB HRk.out hx (Below.on (Below.on HBq.out hb0) y.same)
              simp only [pick, List.range, List.range.loop, List.getElem?_toArray, List.getElem?_cons_succ, List.getElem?_cons_zero, Option.toList_some, List.cons_append, List.nil_append]
              repeat (first | (go_big_quiet_want; refine quiet_index_k 41 _ _ rfl Tryd.underlying41 size_rent x o len cap rfl _ _ rfl i rfl (by omega) ?_; go_big_quiet_on; simp only [Act.put, List.setIfInBounds_toArray, List.set_cons_zero, List.set_cons_succ]) | (go_big_quiet_want; refine quiet_index_k 41 _ _ rfl Tryd.underlying41 size_rent x o len cap rfl _ _ rfl k rfl (by omega) ?_; go_big_quiet_on; simp only [Act.put, List.setIfInBounds_toArray, List.set_cons_zero, List.set_cons_succ]) | (go_big_quiet_want; refine quiet_load_mid 23 _ rfl x (o + i * 64) rfl _ xa _ Tryd.underlying23 rfl (by rw [List.length_map, HDi.out.len]; exact size_digest) ?_; go_big_quiet_on; simp only [Act.put, List.setIfInBounds_toArray, List.set_cons_zero, List.set_cons_succ]) | (go_big_quiet_want; refine quiet_load_mid 23 _ rfl x (o + k * 64) rfl _ xb _ Tryd.underlying23 rfl (by rw [List.length_map, HDk.out.len]; exact size_digest) ?_; go_big_quiet_on; simp only [Act.put, List.setIfInBounds_toArray, List.set_cons_zero, List.set_cons_succ]) | (go_big_quiet_want; refine quiet_cmp _ _ rfl _ _ _ rfl rfl HQ.out ?_; go_big_quiet_on; simp only [Act.put, List.setIfInBounds_toArray, List.set_cons_zero, List.set_cons_succ]) | go_big_quiet_step (fail))
              exact wpQuiet_nil rfl
            refine AlChk.nil ?_
            refine Walk.fin fun w31 hw31 _ _ => ?_
            simp only [List.drop_succ_cons, List.drop_zero]
            have HBw31 := hid (Below.on HBq.out hw31)
            have hsw31 := HBw31.out.size
            clear hw31
            go_wp2_with fail
            exact ⟨⟨k + 1, by omega, by first | rfl | simp, fun m hm => by rw [← HGD.out]; exact HNX.out (by rw [HGD.out, HGP.out]; exact HDP.out) m hm, HBw31.out⟩, by simp [intOf]; omega⟩
        · skip
          have hke : k = i := by omega
          subst hke
          have hcK : ¬ (k : Int) < (k : Int) := by omega
          have HNX := hid (fun (j : Nat) (hj : j < k + 1) => show ∀ m, m < j → idxE es j ≠ idxE es m from by
            rcases Nat.lt_succ_iff_lt_or_eq.1 hj with h1 | rfl
            · exact HNO.out j h1
            · exact HNK.out)
          go_wp2_with fail
          exact ⟨⟨k + 1, by omega, by first | rfl | simp, HNX.out, HBq.out⟩, by simp [intOf]; omega⟩
    · skip
      have hke : i = len := by omega
      subst hke
      have hcI : ¬ (i : Int) < (i : Int) := by omega
      have HND := hid (idx_nodup (es := es) (fun j hj => HNO.out j (by omega)))
      go_wp2_with fail
      go_returns
      exact ⟨0, rfl, .inl ⟨rfl, HND.out⟩, HBr.out⟩
end Go.Proofs.YthaicocfbmpnmaaDoor

namespace Go.Proofs.YthaicocfbmpnmaaDoor
open Go.ChangeShapes Go.WideShapes Go.ChangeAt Go.RowKit

theorem bit_mod (n k : Nat) : n.testBit k = decide (n / 2 ^ k % 2 = 1) := Nat.testBit_eq_decide_div_mod_eq
/-- Turned down by a bit, as a number. -/
theorem num_half {d : List Int} (h : Dg d) : numL (halfL d) = numL d / 2 := by
  apply Nat.eq_of_testBit_eq
  intro k
  rw [Nat.testBit_div_two, bit_mod, bit_mod]
  have s1 := num_small h
  have s2 := num_small h.half
  by_cases hk : k + 1 < 256
  · have h1 := bit_num h.half (k := k) (by omega)
    have h2 := bit_num h hk
    rw [bit_half h k hk] at h1
    have h3 := h1.symm.trans h2
    congr 2
    omega
  · have hz : numL d / 2 ^ (k + 1) = 0 := Nat.div_eq_of_lt (Nat.lt_of_lt_of_le s1 (Nat.pow_le_pow_right (by omega) (by omega)))
    rw [hz]
    by_cases hk2 : k < 256
    · have hke : k = 255 := by omega
      subst hke
      have h1 := bit_num h.half (k := 255) (by omega)
      have h0 := dg_at h 0
      have hb : bitL (halfL d) 255 = 0 := by
        unfold bitL
        rw [halfL_get (by omega)]
        unfold halfB
        simp only [Nat.reduceDiv, Nat.reduceSub, Nat.reduceMod, if_true, Nat.sub_self]
        omega
      rw [hb] at h1
      congr 2
      omega
    · have hz2 : numL (halfL d) / 2 ^ k = 0 := Nat.div_eq_of_lt (Nat.lt_of_lt_of_le s2 (Nat.pow_le_pow_right (by omega) (by omega)))
      rw [hz2]
theorem snoc_of {d : List Int} (h : Dg d) : ∃ l x, d = l ++ [x] ∧ l.length = 31 := by
  rcases List.eq_nil_or_concat d with rfl | ⟨l, a, rfl⟩
  · have := h.len
    simp at this
  · have := h.len
    rw [List.concat_eq_append, List.length_append] at this
    exact ⟨l, a, by rw [List.concat_eq_append], by simpa using this⟩
/-- The place beside one, as a number. -/
theorem num_beside {d : List Int} (h : Dg d) : numL (besideL d) = if numL d % 2 = 0 then numL d + 1 else numL d - 1 := by
  have h31 := dg_at h 31
  obtain ⟨l, x, rfl, hl⟩ := snoc_of h
  have hx : (l ++ [x]).getD 31 0 = x := by
    rw [List.getD_eq_getElem?_getD, List.getElem?_append_right (by omega), hl]
    rfl
  unfold besideL
  rw [hx] at h31 ⊢
  rw [List.set_append_right _ _ (by omega), hl, Nat.sub_self, List.set_cons_zero, numL_snoc, numL_snoc]
  by_cases hq : x % 2 = 0
  · rw [if_pos hq, if_pos (by omega)]
    omega
  · rw [if_neg hq, if_neg (by omega)]
    omega
theorem last_bit {d : List Int} (h : Dg d) : (d.getD 31 0 % 2 = 0) ↔ numL d % 2 = 0 := by
  have h31 := dg_at h 31
  obtain ⟨l, x, rfl, hl⟩ := snoc_of h
  have hx : (l ++ [x]).getD 31 0 = x := by
    rw [List.getD_eq_getElem?_getD, List.getElem?_append_right (by omega), hl]
    rfl
  rw [hx] at h31 ⊢
  rw [numL_snoc]
  omega
/-- Two places have the same one above: they are the same, or beside each other. -/
theorem half_same {p q : List Int} (hp : Dg p) (hq : Dg q) : halfL q = halfL p ↔ (q = p ∨ q = besideL p) := by
  have e1 := num_half hp
  have e2 := num_half hq
  have e3 := num_beside hp
  constructor
  · intro h
    rw [h, e1] at e2
    by_cases hn : numL q = numL p
    · exact .inl (num_inj hq hp hn)
    · refine .inr (num_inj hq hp.beside ?_)
      rw [e3]
      split <;> omega
  · rintro (rfl | rfl)
    · rfl
    · apply num_inj hp.beside.half hp.half
      rw [num_half hp.beside, e1, e3]
      split <;> omega
/-- The entries below a place of a level. -/
def underT (es : List EntT) (k : Nat) (p : List Int) : List EntT := es.filter fun x => decide (halfK k x.1 = p)
theorem right_num {x : EntT} (h : Dg x.1) {k : Nat} (hk : k < 256) : rightB k x = decide (numL (halfK k x.1) % 2 = 1) := by
  have h1 := bit_halfK h k 0 (by omega)
  rw [Nat.add_zero] at h1
  have h2 := bit_num (h.halfK k) (k := 0) (by omega)
  rw [Nat.pow_zero, Nat.div_one] at h2
  unfold rightB
  rw [← h1, h2]
  apply decide_eq_decide.2
  omega
/-- What is below the place above: on the one side what is below the place, on the other what is below the one beside. -/
theorem under_side {es : List EntT} (he : ∀ x ∈ es, Dg x.1) {k : Nat} (hk : k < 256) {p : List Int} (hp : Dg p) :
    (underT es (k + 1) (halfL p)).filter (fun x => rightB k x == decide (numL p % 2 = 1)) = underT es k p ∧ (underT es (k + 1) (halfL p)).filter (fun x => rightB k x == !decide (numL p % 2 = 1)) = underT es k (besideL p) := by
  have hne : numL (besideL p) % 2 ≠ numL p % 2 := by
    rw [num_beside hp]
    split <;> omega
  have e0 : ∀ x ∈ es, (halfK (k + 1) x.1 = halfL p ↔ (halfK k x.1 = p ∨ halfK k x.1 = besideL p)) := fun x hx => half_same hp ((he x hx).halfK k)
  unfold underT
  rw [List.filter_filter, List.filter_filter]
  constructor
  · refine List.filter_congr fun x hx => ?_
    rw [right_num (he x hx) hk, Bool.eq_iff_iff]
    simp only [Bool.and_eq_true, decide_eq_true_eq, beq_iff_eq, decide_eq_decide]
    rw [e0 x hx]
    constructor
    · rintro ⟨h1, h2 | h2⟩
      · exact h2
      · rw [h2] at h1; omega
    · intro h2
      rw [h2]
      exact ⟨Iff.rfl, .inl rfl⟩
  · refine List.filter_congr fun x hx => ?_
    rw [right_num (he x hx) hk, Bool.eq_iff_iff]
    simp only [Bool.and_eq_true, decide_eq_true_eq, beq_iff_eq, ← decide_not, decide_eq_decide]
    rw [e0 x hx]
    constructor
    · rintro ⟨h1, h2 | h2⟩
      · rw [h2] at h1; omega
      · exact h2
    · intro h2
      rw [h2]
      exact ⟨by omega, .inr rfl⟩
/-- A row of a level: the places above entries, each with its node. -/
structure RowT (es : List EntT) (k : Nat) (R : List EntT) : Prop where
  from_ : ∀ y ∈ R, ∃ x ∈ es, y.1 = halfK k x.1
  node : ∀ y ∈ R, y.2 = nodeT k (underT es k y.1)
def AllT (es : List EntT) (k : Nat) (R : List EntT) : Prop := ∀ x ∈ es, ∃ y ∈ R, y.1 = halfK k x.1
theorem findP_true {R : List EntT} {p : List Int} (h : (findP R p).2 = true) : ∃ y ∈ R, y.1 = p ∧ (findP R p).1 = y.2 := by
  unfold findP at h ⊢
  split at h
  · rename_i y hy
    exact ⟨y, List.mem_of_find?_eq_some hy, by simpa using List.find?_some hy, rfl⟩
  · cases h
theorem findP_false {R : List EntT} {p : List Int} (h : (findP R p).2 ≠ true) : ∀ y ∈ R, y.1 ≠ p := by
  unfold findP at h
  split at h
  · exact absurd rfl h
  · rename_i hn
    intro y hy
    simpa using List.find?_eq_none.1 hn y hy
theorem other_node {es : List EntT} {k : Nat} {S : List EntT} (hS : RowT es k S) (hA : AllT es k S) (d : List Int) : otherP S (emptyL k) d = nodeT k (underT es k (besideL d)) := by
  unfold otherP
  split
  · rename_i h
    obtain ⟨y, hy, h1, h2⟩ := findP_true h
    rw [h2, hS.node y hy, h1]
  · rename_i h
    have h0 := findP_false h
    have : underT es k (besideL d) = [] := by
      unfold underT
      rw [List.filter_eq_nil_iff]
      intro x hx
      obtain ⟨y, hy, h1⟩ := hA x hx
      have := h0 y hy
      rw [h1] at this
      simpa using this
    rw [this, nodeT_nil]
theorem step_row {es : List EntT} (he : ∀ x ∈ es, Dg x.1) {k : Nat} (hk : k < 256) {S : List EntT} (hS : RowT es k S) (hA : AllT es k S) {R : List EntT} (hR : RowT es (k + 1) R) {s : EntT} (hs : s ∈ S) :
    RowT es (k + 1) (upStep S (emptyL k) R s) ∧ (∃ y ∈ upStep S (emptyL k) R s, y.1 = halfL s.1) ∧ ∀ y ∈ R, y ∈ upStep S (emptyL k) R s := by
  obtain ⟨x, hx, hsx⟩ := hS.from_ s hs
  have hd : Dg s.1 := by rw [hsx]; exact (he x hx).halfK k
  unfold upStep
  split
  · rename_i h
    obtain ⟨y, hy, h1, _⟩ := findP_true h
    exact ⟨hR, ⟨y, hy, h1⟩, fun y hy => hy⟩
  · refine ⟨⟨fun y hy => ?_, fun y hy => ?_⟩, ⟨_, List.mem_append_right _ (List.mem_singleton.2 rfl), rfl⟩, fun y hy => List.mem_append_left _ hy⟩
    · rcases List.mem_append.1 hy with h | h
      · exact hR.from_ y h
      · rw [List.mem_singleton.1 h]
        exact ⟨x, hx, by rw [hsx]; rfl⟩
    · rcases List.mem_append.1 hy with h | h
      · exact hR.node y h
      · rw [List.mem_singleton.1 h]
        dsimp only
        rw [other_node hS hA, hS.node s hs, nodeT]
        obtain ⟨u1, u2⟩ := under_side he hk hd
        by_cases hq : numL s.1 % 2 = 0
        · have hf : decide (numL s.1 % 2 = 1) = false := decide_eq_false (by omega)
          rw [hf, filter_no] at u1
          rw [hf, Bool.not_false, filter_yes] at u2
          rw [if_pos ((last_bit hd).2 hq), u1, u2]
        · have hf : decide (numL s.1 % 2 = 1) = true := decide_eq_true (by omega)
          rw [hf, filter_yes] at u1
          rw [hf, Bool.not_true, filter_no] at u2
          rw [if_neg (fun h => hq ((last_bit hd).1 h)), u1, u2]
theorem fold_row {es : List EntT} (he : ∀ x ∈ es, Dg x.1) {k : Nat} (hk : k < 256) {S : List EntT} (hS : RowT es k S) (hA : AllT es k S) : ∀ (l : List EntT) (R : List EntT), (∀ s ∈ l, s ∈ S) → RowT es (k + 1) R →
    RowT es (k + 1) (l.foldl (upStep S (emptyL k)) R) ∧ (∀ s ∈ l, ∃ y ∈ l.foldl (upStep S (emptyL k)) R, y.1 = halfL s.1) ∧ ∀ y ∈ R, y ∈ l.foldl (upStep S (emptyL k)) R
  | [], R, _, hR => ⟨hR, fun s hs => by simp at hs, fun y hy => hy⟩
  | s :: l, R, hl, hR => by
    obtain ⟨h1, ⟨y, hy, hp⟩, h3⟩ := step_row he hk hS hA hR (hl s List.mem_cons_self)
    obtain ⟨i1, i2, i3⟩ := fold_row he hk hS hA l _ (fun t ht => hl t (List.mem_cons_of_mem _ ht)) h1
    rw [List.foldl_cons]
    refine ⟨i1, fun t ht => ?_, fun y hy => i3 y (h3 y hy)⟩
    rcases List.mem_cons.1 ht with rfl | ht
    · exact ⟨y, i3 y hy, hp⟩
    · exact i2 t ht
theorem row_all {es : List EntT} (he : ∀ x ∈ es, Dg x.1) (hn : (es.map Prod.fst).Nodup) : ∀ k, k ≤ 256 → RowT es k (upN es k) ∧ AllT es k (upN es k)
  | 0, _ => by
    refine ⟨⟨fun y hy => ?_, fun y hy => ?_⟩, fun x hx => ⟨leafP x, List.mem_map.2 ⟨x, hx, rfl⟩, rfl⟩⟩
    · obtain ⟨x, hx, rfl⟩ := List.mem_map.1 hy
      exact ⟨x, hx, rfl⟩
    · obtain ⟨x, hx, rfl⟩ := List.mem_map.1 hy
      have hu : underT es 0 (leafP x).1 = [x] := by
        clear hy
        show es.filter (fun z => decide (z.1 = x.1)) = [x]
        induction es with
        | nil => simp at hx
        | cons y l ih =>
          rw [List.map_cons, List.nodup_cons] at hn
          rcases List.mem_cons.1 hx with rfl | hx
          · rw [List.filter_cons_of_pos (by simp), List.filter_eq_nil_iff.2 (fun z hz => by
              have : z.1 ≠ x.1 := fun e => hn.1 (e ▸ List.mem_map.2 ⟨z, hz, rfl⟩)
              exact fun e => this (of_decide_eq_true e))]
          · have : y.1 ≠ x.1 := fun e => hn.1 (e ▸ List.mem_map.2 ⟨x, hx, rfl⟩)
            rw [List.filter_cons_of_neg (p := fun z : EntT => decide (z.1 = x.1)) (fun e => this (of_decide_eq_true e))]
            exact ih (fun z hz => he z (List.mem_cons_of_mem _ hz)) hn.2 hx
      rw [hu]
      rfl
  | k + 1, hk => by
    obtain ⟨h1, h2⟩ := row_all he hn k (by omega)
    obtain ⟨i1, i2, _⟩ := fold_row he (by omega) h1 h2 (upN es k) [] (fun s hs => hs) ⟨fun y hy => by simp at hy, fun y hy => by simp at hy⟩
    refine ⟨i1, fun x hx => ?_⟩
    obtain ⟨y, hy, hp⟩ := h2 x hx
    obtain ⟨z, hz, hq⟩ := i2 y hy
    exact ⟨z, hz, by rw [hq, hp]; rfl⟩
theorem num_halfK {d : List Int} (h : Dg d) : ∀ k, numL (halfK k d) = numL d / 2 ^ k
  | 0 => by rw [Nat.pow_zero, Nat.div_one]; rfl
  | k + 1 => by
    rw [show halfK (k + 1) d = halfL (halfK k d) from rfl, num_half (h.halfK k), num_halfK h k, Nat.div_div_eq_div_mul, Nat.pow_succ]
theorem halfK_top {a b : List Int} (ha : Dg a) (hb : Dg b) : halfK 256 a = halfK 256 b := by
  apply num_inj (ha.halfK _) (hb.halfK _)
  rw [num_halfK ha, num_halfK hb, Nat.div_eq_of_lt (num_small ha), Nat.div_eq_of_lt (num_small hb)]
/-- The reference's root is the node above all entries. -/
theorem rootR_node {es : List EntT} (he : ∀ x ∈ es, Dg x.1) (hn : (es.map Prod.fst).Nodup) : rootR es = nodeT 256 es := by
  obtain ⟨h1, h2⟩ := row_all he hn 256 (Nat.le_refl _)
  unfold rootR
  generalize upN es 256 = R at *
  cases R with
  | nil =>
    rw [if_pos List.length_nil]
    cases es with
    | nil => rw [nodeT_nil]
    | cons x l =>
      obtain ⟨y, hy, _⟩ := h2 x List.mem_cons_self
      simp at hy
  | cons y l =>
    rw [if_neg (by simp), List.getD_cons_zero, h1.node y List.mem_cons_self]
    obtain ⟨x, hx, hxy⟩ := h1.from_ y List.mem_cons_self
    congr 1
    unfold underT
    rw [List.filter_eq_self]
    intro z hz
    rw [hxy]
    exact decide_eq_true (halfK_top (he z hz) (he x hx))
end Go.Proofs.YthaicocfbmpnmaaDoor

namespace Go.Proofs.YthaicocfbmpnmaaDoor
open Go.ChangeShapes Go.WideShapes Go.ChangeAt Go.RowKit

set_option maxHeartbeats 4000000 in
set_option maxRecDepth 100000 in
theorem roots_far (a : Option Addr) (len cap : Nat) (es : List (List Int × List Int)) (w : World) (hE : EntsAt w a len cap es) (hmx : 20 < len ∧ len ≤ 256 ∨ 300 < len) (tab : ShaTab w) :
    Calls Tryd.prog 4 #[.slice a len cap] w fun e w' => e = .returned (.bool true) ∧ Below w.heap.size w w' := by
  rcases hmx with hmx | hmx
  · skip
    have Hb := hid (Below.refl w.heap.size w)
    have Htab := hid tab
    clear  tab 
    have HE := hid hE
    have Hlen := hid hE.length
    clear hE
    have c1 : (20 : Int) < (len : Int) := by omega
    have c2 : (len : Int) ≤ 256 := by omega
    go_enter Tryd.func4, Tryd.ntmps4
    go_wp2_with fail
    refine (knows17 _ (Htab.out.below Hb.out)).mono ?_
    rintro e w1 ⟨rfl, bw1⟩
    have HBw1 := hid (Below.on Hb.out bw1)
    have hsw1 := HBw1.out.size
    clear bw1
    go_wp2_with fail
    go_returns
    exact ⟨by first | rfl | simp, HBw1.out⟩
  · skip
    have Hb := hid (Below.refl w.heap.size w)
    have Htab := hid tab
    clear  tab 
    have HE := hid hE
    have Hlen := hid hE.length
    clear hE
    have c1 : (20 : Int) < (len : Int) := by omega
    have c2 : ¬ (len : Int) ≤ 256 := by omega
    have c3 : (300 : Int) < (len : Int) := by omega
    go_enter Tryd.func4, Tryd.ntmps4
    go_wp2_with fail
    refine (knows17 _ (Htab.out.below Hb.out)).mono ?_
    rintro e w1 ⟨rfl, bw1⟩
    have HBw1 := hid (Below.on Hb.out bw1)
    have hsw1 := HBw1.out.size
    clear bw1
    go_wp2_with fail
    go_returns
    exact ⟨by first | rfl | simp, HBw1.out⟩
set_option maxHeartbeats 4000000 in
set_option maxRecDepth 100000 in
theorem roots_many (a : Option Addr) (len cap : Nat) (es : List (List Int × List Int)) (w : World) (hE : EntsAt w a len cap es) (hmx : 256 < len ∧ len ≤ 300) (tab : ShaTab w) :
    Calls Tryd.prog 4 #[.slice a len cap] w fun e w' => e = .returned (.bool true) ∧ Below w.heap.size w w' := by
  have q0 : ∀ W : World, (binOp .eql 23 (.agg (byteCells 32 [])) (.agg #[.int .u8 0, .int .u8 0, .int .u8 0, .int .u8 0, .int .u8 0, .int .u8 0, .int .u8 0, .int .u8 0, .int .u8 0, .int .u8 0, .int .u8 0, .int .u8 0, .int .u8 0, .int .u8 0, .int .u8 0, .int .u8 0, .int .u8 0, .int .u8 0, .int .u8 0, .int .u8 0, .int .u8 0, .int .u8 0, .int .u8 0, .int .u8 0, .int .u8 0, .int .u8 0, .int .u8 0, .int .u8 0, .int .u8 0, .int .u8 0, .int .u8 0, .int .u8 0])).run Tryd.prog W = .ok (.bool true) W := fun W => eqD_self zD Dg.zero.len W
  have Hb := hid (Below.refl w.heap.size w)
  have Htab := hid tab
  clear  tab 
  have HE := hid hE
  have Hlen := hid hE.length
  clear hE
  have c1 : (20 : Int) < (len : Int) := by omega
  have c2 : ¬ (len : Int) ≤ 256 := by omega
  have c3 : ¬ (300 : Int) < (len : Int) := by omega
  go_enter Tryd.func4, Tryd.ntmps4
  go_wp2_with fail
  refine (root_many a len cap hmx.1 _).mono ?_
  rintro e w1 ⟨rfl, bw1⟩
  have HBw1 := hid (Below.on Hb.out bw1)
  have hsw1 := HBw1.out.size
  clear bw1
  go_wp2_with (
        refine wpList_store_blk rfl 23 _ _ rfl (w1.heap.size) (byteCells 32 []) rfl rfl _ 23 (Blk.new rfl (byteCells 32 []) _) 32 size_digest zsize zsize (by decide +kernel) ?_
        intro w2 hbw2 hkw2
        have hw2 := hbw2.below ((Below.refl w1.heap.size w1).alloc (Nat.le_refl _) _) (by simp only [World.size_alloc]; omega) (Nat.le_refl _)
        have HBw2 := hid (Below.on HBw1.out hw2)
        have hsw2 := HBw2.out.size
        have Kxw2 := hid hkw2
        have hfw2 : w.heap.size ≤ w1.heap.size := HBw1.out.size
        clear hbw2 hkw2 hw2)
  refine (as_any a len cap es _ (HE.out.below HBw2.out) (by omega)).mono ?_
  rintro e w3 ⟨vw3, rfl, ow3, bw3⟩
  obtain ⟨aw3, cw3, rfl, hw3⟩ := ow3.ents
  rw [Hlen.out] at hw3 ⊢
  have HEw3 := hid hw3
  clear ow3 hw3
  have HBw3 := hid (Below.on HBw2.out bw3)
  have hsw3 := HBw3.out.size
  have Kxw3 := hid (Kxw2.out.below bw3)
  clear bw3
  go_wp2_with fail
  refine (refbad_big aw3 len cw3 es _ HEw3.out hmx.1).mono ?_
  rintro e w4 ⟨rfl, bw4⟩
  have HBw4 := hid (Below.on HBw3.out bw4)
  have hsw4 := HBw4.out.size
  have Kxw4 := hid (Kxw3.out.below bw4)
  clear bw4
  go_wp2_with (first
     | (refine wpList_load_blk rfl 23 _ rfl (w1.heap.size) rfl _ 23 Kxw4.out _ Tryd.underlying23 rfl 32 size_digest zsize ?_)
     | (refine wpList_load_blk_if (by first | rfl | go_simp) 23 _ rfl (w1.heap.size) rfl _ 23 Kxw4.out _ Tryd.underlying23 rfl 32 size_digest zsize ?_))
  refine (knows17 _ (Htab.out.below HBw4.out)).mono ?_
  rintro e w5 ⟨rfl, bw5⟩
  have HBw5 := hid (Below.on HBw4.out bw5)
  have hsw5 := HBw5.out.size
  have Kxw5 := hid (Kxw4.out.below bw5)
  clear bw5
  go_wp2_with fail
  go_returns
  exact ⟨by first | rfl | simp, HBw5.out⟩
set_option maxHeartbeats 4000000 in
set_option maxRecDepth 100000 in
theorem roots_dup (a : Option Addr) (len cap : Nat) (es : List (List Int × List Int)) (w : World) (hE : EntsAt w a len cap es) (hmx : len ≤ 20) (hnf : ¬ (es.map Prod.fst).Nodup) (tab : ShaTab w) :
    Calls Tryd.prog 4 #[.slice a len cap] w fun e w' => e = .returned (.bool true) ∧ Below w.heap.size w w' := by
  have q0 : ∀ W : World, (binOp .eql 23 (.agg (byteCells 32 [])) (.agg #[.int .u8 0, .int .u8 0, .int .u8 0, .int .u8 0, .int .u8 0, .int .u8 0, .int .u8 0, .int .u8 0, .int .u8 0, .int .u8 0, .int .u8 0, .int .u8 0, .int .u8 0, .int .u8 0, .int .u8 0, .int .u8 0, .int .u8 0, .int .u8 0, .int .u8 0, .int .u8 0, .int .u8 0, .int .u8 0, .int .u8 0, .int .u8 0, .int .u8 0, .int .u8 0, .int .u8 0, .int .u8 0, .int .u8 0, .int .u8 0, .int .u8 0, .int .u8 0])).run Tryd.prog W = .ok (.bool true) W := fun W => eqD_self zD Dg.zero.len W
  have Hb := hid (Below.refl w.heap.size w)
  have Htab := hid tab
  clear  tab 
  have HE := hid hE
  have Hlen := hid hE.length
  clear hE
  have c1 : ¬ (20 : Int) < (len : Int) := by omega
  have c3 : ¬ (300 : Int) < (len : Int) := by omega
  go_enter Tryd.func4, Tryd.ntmps4
  go_wp2_with fail
  refine (root_dup a len cap es _ (HE.out.below Hb.out) (by omega) (Htab.out.below Hb.out) hnf).mono ?_
  rintro e w1 ⟨rfl, bw1⟩
  have HBw1 := hid (Below.on Hb.out bw1)
  have hsw1 := HBw1.out.size
  clear bw1
  go_wp2_with (
        refine wpList_store_blk rfl 23 _ _ rfl (w1.heap.size) (byteCells 32 []) rfl rfl _ 23 (Blk.new rfl (byteCells 32 []) _) 32 size_digest zsize zsize (by decide +kernel) ?_
        intro w2 hbw2 hkw2
        have hw2 := hbw2.below ((Below.refl w1.heap.size w1).alloc (Nat.le_refl _) _) (by simp only [World.size_alloc]; omega) (Nat.le_refl _)
        have HBw2 := hid (Below.on HBw1.out hw2)
        have hsw2 := HBw2.out.size
        have Kxw2 := hid hkw2
        have hfw2 : w.heap.size ≤ w1.heap.size := HBw1.out.size
        clear hbw2 hkw2 hw2)
  refine (as_any a len cap es _ (HE.out.below HBw2.out) (by omega)).mono ?_
  rintro e w3 ⟨vw3, rfl, ow3, bw3⟩
  obtain ⟨aw3, cw3, rfl, hw3⟩ := ow3.ents
  rw [Hlen.out] at hw3 ⊢
  have HEw3 := hid hw3
  clear ow3 hw3
  have HBw3 := hid (Below.on HBw2.out bw3)
  have hsw3 := HBw3.out.size
  have Kxw3 := hid (Kxw2.out.below bw3)
  clear bw3
  go_wp2_with fail
  refine (refbad_in aw3 len cw3 es _ HEw3.out (by omega)).mono ?_
  rintro e w4 ⟨n, rfl, ⟨rfl, hc⟩ | ⟨rfl, hc⟩, bw4⟩
  · exact absurd hc hnf
  clear hc
  have HBw4 := hid (Below.on HBw3.out bw4)
  have hsw4 := HBw4.out.size
  have Kxw4 := hid (Kxw3.out.below bw4)
  clear bw4
  go_wp2_with (first
     | (refine wpList_load_blk rfl 23 _ rfl (w1.heap.size) rfl _ 23 Kxw4.out _ Tryd.underlying23 rfl 32 size_digest zsize ?_)
     | (refine wpList_load_blk_if (by first | rfl | go_simp) 23 _ rfl (w1.heap.size) rfl _ 23 Kxw4.out _ Tryd.underlying23 rfl 32 size_digest zsize ?_))
  refine (knows17 _ (Htab.out.below HBw4.out)).mono ?_
  rintro e w5 ⟨rfl, bw5⟩
  have HBw5 := hid (Below.on HBw4.out bw5)
  have hsw5 := HBw5.out.size
  have Kxw5 := hid (Kxw4.out.below bw5)
  clear bw5
  go_wp2_with fail
  go_returns
  exact ⟨by first | rfl | simp, HBw5.out⟩
set_option maxHeartbeats 4000000 in
set_option maxRecDepth 100000 in
theorem roots_good (a : Option Addr) (len cap : Nat) (es : List (List Int × List Int)) (w : World) (hE : EntsAt w a len cap es) (hmx : len ≤ 20) (hnf : (es.map Prod.fst).Nodup) (tab : ShaTab w) :
    Calls Tryd.prog 4 #[.slice a len cap] w fun e w' => e = .returned (.bool true) ∧ Below w.heap.size w w' := by
  have Hb := hid (Below.refl w.heap.size w)
  have Htab := hid tab
  clear  tab 
  have HE := hid hE
  have Hlen := hid hE.length
  clear hE
  have c1 : ¬ (20 : Int) < (len : Int) := by omega
  have c3 : ¬ (300 : Int) < (len : Int) := by omega
  have hro := rootR_node (fun x hx => (HE.out.each x hx).1) hnf
  have CR := hid (fun (a1 : Option Addr) (c1 : Nat) (W : World) (h : EntsAt W a1 len c1 es) => refroot17_any a1 len c1 es W h (by omega))
  rw [hro] at CR
  have CG := hid (fun (W : World) (h : EntsAt W a len cap es) (t : ShaTab W) => root_good a len cap es W h (by omega) t hnf)
  have HM := hid (Dg.nodeT 256 es HE.out.each)
  clear hro
  generalize nodeT 256 es = M at *
  go_enter Tryd.func4, Tryd.ntmps4
  go_wp2_with fail
  refine (CG.out _ (HE.out.below Hb.out) (Htab.out.below Hb.out)).mono ?_
  rintro e w1 ⟨rfl, bw1⟩
  have HBw1 := hid (Below.on Hb.out bw1)
  have hsw1 := HBw1.out.size
  clear bw1
  go_wp2_with (
        refine wpList_store_blk rfl 23 _ _ rfl (w1.heap.size) (M.map (Value.int .u8)).toArray rfl rfl _ 23 (Blk.new rfl (byteCells 32 []) _) 32 size_digest zsize HM.out.size (ints_one _ _) ?_
        intro w2 hbw2 hkw2
        have hw2 := hbw2.below ((Below.refl w1.heap.size w1).alloc (Nat.le_refl _) _) (by simp only [World.size_alloc]; omega) (Nat.le_refl _)
        have HBw2 := hid (Below.on HBw1.out hw2)
        have hsw2 := HBw2.out.size
        have Kxw2 := hid hkw2
        have hfw2 : w.heap.size ≤ w1.heap.size := HBw1.out.size
        clear hbw2 hkw2 hw2)
  refine (as_any a len cap es _ (HE.out.below HBw2.out) (by omega)).mono ?_
  rintro e w3 ⟨vw3, rfl, ow3, bw3⟩
  obtain ⟨aw3, cw3, rfl, hw3⟩ := ow3.ents
  rw [Hlen.out] at hw3 ⊢
  have HEw3 := hid hw3
  clear ow3 hw3
  have HBw3 := hid (Below.on HBw2.out bw3)
  have hsw3 := HBw3.out.size
  have Kxw3 := hid (Kxw2.out.below bw3)
  clear bw3
  go_wp2_with fail
  refine (refbad_in aw3 len cw3 es _ HEw3.out (by omega)).mono ?_
  rintro e w4 ⟨n, rfl, ⟨rfl, hc⟩ | ⟨rfl, hc⟩, bw4⟩
  rotate_left
  · exact absurd hnf hc
  clear hc
  have HBw4 := hid (Below.on HBw3.out bw4)
  have hsw4 := HBw4.out.size
  have Kxw4 := hid (Kxw3.out.below bw4)
  clear bw4
  go_wp2_with fail
  refine wp_region_flow 12 [0, 1] [] [(.c 2, [3, 4, 5, 6, 7, 8, 9, 10, 11], [])] (by kernel_rfl) (by kernel_rfl) ?_
  apply Exists.intro
  refine ⟨fun w0 hb0 hF0 => ?_, ?_⟩
  · skip
    have tx : ∀ w', (∃ x : Ext w0, w' = x.at_) → ∃ T, Blk w' (w1.heap.size) (M.map (Value.int .u8)).toArray T := fun w' ⟨x, hx⟩ => ⟨_, hx ▸ (Kxw4.out.below hb0).below x.same⟩
    simp only [pick, List.getElem?_toArray, List.getElem?_cons_succ, List.getElem?_cons_zero, Option.toList_some, List.cons_append, List.nil_append]
    repeat (first | (go_big_quiet_want; refine quiet_load_blk 23 _ rfl (w1.heap.size) rfl _ tx _ Tryd.underlying23 rfl 32 size_digest HM.out.size ?_; go_big_quiet_on; simp only [Act.put, List.setIfInBounds_toArray, List.set_cons_zero, List.set_cons_succ]) | go_big_quiet_step (fail))
    exact wpQuiet_nil rfl
  refine AlChk.nil ?_
  refine Walk.call rfl 24 #[.slice a len cap] (fun v w' => ∃ a1 c1, v = .slice a1 len c1 ∧ EntsAt w' a1 len c1 es) (fun v w' w'' h k => by obtain ⟨g, c, h1, h2⟩ := h; exact ⟨g, c, h1, h2.below k⟩) rfl (fun w1 hb1 hF1 => ⟨by go_simp, ?_⟩) ?_
  · refine (as_any a len cap es w1 (HE.out.below (Below.on HBw4.out hb1)) (by omega)).mono ?_
    rintro e w2 ⟨v, rfl, o2, b2⟩
    obtain ⟨a2, c2, rfl, h2⟩ := o2.ents
    rw [Hlen.out] at h2 ⊢
    exact ⟨_, rfl, b2, a2, c2, rfl, h2⟩
  rintro v1 w2 hb2 hF2 ⟨a2, c2, rfl, _⟩
  apply Exists.intro
  refine ⟨fun w0 hb0 hF0 => ?_, ?_⟩
  · skip
    obtain ⟨_, a3, c3, he3, hd3⟩ := hF0
    cases he3
    have s0 := fun e : Ext w0 => CR.out a2 c2 e.at_ (hd3.below e.same)
    have s1 := fun e : Ext w0 => knows17 e.at_ (Htab.out.below (Below.on (Below.on HBw4.out hb0) e.same))
    have q1 := fun W => eqD_self M HM.out.len W
    clear hd3
    simp only [pick, List.getElem?_toArray, List.getElem?_cons_succ, List.getElem?_cons_zero, Option.toList_some, List.cons_append, List.nil_append, Act.put, List.setIfInBounds_toArray, List.set_cons_zero, List.set_cons_succ]
    repeat (first | (go_big_quiet_want; refine quiet_cmp _ _ rfl _ _ _ rfl rfl q1 ?_; go_big_quiet_on; simp only [Act.put, List.setIfInBounds_toArray, List.set_cons_zero, List.set_cons_succ]) | go_big_quiet_step (first | (go_at_call 25; with_reducible exact Calls.ext (s0 _)) | (go_at_call 21; with_reducible exact Calls.ext (s1 _))))
    exact wpQuiet_nil rfl
  refine AlChk.nil ?_
  refine Walk.fin fun w9 h9 hF9 _ => ?_
  simp only [List.drop_succ_cons, List.drop_zero]
  have HB9 := hid (Below.on HBw4.out h9)
  clear h9 hF9
  go_wp2_with fail
  go_returns
  exact ⟨by first | rfl | simp, HB9.out⟩
set_option maxHeartbeats 4000000 in
set_option maxRecDepth 100000 in
theorem ptreeRoots_any (a : Option Addr) (len cap : Nat) (es : List (List Int × List Int)) (w : World) (hE : EntsAt w a len cap es)  (tab : ShaTab w) :
    Calls Tryd.prog 4 #[.slice a len cap] w fun e w' => e = .returned (.bool true) ∧ Below w.heap.size w w' := by
  by_cases h1 : 20 < len ∧ len ≤ 256 ∨ 300 < len
  · exact roots_far a len cap es w hE h1 tab
  · by_cases h2 : len ≤ 20
    · by_cases h3 : (es.map Prod.fst).Nodup
      · exact roots_good a len cap es w hE h2 h3 tab
      · exact roots_dup a len cap es w hE h2 h3 tab
    · exact roots_many a len cap es w hE (by omega) tab
end Go.Proofs.YthaicocfbmpnmaaDoor

namespace Go.Proofs.YthaicocfbmpnmaaDoor
open Go.ChangeShapes Go.WideShapes Go.ChangeAt Go.RowKit

set_option maxHeartbeats 4000000 in
set_option maxRecDepth 100000 in
theorem entry_cells {H : Type} {enc : TypeId × Value → H} {W : World} {fuel : Nat} {cs : List Value} {x : DataW H × List MemPlace} (hf : DataW.trod enc Tryd.prog W 0 (fun _ => true) true fuel 25 cs = some x) :
    ∃ y : List Int × List Int, (Dg y.1 ∧ Dg y.2) ∧ cs = (entL y.1 y.2).map (Value.int .u8) := by
  obtain ⟨f0, f1, hu, t0, t1, o0, o1⟩ : ∃ f0 f1 : Field, Tryd.prog.underlying 25 = some (.struct #[f0, f1]) ∧ f0.type = 23 ∧ f1.type = 23 ∧ f0.offset = 0 ∧ f1.offset = 32 := ⟨_, _, Tryd.underlying25, rfl, rfl, rfl, rfl⟩
  have c32 : Tryd.prog.cellsOf 23 = 32 := by kernel_rfl
  have c64 : Tryd.prog.cellsOf 25 = 64 := by kernel_rfl
  have c1 : Tryd.prog.cellsOf 5 = 1 := by kernel_rfl
  obtain ⟨y0, y1, n, _, hl, q0, q1⟩ := trod_struct2 hu hf
  rw [t0, o0, c32] at q0
  rw [t1, o1, c32] at q1
  obtain ⟨d0, k0, e0⟩ := digest_cells Tryd.underlying23 Tryd.underlying5 c32 c1 q0
  obtain ⟨d1, k1, e1⟩ := digest_cells Tryd.underlying23 Tryd.underlying5 c32 c1 q1
  refine ⟨(d0, d1), ⟨k0, k1⟩, ?_⟩
  rw [c64] at hl
  unfold entL
  rw [List.map_append, ← e0, ← e1]
  have h3 : cs = cs.take 32 ++ (cs.drop 32).take 32 := by
    rw [List.take_of_length_le (l := cs.drop 32) (by rw [List.length_drop]; omega), List.take_append_drop]
  simpa using h3
set_option maxHeartbeats 4000000 in
set_option maxRecDepth 100000 in
theorem open_ents {H : Type} {enc : TypeId × Value → H} {W : World} {base : Nat} {v : Value} {d : DataW H} {p : List MemPlace} (hv : Value.okWide Tryd.prog W .any base 36 v) (h : DataW.Trod enc Tryd.prog W 0 (fun _ => true) true 36 v d p) :
    ∃ (a : Option Addr) (len cap : Nat) (es : List (List Int × List Int)), v = .slice a len cap ∧ EntsAt W a len cap es := by
  have ce : Tryd.prog.cellsOf 25 = 64 := by kernel_rfl
  obtain ⟨a, len, cap, rfl⟩ := okWide_slice Tryd.underlying36 hv
  obtain ⟨fuel, hf⟩ := h
  rcases Go.Deep.open_slice Tryd.underlying36 hf with ⟨hcs, _⟩ | ⟨x, l, c, m, n, D, Pl, hcs, _, hl, hm, hmm, _, hall⟩
  · simp [Value.cells] at hcs
    obtain ⟨rfl, rfl, rfl⟩ := hcs
    exact ⟨none, 0, 0, [], rfl, ⟨rfl, Nat.le_refl _, by simp, .inl rfl⟩⟩
  · simp [Value.cells] at hcs
    obtain ⟨rfl, rfl, rfl⟩ := hcs
    obtain ⟨b, off, s⟩ := x
    simp only [if_true] at hmm
    have hall' : ∀ i, i < cap → ∃ y : List Int × List Int, (Dg y.1 ∧ Dg y.2) ∧ W.cells? 0 ((⟨b, off, s⟩ : Addr).add (i * 64)) 64 = some ((entL y.1 y.2).map (Value.int .u8)) := fun i hi => by
      obtain ⟨cs', h1, h2⟩ := hall i (by omega)
      rw [ce] at h1
      obtain ⟨y, h3, rfl⟩ := entry_cells h2
      exact ⟨y, h3, h1⟩
    let f : Nat → List Int × List Int := fun i => if h : i < cap then Classical.choose (hall' i h) else ([], [])
    have hf : ∀ i, i < cap → (Dg (f i).1 ∧ Dg (f i).2) ∧ W.cells? 0 ((⟨b, off, s⟩ : Addr).add (i * 64)) 64 = some ((entL (f i).1 (f i).2).map (Value.int .u8)) := fun i hi => by
      simp only [f, hi, dif_pos]
      exact Classical.choose_spec (hall' i hi)
    have hel : ∀ i, i < cap → (entL (f i).1 (f i).2).length = 64 := fun i hi => ent_len (hf i hi).1.1 (hf i hi).1.2
    refine ⟨_, len, cap, (List.range len).map f, rfl, ⟨by simp, hl, fun y hy => ?_, ?_⟩⟩
    · simp only [List.mem_map, List.mem_range] at hy
      obtain ⟨i, hi, rfl⟩ := hy
      exact (hf i (by omega)).1
    · by_cases hz : len = 0
      · exact .inl hz
      have h0 := (World.cells?_some (hf 0 (by omega)).2).2.2 0 (by omega)
      have hl0 := hel 0 (by omega)
      rw [List.getElem?_map, List.getElem?_eq_getElem (by omega)] at h0
      have hs : s = none := by
        have := World.cell?_spot h0
        simpa [Addr.add] using this
      subst hs
      have hx : b < W.heap.size := by
        rw [Addr.add_mid, Addr.add_mid] at h0
        exact World.block_lt_of_cell? W _ h0
      refine .inr ⟨b, off, rfl, hx, fun i hi k v hv => ?_⟩
      have hc := (World.cells?_some (hf i (by omega)).2).2.2
      have hli := hel i (by omega)
      have e : ((List.range len).map f).getD i ([], []) = f i := by simp [hi]
      rw [e] at hv
      have hk : k < 64 := by
        have := (List.getElem?_eq_some_iff.1 hv).1
        simp only [List.length_map, hli] at this
        exact this
      have := hc k hk
      rw [Addr.add_mid, Addr.add_mid] at this
      rw [this]
      exact hv
end Go.Proofs.YthaicocfbmpnmaaDoor
