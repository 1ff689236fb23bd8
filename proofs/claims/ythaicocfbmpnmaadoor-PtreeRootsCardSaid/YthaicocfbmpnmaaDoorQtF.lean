/-
  Layer 17: entries are checked, and sorted: what a tree grows of.
-/
import Derived.Test.YthaicocfbmpnmaaDoorQtE
import Derived.Test.YthaicocfbmpnmaaDoorQtD
namespace Go.Proofs.YthaicocfbmpnmaaDoor
open Go.ChangeShapes Go.WideShapes Go.ChangeAt Go.RowKit
open Go.WideMaps (KeyLaw)
open Go.ChangeMaps (setBlock)

theorem MapM.at_ {r : Nat} {m : List (List Int × Int)} {w w' : World} (h : MapM r m w) (he : w'.heap[r]? = w.heap[r]?) : MapM r m w' := he.trans h
theorem MapM.lt {r : Nat} {m : List (List Int × Int)} {w : World} (h : MapM r m w) : r < w.heap.size := (Array.getElem?_eq_some_iff.1 h).1
theorem MapM.below {r : Nat} {m : List (List Int × Int)} {w w' : World} (h : MapM r m w) (hb : Below w.heap.size w w') : MapM r m w' := h.at_ (hb.block r h.lt)
/-- The map as it was, or with a place for an index. -/
def MapP (r : Nat) (m : List (List Int × Int)) (d : List Int) (w : World) : Prop := MapM r m w ∨ MapM r (putM m d) w
theorem MapP.below {r : Nat} {m : List (List Int × Int)} {d : List Int} {w w' : World} (h : MapP r m d w) (hb : Below w.heap.size w w') : MapP r m d w' := h.imp (·.below hb) (·.below hb)
theorem MapP.lt {r : Nat} {m : List (List Int × Int)} {d : List Int} {w : World} (h : MapP r m d w) : r < w.heap.size := h.elim (·.lt) (·.lt)
def MapPR (r : Nat) (m : List (List Int × Int)) (d : List Int) (a b : World) : Prop := FlowB.ButIn [r] a b ∧ (MapP r m d a → MapP r m d b)
theorem mapPR_rel (r : Nat) (m : List (List Int × Int)) (d : List Int) : Rel (MapPR r m d) :=
  ⟨fun h => ⟨(FlowB.rel_butIn [r]).of h, fun hm => hm.below h⟩, fun h k => ⟨(FlowB.rel_butIn [r]).trans h.1 k.1, fun hm => k.2 (h.2 hm)⟩⟩
theorem putM_all {m : List (List Int × Int)} (hm : ∀ x ∈ m, Dg x.1) (hn : (m.map Prod.fst).Nodup) {d : List Int} (hd : Dg d) : (∀ x ∈ putM m d, Dg x.1) ∧ ((putM m d).map Prod.fst).Nodup ∧ d ∈ (putM m d).map Prod.fst := by
  by_cases h : d ∈ m.map Prod.fst
  · rw [putM_old h]; exact ⟨hm, hn, h⟩
  · rw [putM_new h]
    refine ⟨fun x hx => ?_, ?_, by simp⟩
    · rcases List.mem_append.1 hx with hx | hx
      · exact hm x hx
      · rw [List.mem_singleton.1 hx]; exact hd
    · rw [List.map_append, List.nodup_append]
      exact ⟨hn, by simp, fun a ha b hb e => h (by
        have hb : b = d := by simpa using hb
        rw [← hb, ← e]; exact ha)⟩
theorem putM_cnt {m : List (List Int × Int)} (hm : ∀ x ∈ m, Dg x.1) (hn : (m.map Prod.fst).Nodup) {d : List Int} (hd : Dg d) : cntM (putM m d) d = cntM m d := by
  by_cases h : d ∈ m.map Prod.fst
  · rw [putM_old h]
  · obtain ⟨_, h2, _⟩ := putM_all hm hn hd
    rw [cntM_none h]
    have := cntM_at (m := putM m d) (j := m.length) (x := (d, 0)) h2 (by rw [putM_new h, List.getElem?_append_right (Nat.le_refl _), Nat.sub_self]; rfl)
    exact this
theorem place_one {m : List (List Int × Int)} (hn : (m.map Prod.fst).Nodup) {i j : Nat} {d : List Int} {u v : Int} (hi : m[i]? = some (d, u)) (hj : m[j]? = some (d, v)) : i = j := by
  have h1 : (m.map Prod.fst)[i]? = some d := by rw [List.getElem?_map, hi]; rfl
  have h2 : (m.map Prod.fst)[j]? = some d := by rw [List.getElem?_map, hj]; rfl
  obtain ⟨l1, e1⟩ := List.getElem?_eq_some_iff.1 h1
  obtain ⟨l2, e2⟩ := List.getElem?_eq_some_iff.1 h2
  have hp := List.pairwise_iff_getElem.1 hn
  rcases Nat.lt_trichotomy i j with h | h | h
  · exact absurd (e1.trans e2.symm) (hp i j l1 l2 h)
  · exact h
  · exact absurd (e2.trans e1.symm) (hp j i l2 l1 h)
theorem run_lookup_p {r : Nat} {m : List (List Int × Int)} (hm : ∀ x ∈ m, Dg x.1) (hn : (m.map Prod.fst).Nodup) {d : List Int} (hd : Dg d) {w : World} (h : MapP r m d w) :
    (Instr.lookup 117 (.map (some r)) (.agg (d.map (Value.int .u8)).toArray) false).run Tryd.prog w = .ok (.int .i64 (cntM m d)) w := by
  rcases h with h | h
  · exact run_lookup_m hm hn hd h
  · obtain ⟨h1, h2, _⟩ := putM_all hm hn hd
    rw [← putM_cnt hm hn hd]
    exact run_lookup_m h1 h2 hd h
theorem run_mapEntry_p {r : Nat} {m : List (List Int × Int)} (hm : ∀ x ∈ m, Dg x.1) (hn : (m.map Prod.fst).Nodup) {d : List Int} (hd : Dg d) {w : World} (h : MapP r m d w) {j : Nat} (hj : (putM m d)[j]? = some (d, cntM m d)) :
    (Instr.mapEntry 117 (.map (some r)) (.agg (d.map (Value.int .u8)).toArray)).run Tryd.prog w = .ok (.tuple #[.int .i64 (cntM m d), .int .i64 j]) (setBlock w r (.map (entM (putM m d)).toArray (putM m d).length)) := by
  obtain ⟨h1, h2, h3⟩ := putM_all hm hn hd
  rcases h with h | h
  · obtain ⟨i, hi, hr⟩ := run_mapEntry_m hm hn hd h
    rw [hr, place_one h2 hi hj]
  · obtain ⟨i, hi, hr⟩ := run_mapEntry_m h1 h2 hd h
    rw [putM_old h3, putM_cnt hm hn hd] at hi hr
    rw [hr, place_one h2 hi hj]
theorem quiet_lookup_p {r : Nat} {m : List (List Int × Int)} {d : List Int} {op : Oper} {a : Act} {C : World → Prop} {K : Act → Prop} (x y : Operand) (ho : op.op = .lookup 117 x y false) (hx : a.eval x = .map (some r)) (hy : a.eval y = .agg (d.map (Value.int .u8)).toArray) (hm : ∀ x ∈ m, Dg x.1) (hn : (m.map Prod.fst).Nodup) (hd : Dg d) (n : Int) (hc : cntM m d = n) (hC : ∀ w', C w' → MapP r m d w')
    (h : K (a.put op.dst (.int .i64 n))) : op.quiet Tryd.prog a C K :=
  ⟨.int .i64 n, fun w' hw' => by
    unfold Oper.quietAt execOp
    simp only [ho, hx, hy, Sem.run_bind, Sem.run_pure, Result.andThen_ok, run_lookup_p hm hn hd (hC w' hw'), hc]
    simp [Oper.quietUpon], h⟩
theorem wpList_entryStore_m {ops : Array Oper} {rest : List Oper} {o : Oper} {A : Act} {w : World} {Q : Exit → Act → World → Prop} {r : Nat} {m : List (List Int × Int)} {d : List Int} {v u : Int} {j : Nat} (hgd : o.guard = none) (x s y : Operand) (ho : o.op = .entryStore 117 x s y) (hx : A.eval x = .map (some r)) (hs : A.eval s = .int .i64 (j : Int)) (hy : A.eval y = .int .i64 u) (hb : MapM r m w) (hj : m[j]? = some (d, v))
    (h : ∀ w', FlowB.ButIn [r] w w' → MapM r (m.set j (d, u)) w' → wpList Tryd.prog ops Q rest (A.put o.dst undef) w') : wpList Tryd.prog ops Q (o :: rest) A w :=
  wpList_plain hgd fun K hK => by
    unfold Oper.wp execOp
    simp only [ho, hx, hs, hy, Sem.run_bind, Sem.run_pure, Result.andThen_ok, run_entryStore_m hb hj, Oper.upon_skip]
    exact hK _ _ (h _ (setBlock_in _ _ _) (setBlock_at hb.lt _))
theorem EntsAt.set {w : World} {a : Option Addr} {len cap : Nat} {es : List (List Int × List Int)} (h : EntsAt w a len cap es) {p : Addr} (hp : ∀ x o, a = some ⟨x, o, none⟩ → x ≠ p.block) (v : Value) : EntsAt (w.setCell p v) a len cap es := by
  obtain ⟨h1, h2, h3, h4 | ⟨x, o, rfl, hx, hc⟩⟩ := h
  · exact ⟨h1, h2, h3, .inl h4⟩
  · refine ⟨h1, h2, h3, .inr ⟨x, o, rfl, by simpa [World.setCell] using hx, fun j hj k u hu => ?_⟩⟩
    have h := hc j hj k u hu
    unfold World.cell? at h ⊢
    rw [Below.heap_setCell _ _ _ _ (hp x o rfl)]
    exact h
theorem OwnE.ents {w : World} {base : Nat} {v : Value} {es : List (List Int × List Int)} (h : OwnE w base v es) : ∃ a c, v = .slice a es.length c ∧ EntsAt w a es.length c es := by
  obtain ⟨⟨h1, ⟨rfl, h2⟩ | ⟨g, cap, cur, rfl, hg, hh, hle, hmx, hsz, htk⟩⟩, h3⟩ := h
  · obtain rfl := List.eq_nil_of_length_eq_zero h2
    exact ⟨none, 0, rfl, rfl, Nat.le_refl _, h3, .inl rfl⟩
  · refine ⟨_, cap, rfl, rfl, hle, h3, .inr ⟨g, 0, rfl, (Array.getElem?_eq_some_iff.1 hh).1, fun j hj k v hv => ?_⟩⟩
    have hm : es.getD j ([], []) ∈ es := by rw [List.getD_eq_getElem?_getD, List.getElem?_eq_getElem hj]; exact List.getElem_mem _
    have hk : k < 64 := by
      have := (List.getElem?_eq_some_iff.1 hv).1
      rw [List.length_map, ent_len (h3 _ hm).1 (h3 _ hm).2] at this
      exact this
    have hb : Blk w g cur 25 := hh
    rw [Nat.zero_add, hb.cell]
    have : (cur.toList.take (es.length * 64))[j * 64 + k]? = some v := by
      rw [htk, List.getElem?_map, flatE_at h3 j k hj hk, ← List.getElem?_map]
      exact hv
    rw [List.getElem?_take_of_lt (by omega)] at this
    simpa using this

set_option maxHeartbeats 4000000 in
set_option maxRecDepth 100000 in
theorem values_any (a : Option Addr) (len cap : Nat) (w : World) :
    Calls Tryd.prog 80 #[.slice a len cap] w fun e w' => e = .returned (.func (.func 93) #[] #[.pointer (some ⟨w.heap.size, 0, none⟩)]) ∧ Below w.heap.size w w' ∧ Blk w' w.heap.size #[.slice a len cap] 36 := by
  have hb := (Below.refl w.heap.size w).alloc (Nat.le_refl _) (.cells #[.slice a len cap] 36 (0, 0))
  have hk := Blk.new (w := w) rfl #[.slice a len cap] 36
  have HB := hid hb
  have HK := hid hk
  clear hb hk
  go_enter Tryd.func80, Tryd.ntmps80
  go_wp2_with fail
  go_returns
  exact ⟨rfl, HB.out, HK.out⟩

set_option maxHeartbeats 4000000 in
set_option maxRecDepth 100000 in
theorem grow_dup (a : Option Addr) (len cap : Nat) (es : List (List Int × List Int)) (w : World) (hE : EntsAt w a len cap es) (hmx : len ≤ 256) (hdp : ¬ (es.map Prod.fst).Nodup) :
    Calls Tryd.prog 49 #[.slice a len cap] w fun e w' => e = .returned (.tuple #[.agg #[.slice none 0 0, .slice none 0 0], .int .i64 5]) ∧ Below w.heap.size w w' := by
  have HE := hid hE
  clear hE
  have b1 := (Below.refl w.heap.size w).alloc (Nat.le_refl _) (.cells #[.slice none 0 0, .slice none 0 0] 76 (0, 0))
  have Kf := hid (Blk.new (w := w) (n := w.heap.size) rfl #[.slice none 0 0, .slice none 0 0] 76)
  have Hb := hid b1
  have hbz := b1.size
  have Hbs := hid (show w.heap.size + 1 = (w.alloc (.cells #[.slice none 0 0, .slice none 0 0] 76 (0, 0))).heap.size by simp only [World.size_alloc])
  clear b1 
  have hmm : ∀ W : World, (Instr.makeMap 117 none).run Tryd.prog W = .ok (.map (some W.heap.size)) (W.alloc (.map #[] 0)) := fun W => run_makeMap _ W
  go_enter Tryd.func49, Tryd.ntmps49
  have hc2 : ¬ (256 : Int) < (len : Int) := by omega
  go_wp2_with fail
  have b1 := Hb.out.alloc Hb.out.size (.map #[] 0)
  have Kf1 := hid (Kf.out.old (.map #[] 0))
  have Hb1 := hid b1
  have hr1 : ((w.alloc (.cells #[.slice none 0 0, .slice none 0 0] 76 (0, 0))).alloc (.map #[] 0)).heap[w.heap.size + 1]? = some (.map #[] 0) := by
    rw [Hbs.out]
    exact World.alloc_heap_new _ _
  have HM1 := hid (show MapM (w.heap.size + 1) [] ((w.alloc (.cells #[.slice none 0 0, .slice none 0 0] 76 (0, 0))).alloc (.map #[] 0)) from hr1)
  clear b1 hr1
  generalize hW1 : (w.alloc (.cells #[.slice none 0 0, .slice none 0 0] 76 (0, 0))).alloc (.map #[] 0) = w1 at *
  have hs1 := Hb1.out.size
  have hf1 := Kf1.out.lt
  go_loopw [15] (fun iv wr => ∃ j : Nat, j ≤ len ∧ iv = .int .i64 j ∧ Below w.heap.size w wr ∧ Blk wr w.heap.size #[.slice none 0 0, .slice none 0 0] 76 ∧ ((es.take j).map Prod.fst).Nodup ∧ MapM (w.heap.size + 1) ((es.take j).map fun x => (x.1, (1 : Int))) wr) (fun iv _ => len - (intOf iv).toNat)
  case atStart => exact ⟨0, Nat.zero_le _, rfl, Hb1.out, Kf1.out, List.nodup_nil, HM1.out⟩
  case round =>
    clear HM1 Kf1 Hb1
    obtain ⟨j, hj, rfl, bel, kf, hnd, mp⟩ := hrel
    have HBwr := hid bel
    have Kfwr := hid kf
    have HMwr := hid mp
    have hswr := bel.size
    have hrlt := mp.lt
    have hE := HE.out.below bel
    have hlen := hE.length
    clear bel kf mp
    by_cases hcj : j < len
    · skip
      have hcI : (j : Int) < (len : Int) := by omega
      obtain ⟨x, o, rfl, hx, hc⟩ := hE.at_ (by omega)
      have hRg := hid (hc j hcj)
      have hme : es.getD j ([], []) ∈ es := by rw [List.getD_eq_getElem?_getD, List.getElem?_eq_getElem (by omega)]; exact List.getElem_mem _
      have htk : es.take (j + 1) = es.take j ++ [es.getD j ([], [])] := by rw [List.take_add_one, List.getD_eq_getElem?_getD, List.getElem?_eq_getElem (by omega)]; rfl
      have HD := hid (hE.each _ hme).1
      have HCJ := hid (hE.each _ hme).2
      have HTK := hid htk
      have hmd : ∀ z ∈ ((es.take j).map fun x => (x.1, (1 : Int))), Dg z.1 := fun z hz => by
        obtain ⟨y, hy, rfl⟩ := List.mem_map.1 hz
        exact (hE.each y (List.mem_of_mem_take hy)).1
      have hkeys : ((es.take j).map fun x => (x.1, (1 : Int))).map Prod.fst = (es.take j).map Prod.fst := by rw [List.map_map]; rfl
      have hmn : (((es.take j).map fun x => (x.1, (1 : Int))).map Prod.fst).Nodup := by rw [hkeys]; exact hnd
      have hml : ((es.take j).map fun x => (x.1, (1 : Int))).length = j := by rw [List.length_map, List.length_take]; omega
      have hmv : ∀ (i : Nat) (y : List Int × Int), ((es.take j).map fun x => (x.1, (1 : Int)))[i]? = some y → y.2 = 1 := fun i y hy => by
        rw [List.getElem?_map] at hy
        obtain ⟨z, _, rfl⟩ := Option.map_eq_some_iff.1 hy
        rfl
      have HMD := hid hmd
      have HMN := hid hmn
      have HMV := hid hmv
      have HMO := hid (show ((es.take (j + 1)).map fun x => (x.1, (1 : Int))) = ((es.take j).map fun x => (x.1, (1 : Int))) ++ [((es.getD j ([], [])).1, 1)] by rw [htk, List.map_append]; rfl)
      have HMK := hid (show (es.take (j + 1)).map Prod.fst = ((es.take j).map fun x => (x.1, (1 : Int))).map Prod.fst ++ [(es.getD j ([], [])).1] by rw [htk, List.map_append, hkeys]; rfl)
      generalize hmm2 : ((es.take j).map fun x => (x.1, (1 : Int))) = m at *
      clear hmm2
      obtain ⟨d, hd1⟩ : ∃ d, (es.getD j ([], [])).1 = d := ⟨_, rfl⟩
      obtain ⟨c, hc1⟩ : ∃ c, (es.getD j ([], [])).2 = c := ⟨_, rfl⟩
      rw [hd1] at HD hRg HMO HMK
      rw [hc1] at HCJ hRg
      clear hc hme htk hmd hkeys hmn hmv hd1 hc1 hnd
      have hwr : wrap64 ((j : Int) + 1) = (j : Int) + 1 := by unfold wrap64; omega
      go_wp2_with (first
         | (refine wpList_index_k rfl 36 _ _ rfl Tryd.underlying36 size_entry x o len cap rfl _ _ rfl j rfl (by omega) ?_)
         | (refine wpList_load_mid rfl 25 _ rfl x (o + j * 64) rfl _ _ hRg.out Tryd.underlying25 rfl (by rw [List.length_map]; exact ent_size64 HD.out HCJ.out) ?_)
         | (
            refine wpList_store_blk rfl 25 _ _ rfl (wr.heap.size) ((entL d c).map (Value.int .u8)).toArray rfl rfl _ 25 (Blk.new rfl (byteCells 64 []) _) 64 size_entry zsize64 (two_size HD.out HCJ.out) (ints_one _ _) ?_
            intro w21 hbw21 hkw21
            have hw21 := hbw21.below ((Below.refl wr.heap.size wr).alloc (Nat.le_refl _) _) (by simp only [World.size_alloc]; omega) (Nat.le_refl _)
            have HBw21 := hid (Below.on HBwr.out hw21)
            have hsw21 := HBw21.out.size
            have Kfw21 := hid (Kfwr.out.below hw21)
            have hlfw21 := Kfwr.out.lt
            have Ktw21 := hid hkw21
            have hfw21 : w.heap.size ≤ wr.heap.size := HBwr.out.size
            have HM21 := hid (HMwr.out.below hw21)
            clear hbw21 hkw21 hw21))
      simp only [Act.put]
      have HF21 := hid (ent_front HD.out (b := c) Ktw21.out)
      have hrl := HM21.out.lt
      have hrt : ¬ wr.heap.size = w.heap.size + 1 := by omega
      by_cases hin : d ∈ m.map Prod.fst
      · skip
        obtain ⟨⟨d, v1⟩, hz1, rfl⟩ := List.mem_map.1 hin
        obtain ⟨j0, hj0⟩ := List.mem_iff_getElem?.1 hz1
        have hv1 : v1 = 1 := HMV.out j0 _ hj0
        subst hv1
        have hcn := cntM_at HMN.out hj0
        have hpm := putM_old hin
        have hpj : (putM m d)[j0]? = some (d, cntM m d) := by rw [hpm, hj0, hcn]
        have HPJ := hid hpj
        have HPM := hid hpm
        have HCN := hid hcn
        have HIN := hid hin
        dsimp only at HCN
        have HJ0 := hid hj0
        clear hpj hpm hcn hin hj0 hz1
        have HP21 := hid (show MapP (w.heap.size + 1) m d w21 from .inl HM21.out)
        refine FlowB.wp_region_flow_in (mapPR_rel (w.heap.size + 1) m d) (fun wz => MapP (w.heap.size + 1) m d wz) 7 [0, 1, 2, 3, 4] [] [(.c 5, [6], [])] (by kernel_rfl) (by kernel_rfl) (fun _ h => h.1.size) HP21.out (fun _ _ h hb => h.below hb) ?_
        apply Exists.intro
        refine ⟨fun w0 hb0 hF0 => ?_, ?_⟩
        · skip
          have ml : ∀ w', (∃ x : Ext w0, w' = x.at_) → MapP (w.heap.size + 1) m d w' := fun w' ⟨x, hx⟩ => hx ▸ (hb0.2 HP21.out).below x.same
          have zl : ∀ w', (∃ x : Ext w0, w' = x.at_) → w'.rangeAt wr.heap.size 0 (d.map (Value.int .u8)) := fun w' ⟨x, hx⟩ k v hv => by
            rw [hx]
            exact (x.same.cell (p := ⟨wr.heap.size, 0 + k, none⟩) (Nat.lt_of_lt_of_le Ktw21.out.lt hb0.1.size)).trans (hb0.1.cell Ktw21.out.lt (by simp only [List.mem_singleton]; exact hrt) (HF21.out k v hv))
          simp only [pick, List.getElem?_toArray, List.getElem?_cons_succ, List.getElem?_cons_zero, Option.toList_some, List.cons_append, List.nil_append]
          repeat (first | (go_big_quiet_want; refine quiet_load_mid 23 _ rfl wr.heap.size 0 rfl _ zl _ Tryd.underlying23 rfl (by rw [List.length_map, HD.out.len]; exact size_digest) ?_; go_big_quiet_on; simp only [Act.put, List.setIfInBounds_toArray, List.set_cons_zero, List.set_cons_succ]) | (go_big_quiet_want; refine quiet_lookup_p _ _ rfl rfl rfl HMD.out HMN.out HD.out 1 HCN.out ml ?_; go_big_quiet_on; simp only [Act.put, List.setIfInBounds_toArray, List.set_cons_zero, List.set_cons_succ]) | go_big_quiet_step (fail))
          exact wpQuiet_nil rfl
        refine FlowB.AlChk.nil ?_
        refine FlowB.Walk.does rfl (fun v _ => v = .tuple #[.int .i64 1, .int .i64 j0]) (fun _ w' => MapM (w.heap.size + 1) (putM m d) w') (fun v w' w'' _ h _ => h) (fun v w' w'' h k => h.below k) rfl (fun q1 hb1 hF1 hG1 => ?_) ?_
        · refine ⟨_, _, exec_mapEntry rfl rfl rfl (run_mapEntry_p HMD.out HMN.out HD.out hG1 HPJ.out), ⟨setBlock_in _ _ _, fun _ => .inr (setBlock_at hG1.lt _)⟩, by rw [HCN.out], setBlock_at hG1.lt _⟩
        rintro v1 q1 hb1 hF1 rfl
        apply Exists.intro
        refine ⟨fun w0 hb0 hF0 => ?_, ?_⟩
        · skip
          simp only [pick, List.getElem?_toArray, List.getElem?_cons_succ, List.getElem?_cons_zero, Option.toList_some, List.cons_append, List.nil_append, Act.put, List.setIfInBounds_toArray, List.set_cons_zero, List.set_cons_succ]
          repeat (go_big_quiet_step (fail))
          exact wpQuiet_nil rfl
        refine FlowB.AlChk.nil ?_
        refine FlowB.Walk.fin fun w30 h30 hF30 hG30 => ?_
        simp only [List.drop_succ_cons, List.drop_zero]
        have HB30 := hid (h30.1.below HBw21.out hsw21 (by simp only [List.mem_singleton, forall_eq]; omega))
        have Kf30 := hid (h30.1.blk Kfw21.out (by simp only [List.mem_singleton]; omega))
        have Kt30 := hid (h30.1.blk Ktw21.out (by simp only [List.mem_singleton]; exact hrt))
        have HG30 := hid hG30
        clear h30 hF30 hG30
        go_wp2_with (first
           | (
              refine wpList_entryStore_m (j := j0) (d := d) (v := 1) (u := 2) rfl _ _ _ rfl rfl rfl rfl HG30.out (by rw [HPJ.out, HCN.out]) ?_
              intro w40 hb40 hg40
              have HB40 := hid (hb40.below HB30.out HB30.out.size (by simp only [List.mem_singleton, forall_eq]; omega))
              have Kf40 := hid (hb40.blk Kf30.out (by simp only [List.mem_singleton]; omega))
              have Kt40 := hid (hb40.blk Kt30.out (by simp only [List.mem_singleton]; exact hrt))
              have HM40 := hid hg40
              have HF40 := hid (ent_front HD.out (b := c) Kt40.out)
              have hlk : (Instr.lookup 117 (.map (some (w.heap.size + 1))) (.agg (d.map (Value.int .u8)).toArray) false).run Tryd.prog w40 = .ok (.int .i64 2) w40 := by
                obtain ⟨p1, p2, _⟩ := putM_all HMD.out HMN.out HD.out
                have hl0 : j0 < (putM m d).length := (List.getElem?_eq_some_iff.1 HPJ.out).1
                have hfs : ((putM m d).set j0 (d, 2)).map Prod.fst = (putM m d).map Prod.fst := by
                  apply List.ext_getElem?
                  intro i
                  rw [List.getElem?_map, List.getElem?_map, List.getElem?_set]
                  by_cases hi : j0 = i
                  · subst hi; rw [if_pos rfl, if_pos hl0, HPJ.out]; rfl
                  · rw [if_neg hi]
                have hcc := cntM_at (m := (putM m d).set j0 (d, 2)) (j := j0) (x := (d, 2)) (by rw [hfs]; exact p2) (by rw [List.getElem?_set, if_pos rfl, if_pos hl0])
                have h := run_lookup_m (m := (putM m d).set j0 (d, 2)) (fun x hx => by
                  rcases List.mem_or_eq_of_mem_set hx with hx | rfl
                  · exact p1 x hx
                  · exact HD.out) (by rw [hfs]; exact p2) HD.out HM40.out
                rw [hcc] at h
                exact h
              have q0w61 := (Kf40.out.cell 0).trans (show _ = some _ from rfl)
              have r0w61 := Kf40.out.free 0
              have q1w61 := (Kf40.out.cell 1).trans (show _ = some _ from rfl)
              have r1w61 := Kf40.out.free 1
              have Kfw61 : Hid (Blk ((w40.setCell ⟨w.heap.size, 0, none⟩ (.slice none 0 0)).setCell ⟨w.heap.size, 1, none⟩ (.slice none 0 0)) (w.heap.size) #[.slice none 0 0, .slice none 0 0] 76) := hid (Blk.setAll_self Kf40.out [.slice none 0 0, .slice none 0 0] rfl)
              have HBw61 : Hid (Below w.heap.size w ((w40.setCell ⟨w.heap.size, 0, none⟩ (.slice none 0 0)).setCell ⟨w.heap.size, 1, none⟩ (.slice none 0 0))) := hid (Below.setAll (by omega) [.slice none 0 0, .slice none 0 0] 0 _ HB40.out)
              have hsw61 := HBw61.out.size
              clear hb40 hg40)
           | (refine wpList_load_mid rfl 23 _ rfl wr.heap.size 0 rfl _ _ HF40.out Tryd.underlying23 rfl (by rw [List.length_map, HD.out.len]; exact size_digest) ?_))
        exact bodyPost_ret (v := .tuple #[.agg #[.slice none 0 0, .slice none 0 0], .int .i64 5]) (results_blk_tmp Tryd.results49 _ (w.heap.size) rfl _ rfl _ 76 Kfw61.out _ Tryd.underlying76 rfl 2 size_forest rfl) rfl ⟨rfl, HBw61.out⟩
      · skip
        have hcn := cntM_none hin
        have hpm := putM_new hin
        obtain ⟨j0, hj00⟩ : ∃ j0, j0 = m.length := ⟨_, rfl⟩
        have hpj : (putM m d)[j0]? = some (d, cntM m d) := by rw [hpm, hcn, hj00, List.getElem?_append_right (Nat.le_refl _), Nat.sub_self]; rfl
        have HPJ := hid hpj
        have HPM := hid hpm
        have HCN := hid hcn
        have HIN := hid hin
        skip
        have HJ0 := hid hj00
        clear hpj hpm hcn hin hj00
        have HP21 := hid (show MapP (w.heap.size + 1) m d w21 from .inl HM21.out)
        refine FlowB.wp_region_flow_in (mapPR_rel (w.heap.size + 1) m d) (fun wz => MapP (w.heap.size + 1) m d wz) 7 [0, 1, 2, 3, 4] [] [(.c 5, [6], [])] (by kernel_rfl) (by kernel_rfl) (fun _ h => h.1.size) HP21.out (fun _ _ h hb => h.below hb) ?_
        apply Exists.intro
        refine ⟨fun w0 hb0 hF0 => ?_, ?_⟩
        · skip
          have ml : ∀ w', (∃ x : Ext w0, w' = x.at_) → MapP (w.heap.size + 1) m d w' := fun w' ⟨x, hx⟩ => hx ▸ (hb0.2 HP21.out).below x.same
          have zl : ∀ w', (∃ x : Ext w0, w' = x.at_) → w'.rangeAt wr.heap.size 0 (d.map (Value.int .u8)) := fun w' ⟨x, hx⟩ k v hv => by
            rw [hx]
            exact (x.same.cell (p := ⟨wr.heap.size, 0 + k, none⟩) (Nat.lt_of_lt_of_le Ktw21.out.lt hb0.1.size)).trans (hb0.1.cell Ktw21.out.lt (by simp only [List.mem_singleton]; exact hrt) (HF21.out k v hv))
          simp only [pick, List.getElem?_toArray, List.getElem?_cons_succ, List.getElem?_cons_zero, Option.toList_some, List.cons_append, List.nil_append]
          repeat (first | (go_big_quiet_want; refine quiet_load_mid 23 _ rfl wr.heap.size 0 rfl _ zl _ Tryd.underlying23 rfl (by rw [List.length_map, HD.out.len]; exact size_digest) ?_; go_big_quiet_on; simp only [Act.put, List.setIfInBounds_toArray, List.set_cons_zero, List.set_cons_succ]) | (go_big_quiet_want; refine quiet_lookup_p _ _ rfl rfl rfl HMD.out HMN.out HD.out 0 HCN.out ml ?_; go_big_quiet_on; simp only [Act.put, List.setIfInBounds_toArray, List.set_cons_zero, List.set_cons_succ]) | go_big_quiet_step (fail))
          exact wpQuiet_nil rfl
        refine FlowB.AlChk.nil ?_
        refine FlowB.Walk.does rfl (fun v _ => v = .tuple #[.int .i64 0, .int .i64 j0]) (fun _ w' => MapM (w.heap.size + 1) (putM m d) w') (fun v w' w'' _ h _ => h) (fun v w' w'' h k => h.below k) rfl (fun q1 hb1 hF1 hG1 => ?_) ?_
        · refine ⟨_, _, exec_mapEntry rfl rfl rfl (run_mapEntry_p HMD.out HMN.out HD.out hG1 HPJ.out), ⟨setBlock_in _ _ _, fun _ => .inr (setBlock_at hG1.lt _)⟩, by rw [HCN.out], setBlock_at hG1.lt _⟩
        rintro v1 q1 hb1 hF1 rfl
        apply Exists.intro
        refine ⟨fun w0 hb0 hF0 => ?_, ?_⟩
        · skip
          simp only [pick, List.getElem?_toArray, List.getElem?_cons_succ, List.getElem?_cons_zero, Option.toList_some, List.cons_append, List.nil_append, Act.put, List.setIfInBounds_toArray, List.set_cons_zero, List.set_cons_succ]
          repeat (go_big_quiet_step (fail))
          exact wpQuiet_nil rfl
        refine FlowB.AlChk.nil ?_
        refine FlowB.Walk.fin fun w30 h30 hF30 hG30 => ?_
        simp only [List.drop_succ_cons, List.drop_zero]
        have HB30 := hid (h30.1.below HBw21.out hsw21 (by simp only [List.mem_singleton, forall_eq]; omega))
        have Kf30 := hid (h30.1.blk Kfw21.out (by simp only [List.mem_singleton]; omega))
        have Kt30 := hid (h30.1.blk Ktw21.out (by simp only [List.mem_singleton]; exact hrt))
        have HG30 := hid hG30
        clear h30 hF30 hG30
        go_wp2_with (first
           | (
              refine wpList_entryStore_m (j := j0) (d := d) (v := 0) (u := 1) rfl _ _ _ rfl rfl rfl rfl HG30.out (by rw [HPJ.out, HCN.out]) ?_
              intro w40 hb40 hg40
              have HB40 := hid (hb40.below HB30.out HB30.out.size (by simp only [List.mem_singleton, forall_eq]; omega))
              have Kf40 := hid (hb40.blk Kf30.out (by simp only [List.mem_singleton]; omega))
              have Kt40 := hid (hb40.blk Kt30.out (by simp only [List.mem_singleton]; exact hrt))
              have HM40 := hid hg40
              have HF40 := hid (ent_front HD.out (b := c) Kt40.out)
              have hlk : (Instr.lookup 117 (.map (some (w.heap.size + 1))) (.agg (d.map (Value.int .u8)).toArray) false).run Tryd.prog w40 = .ok (.int .i64 1) w40 := by
                obtain ⟨p1, p2, _⟩ := putM_all HMD.out HMN.out HD.out
                have hl0 : j0 < (putM m d).length := (List.getElem?_eq_some_iff.1 HPJ.out).1
                have hfs : ((putM m d).set j0 (d, 1)).map Prod.fst = (putM m d).map Prod.fst := by
                  apply List.ext_getElem?
                  intro i
                  rw [List.getElem?_map, List.getElem?_map, List.getElem?_set]
                  by_cases hi : j0 = i
                  · subst hi; rw [if_pos rfl, if_pos hl0, HPJ.out]; rfl
                  · rw [if_neg hi]
                have hcc := cntM_at (m := (putM m d).set j0 (d, 1)) (j := j0) (x := (d, 1)) (by rw [hfs]; exact p2) (by rw [List.getElem?_set, if_pos rfl, if_pos hl0])
                have h := run_lookup_m (m := (putM m d).set j0 (d, 1)) (fun x hx => by
                  rcases List.mem_or_eq_of_mem_set hx with hx | rfl
                  · exact p1 x hx
                  · exact HD.out) (by rw [hfs]; exact p2) HD.out HM40.out
                rw [hcc] at h
                exact h
              clear hb40 hg40)
           | (refine wpList_load_mid rfl 23 _ rfl wr.heap.size 0 rfl _ _ HF40.out Tryd.underlying23 rfl (by rw [List.length_map, HD.out.len]; exact size_digest) ?_))
        exact ⟨⟨j + 1, by omega, by first | rfl | simp, HB40.out, Kf40.out, by rw [HMK.out, List.nodup_append]; exact ⟨HMN.out, by simp, fun a ha b hb e => HIN.out (by rw [List.mem_singleton] at hb; rw [← hb, ← e]; exact ha)⟩, by rw [HMO.out]; have h := HM40.out; rw [HPM.out, HJ0.out, List.set_append_right _ _ (Nat.le_refl _), Nat.sub_self] at h; exact h⟩, by simp [intOf]; omega⟩
    · skip
      have hta : es.take j = es := List.take_of_length_le (by omega)
      rw [hta] at hnd
      exact absurd hnd hdp

set_option maxHeartbeats 4000000 in
set_option maxRecDepth 100000 in
theorem grow_good (a : Option Addr) (len cap : Nat) (es : List (List Int × List Int)) (w : World) (hE : EntsAt w a len cap es) (hmx : len ≤ 256) (hnf : (es.map Prod.fst).Nodup) (tab : ShaTab w)
    (cs : ∀ (pb : Nat) (W : World), Blk W pb #[.slice a len cap] 36 → EntsAt W a len cap es → Calls Tryd.prog 79 #[.func (.func 93) #[] #[.pointer (some ⟨pb, 0, none⟩)], .func (.func 81) #[] #[]] W fun e w' => ∃ (a' : Option Addr) (c' : Nat) (fs : List (List Int × List Int)), e = .returned (.slice a' len c') ∧ (∀ x o, a' = some ⟨x, o, none⟩ → W.heap.size ≤ x) ∧ EntsAt w' a' len c' fs ∧ es.Perm fs ∧ fs.Pairwise (fun x y => numL x.1 ≤ numL y.1) ∧ Below W.heap.size W w') :
    Calls Tryd.prog 49 #[.slice a len cap] w fun e w' => ∃ g a' c' fs, e = .returned (.tuple #[.agg #[.slice a' len c', .slice (some ⟨g, 0, none⟩) 257 257], .int .i64 0]) ∧ EntsAt w' a' len c' fs ∧ es.Perm fs ∧ fs.Pairwise (fun x y => numL x.1 ≤ numL y.1) ∧ Below w.heap.size w w' ∧ Blk w' g (dcs (empN 257)) 23 := by
  have HE := hid hE
  have CS := hid cs
  clear hE cs
  have b1 := (Below.refl w.heap.size w).alloc (Nat.le_refl _) (.cells #[.slice none 0 0, .slice none 0 0] 76 (0, 0))
  have Kf := hid (Blk.new (w := w) (n := w.heap.size) rfl #[.slice none 0 0, .slice none 0 0] 76)
  have Hb := hid b1
  have hbz := b1.size
  have Hbs := hid (show w.heap.size + 1 = (w.alloc (.cells #[.slice none 0 0, .slice none 0 0] 76 (0, 0))).heap.size by simp only [World.size_alloc])
  have Htab := hid tab
  clear b1 tab 
  have hmm : ∀ W : World, (Instr.makeMap 117 none).run Tryd.prog W = .ok (.map (some W.heap.size)) (W.alloc (.map #[] 0)) := fun W => run_makeMap _ W
  go_enter Tryd.func49, Tryd.ntmps49
  have hc2 : ¬ (256 : Int) < (len : Int) := by omega
  go_wp2_with fail
  have b1 := Hb.out.alloc Hb.out.size (.map #[] 0)
  have Kf1 := hid (Kf.out.old (.map #[] 0))
  have Hb1 := hid b1
  have hr1 : ((w.alloc (.cells #[.slice none 0 0, .slice none 0 0] 76 (0, 0))).alloc (.map #[] 0)).heap[w.heap.size + 1]? = some (.map #[] 0) := by
    rw [Hbs.out]
    exact World.alloc_heap_new _ _
  have HM1 := hid (show MapM (w.heap.size + 1) [] ((w.alloc (.cells #[.slice none 0 0, .slice none 0 0] 76 (0, 0))).alloc (.map #[] 0)) from hr1)
  clear b1 hr1
  generalize hW1 : (w.alloc (.cells #[.slice none 0 0, .slice none 0 0] 76 (0, 0))).alloc (.map #[] 0) = w1 at *
  have hs1 := Hb1.out.size
  have hf1 := Kf1.out.lt
  go_loopw [15] (fun iv wr => ∃ j : Nat, j ≤ len ∧ iv = .int .i64 j ∧ Below w.heap.size w wr ∧ Blk wr w.heap.size #[.slice none 0 0, .slice none 0 0] 76 ∧ ((es.take j).map Prod.fst).Nodup ∧ MapM (w.heap.size + 1) ((es.take j).map fun x => (x.1, (1 : Int))) wr) (fun iv _ => len - (intOf iv).toNat)
  case atStart => exact ⟨0, Nat.zero_le _, rfl, Hb1.out, Kf1.out, List.nodup_nil, HM1.out⟩
  case round =>
    clear HM1 Kf1 Hb1
    obtain ⟨j, hj, rfl, bel, kf, hnd, mp⟩ := hrel
    have HBwr := hid bel
    have Kfwr := hid kf
    have HMwr := hid mp
    have hswr := bel.size
    have hrlt := mp.lt
    have hE := HE.out.below bel
    have hlen := hE.length
    clear bel kf mp
    by_cases hcj : j < len
    · skip
      have hcI : (j : Int) < (len : Int) := by omega
      obtain ⟨x, o, rfl, hx, hc⟩ := hE.at_ (by omega)
      have hRg := hid (hc j hcj)
      have hme : es.getD j ([], []) ∈ es := by rw [List.getD_eq_getElem?_getD, List.getElem?_eq_getElem (by omega)]; exact List.getElem_mem _
      have htk : es.take (j + 1) = es.take j ++ [es.getD j ([], [])] := by rw [List.take_add_one, List.getD_eq_getElem?_getD, List.getElem?_eq_getElem (by omega)]; rfl
      have HD := hid (hE.each _ hme).1
      have HCJ := hid (hE.each _ hme).2
      have HTK := hid htk
      have hmd : ∀ z ∈ ((es.take j).map fun x => (x.1, (1 : Int))), Dg z.1 := fun z hz => by
        obtain ⟨y, hy, rfl⟩ := List.mem_map.1 hz
        exact (hE.each y (List.mem_of_mem_take hy)).1
      have hkeys : ((es.take j).map fun x => (x.1, (1 : Int))).map Prod.fst = (es.take j).map Prod.fst := by rw [List.map_map]; rfl
      have hmn : (((es.take j).map fun x => (x.1, (1 : Int))).map Prod.fst).Nodup := by rw [hkeys]; exact hnd
      have hml : ((es.take j).map fun x => (x.1, (1 : Int))).length = j := by rw [List.length_map, List.length_take]; omega
      have hmv : ∀ (i : Nat) (y : List Int × Int), ((es.take j).map fun x => (x.1, (1 : Int)))[i]? = some y → y.2 = 1 := fun i y hy => by
        rw [List.getElem?_map] at hy
        obtain ⟨z, _, rfl⟩ := Option.map_eq_some_iff.1 hy
        rfl
      have HMD := hid hmd
      have HMN := hid hmn
      have HMV := hid hmv
      have HMO := hid (show ((es.take (j + 1)).map fun x => (x.1, (1 : Int))) = ((es.take j).map fun x => (x.1, (1 : Int))) ++ [((es.getD j ([], [])).1, 1)] by rw [htk, List.map_append]; rfl)
      have HMK := hid (show (es.take (j + 1)).map Prod.fst = ((es.take j).map fun x => (x.1, (1 : Int))).map Prod.fst ++ [(es.getD j ([], [])).1] by rw [htk, List.map_append, hkeys]; rfl)
      generalize hmm2 : ((es.take j).map fun x => (x.1, (1 : Int))) = m at *
      clear hmm2
      obtain ⟨d, hd1⟩ : ∃ d, (es.getD j ([], [])).1 = d := ⟨_, rfl⟩
      obtain ⟨c, hc1⟩ : ∃ c, (es.getD j ([], [])).2 = c := ⟨_, rfl⟩
      rw [hd1] at HD hRg HMO HMK
      rw [hc1] at HCJ hRg
      clear hc hme htk hmd hkeys hmn hmv hd1 hc1 hnd
      have hwr : wrap64 ((j : Int) + 1) = (j : Int) + 1 := by unfold wrap64; omega
      go_wp2_with (first
         | (refine wpList_index_k rfl 36 _ _ rfl Tryd.underlying36 size_entry x o len cap rfl _ _ rfl j rfl (by omega) ?_)
         | (refine wpList_load_mid rfl 25 _ rfl x (o + j * 64) rfl _ _ hRg.out Tryd.underlying25 rfl (by rw [List.length_map]; exact ent_size64 HD.out HCJ.out) ?_)
         | (
            refine wpList_store_blk rfl 25 _ _ rfl (wr.heap.size) ((entL d c).map (Value.int .u8)).toArray rfl rfl _ 25 (Blk.new rfl (byteCells 64 []) _) 64 size_entry zsize64 (two_size HD.out HCJ.out) (ints_one _ _) ?_
            intro w21 hbw21 hkw21
            have hw21 := hbw21.below ((Below.refl wr.heap.size wr).alloc (Nat.le_refl _) _) (by simp only [World.size_alloc]; omega) (Nat.le_refl _)
            have HBw21 := hid (Below.on HBwr.out hw21)
            have hsw21 := HBw21.out.size
            have Kfw21 := hid (Kfwr.out.below hw21)
            have hlfw21 := Kfwr.out.lt
            have Ktw21 := hid hkw21
            have hfw21 : w.heap.size ≤ wr.heap.size := HBwr.out.size
            have HM21 := hid (HMwr.out.below hw21)
            clear hbw21 hkw21 hw21))
      simp only [Act.put]
      have HF21 := hid (ent_front HD.out (b := c) Ktw21.out)
      have hrl := HM21.out.lt
      have hrt : ¬ wr.heap.size = w.heap.size + 1 := by omega
      by_cases hin : d ∈ m.map Prod.fst
      · skip
        exact absurd hnf (by
          have h2 : (es.map Prod.fst) = (es.take (j + 1)).map Prod.fst ++ (es.drop (j + 1)).map Prod.fst := by rw [← List.map_append, List.take_append_drop]
          rw [h2, HMK.out]
          intro h3
          have h4 := (List.nodup_append.1 (List.nodup_append.1 h3).1).2.2 d hin d (by simp)
          exact h4 rfl)
      · skip
        have hcn := cntM_none hin
        have hpm := putM_new hin
        obtain ⟨j0, hj00⟩ : ∃ j0, j0 = m.length := ⟨_, rfl⟩
        have hpj : (putM m d)[j0]? = some (d, cntM m d) := by rw [hpm, hcn, hj00, List.getElem?_append_right (Nat.le_refl _), Nat.sub_self]; rfl
        have HPJ := hid hpj
        have HPM := hid hpm
        have HCN := hid hcn
        have HIN := hid hin
        skip
        have HJ0 := hid hj00
        clear hpj hpm hcn hin hj00
        have HP21 := hid (show MapP (w.heap.size + 1) m d w21 from .inl HM21.out)
        refine FlowB.wp_region_flow_in (mapPR_rel (w.heap.size + 1) m d) (fun wz => MapP (w.heap.size + 1) m d wz) 7 [0, 1, 2, 3, 4] [] [(.c 5, [6], [])] (by kernel_rfl) (by kernel_rfl) (fun _ h => h.1.size) HP21.out (fun _ _ h hb => h.below hb) ?_
        apply Exists.intro
        refine ⟨fun w0 hb0 hF0 => ?_, ?_⟩
        · skip
          have ml : ∀ w', (∃ x : Ext w0, w' = x.at_) → MapP (w.heap.size + 1) m d w' := fun w' ⟨x, hx⟩ => hx ▸ (hb0.2 HP21.out).below x.same
          have zl : ∀ w', (∃ x : Ext w0, w' = x.at_) → w'.rangeAt wr.heap.size 0 (d.map (Value.int .u8)) := fun w' ⟨x, hx⟩ k v hv => by
            rw [hx]
            exact (x.same.cell (p := ⟨wr.heap.size, 0 + k, none⟩) (Nat.lt_of_lt_of_le Ktw21.out.lt hb0.1.size)).trans (hb0.1.cell Ktw21.out.lt (by simp only [List.mem_singleton]; exact hrt) (HF21.out k v hv))
          simp only [pick, List.getElem?_toArray, List.getElem?_cons_succ, List.getElem?_cons_zero, Option.toList_some, List.cons_append, List.nil_append]
          repeat (first | (go_big_quiet_want; refine quiet_load_mid 23 _ rfl wr.heap.size 0 rfl _ zl _ Tryd.underlying23 rfl (by rw [List.length_map, HD.out.len]; exact size_digest) ?_; go_big_quiet_on; simp only [Act.put, List.setIfInBounds_toArray, List.set_cons_zero, List.set_cons_succ]) | (go_big_quiet_want; refine quiet_lookup_p _ _ rfl rfl rfl HMD.out HMN.out HD.out 0 HCN.out ml ?_; go_big_quiet_on; simp only [Act.put, List.setIfInBounds_toArray, List.set_cons_zero, List.set_cons_succ]) | go_big_quiet_step (fail))
          exact wpQuiet_nil rfl
        refine FlowB.AlChk.nil ?_
        refine FlowB.Walk.does rfl (fun v _ => v = .tuple #[.int .i64 0, .int .i64 j0]) (fun _ w' => MapM (w.heap.size + 1) (putM m d) w') (fun v w' w'' _ h _ => h) (fun v w' w'' h k => h.below k) rfl (fun q1 hb1 hF1 hG1 => ?_) ?_
        · refine ⟨_, _, exec_mapEntry rfl rfl rfl (run_mapEntry_p HMD.out HMN.out HD.out hG1 HPJ.out), ⟨setBlock_in _ _ _, fun _ => .inr (setBlock_at hG1.lt _)⟩, by rw [HCN.out], setBlock_at hG1.lt _⟩
        rintro v1 q1 hb1 hF1 rfl
        apply Exists.intro
        refine ⟨fun w0 hb0 hF0 => ?_, ?_⟩
        · skip
          simp only [pick, List.getElem?_toArray, List.getElem?_cons_succ, List.getElem?_cons_zero, Option.toList_some, List.cons_append, List.nil_append, Act.put, List.setIfInBounds_toArray, List.set_cons_zero, List.set_cons_succ]
          repeat (go_big_quiet_step (fail))
          exact wpQuiet_nil rfl
        refine FlowB.AlChk.nil ?_
        refine FlowB.Walk.fin fun w30 h30 hF30 hG30 => ?_
        simp only [List.drop_succ_cons, List.drop_zero]
        have HB30 := hid (h30.1.below HBw21.out hsw21 (by simp only [List.mem_singleton, forall_eq]; omega))
        have Kf30 := hid (h30.1.blk Kfw21.out (by simp only [List.mem_singleton]; omega))
        have Kt30 := hid (h30.1.blk Ktw21.out (by simp only [List.mem_singleton]; exact hrt))
        have HG30 := hid hG30
        clear h30 hF30 hG30
        go_wp2_with (first
           | (
              refine wpList_entryStore_m (j := j0) (d := d) (v := 0) (u := 1) rfl _ _ _ rfl rfl rfl rfl HG30.out (by rw [HPJ.out, HCN.out]) ?_
              intro w40 hb40 hg40
              have HB40 := hid (hb40.below HB30.out HB30.out.size (by simp only [List.mem_singleton, forall_eq]; omega))
              have Kf40 := hid (hb40.blk Kf30.out (by simp only [List.mem_singleton]; omega))
              have Kt40 := hid (hb40.blk Kt30.out (by simp only [List.mem_singleton]; exact hrt))
              have HM40 := hid hg40
              have HF40 := hid (ent_front HD.out (b := c) Kt40.out)
              have hlk : (Instr.lookup 117 (.map (some (w.heap.size + 1))) (.agg (d.map (Value.int .u8)).toArray) false).run Tryd.prog w40 = .ok (.int .i64 1) w40 := by
                obtain ⟨p1, p2, _⟩ := putM_all HMD.out HMN.out HD.out
                have hl0 : j0 < (putM m d).length := (List.getElem?_eq_some_iff.1 HPJ.out).1
                have hfs : ((putM m d).set j0 (d, 1)).map Prod.fst = (putM m d).map Prod.fst := by
                  apply List.ext_getElem?
                  intro i
                  rw [List.getElem?_map, List.getElem?_map, List.getElem?_set]
                  by_cases hi : j0 = i
                  · subst hi; rw [if_pos rfl, if_pos hl0, HPJ.out]; rfl
                  · rw [if_neg hi]
                have hcc := cntM_at (m := (putM m d).set j0 (d, 1)) (j := j0) (x := (d, 1)) (by rw [hfs]; exact p2) (by rw [List.getElem?_set, if_pos rfl, if_pos hl0])
                have h := run_lookup_m (m := (putM m d).set j0 (d, 1)) (fun x hx => by
                  rcases List.mem_or_eq_of_mem_set hx with hx | rfl
                  · exact p1 x hx
                  · exact HD.out) (by rw [hfs]; exact p2) HD.out HM40.out
                rw [hcc] at h
                exact h
              clear hb40 hg40)
           | (refine wpList_load_mid rfl 23 _ rfl wr.heap.size 0 rfl _ _ HF40.out Tryd.underlying23 rfl (by rw [List.length_map, HD.out.len]; exact size_digest) ?_))
        exact ⟨⟨j + 1, by omega, by first | rfl | simp, HB40.out, Kf40.out, by rw [HMK.out, List.nodup_append]; exact ⟨HMN.out, by simp, fun a ha b hb e => HIN.out (by rw [List.mem_singleton] at hb; rw [← hb, ← e]; exact ha)⟩, by rw [HMO.out]; have h := HM40.out; rw [HPM.out, HJ0.out, List.set_append_right _ _ (Nat.le_refl _), Nat.sub_self] at h; exact h⟩, by simp [intOf]; omega⟩
    · skip
      have hcI : ¬ (j : Int) < (len : Int) := by omega
      have HEw := hid hE
      clear hE hrlt HMwr
      go_wp2_with fail
      refine (values_any a len cap _).mono ?_
      rintro e w2 ⟨rfl, b2, k2⟩
      have Hb2 := hid (Below.on HBwr.out b2)
      have Kf2 := hid (Kfwr.out.below b2)
      have Kv2 := hid k2
      have HE2 := hid (HEw.out.below b2)
      have hs2 := Hb2.out.size
      clear b2 k2
      go_wp2_with fail
      refine (CS.out _ _ Kv2.out HE2.out).mono ?_
      rintro e w3 ⟨a3, c3, fs, rfl, n3, e3, p3, s3, b3⟩
      have Hb3 := hid (Below.on Hb2.out b3)
      have Kf3 := hid (Kf2.out.below b3)
      have HE3 := hid e3
      have HN3 := hid n3
      have hf2 := Kf2.out.lt
      have HP3 := hid p3
      have HS3 := hid s3
      have hs3 := Hb3.out.size
      clear b3 e3 p3 s3 n3
      go_wp2_with fail
      refine (empty_any _ (Htab.out.below Hb3.out)).mono ?_
      rintro e w4 ⟨rfl, b4, k4⟩
      have Hb4 := hid (Below.on Hb3.out b4)
      have Kf4 := hid (Kf3.out.below b4)
      have HE4 := hid (HE3.out.below b4)
      have Kg4 := hid k4
      have hs4 := Hb4.out.size
      have hf3 := Kf3.out.lt
      clear b4 k4
      have Kgw21 : Hid (Blk ((w4.setCell ⟨w.heap.size, 0, none⟩ (.slice a3 len c3)).setCell ⟨w.heap.size, 1, none⟩ (.slice (some ⟨w3.heap.size, 0, none⟩) 257 257)) (w3.heap.size) (dcs (empN 257)) 23) := hid (Blk.setAll_other (b := w.heap.size) (by have := Kg4.out.lt; omega) [.slice a3 len c3, .slice (some ⟨w3.heap.size, 0, none⟩) 257 257] 0 _ Kg4.out)
      have q0w21 := (Kf4.out.cell 0).trans (show _ = some _ from rfl)
      have r0w21 := Kf4.out.free 0
      have q1w21 := (Kf4.out.cell 1).trans (show _ = some _ from rfl)
      have r1w21 := Kf4.out.free 1
      have Kfw21 : Hid (Blk ((w4.setCell ⟨w.heap.size, 0, none⟩ (.slice a3 len c3)).setCell ⟨w.heap.size, 1, none⟩ (.slice (some ⟨w3.heap.size, 0, none⟩) 257 257)) (w.heap.size) #[.slice a3 len c3, .slice (some ⟨w3.heap.size, 0, none⟩) 257 257] 76) := hid (Blk.setAll_self Kf4.out [.slice a3 len c3, .slice (some ⟨w3.heap.size, 0, none⟩) 257 257] rfl)
      have HBw21 : Hid (Below w.heap.size w ((w4.setCell ⟨w.heap.size, 0, none⟩ (.slice a3 len c3)).setCell ⟨w.heap.size, 1, none⟩ (.slice (some ⟨w3.heap.size, 0, none⟩) 257 257))) := hid (Below.setAll (by omega) [.slice a3 len c3, .slice (some ⟨w3.heap.size, 0, none⟩) 257 257] 0 _ Hb4.out)
      have hsw21 := HBw21.out.size
      go_wp2_with fail
      exact bodyPost_ret (v := .tuple #[.agg #[.slice a3 len c3, .slice (some ⟨w3.heap.size, 0, none⟩) 257 257], .int .i64 0]) (results_blk_tmp Tryd.results49 _ (w.heap.size) rfl _ rfl _ 76 Kfw21.out _ Tryd.underlying76 rfl 2 size_forest rfl) rfl ⟨_, a3, c3, fs, rfl, (HE4.out.set (p := ⟨w.heap.size, 0, none⟩) (fun x o hx => by have := HN3.out x o hx; show x ≠ w.heap.size; omega) _).set (p := ⟨w.heap.size, 1, none⟩) (fun x o hx => by have := HN3.out x o hx; show x ≠ w.heap.size; omega) _, HP3.out, HS3.out, HBw21.out, Kgw21.out⟩
end Go.Proofs.YthaicocfbmpnmaaDoor
