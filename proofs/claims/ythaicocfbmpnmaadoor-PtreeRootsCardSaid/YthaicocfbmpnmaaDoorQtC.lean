/-
  Layer 17: a range over a row of entries.
-/
import Derived.Test.YthaicocfbmpnmaaDoorQtA
import Derived.Test.YthaicocfbmpnmaaDoorPrI
namespace Go.Proofs.YthaicocfbmpnmaaDoor
open Go.ChangeShapes Go.WideShapes Go.ChangeAt Go.RowKit Go.Shelf
attribute [local go_sem] Oper.semAt_some

theorem EntsAt.at_ {w : World} {a : Option Addr} {len cap : Nat} {es : List (List Int × List Int)} (h : EntsAt w a len cap es) (h0 : 0 < len) : ∃ x o, a = some ⟨x, o, none⟩ ∧ x < w.heap.size ∧ ∀ j, j < len → w.rangeAt x (o + j * 64) ((entL (es.getD j ([], [])).1 (es.getD j ([], [])).2).map (Value.int .u8)) := by
  rcases h.mem with h | h
  · omega
  · exact h
theorem rangeAt_belowB {w w' : World} {B x o : Nat} {cs : List Value} (h : w.rangeAt x o cs) (hx : x < B) (hb : Below B w w') : w'.rangeAt x o cs := fun j v hv => by
  rw [hb.cell (p := ⟨x, o + j, none⟩) hx]; exact h j v hv
section
variable {P : Program} {ops : Array Oper} {rest : List Oper} {op : Oper} {a : Act} {w : World} {Q : Exit → Act → World → Prop} {t e : TypeId} {n : Nat}
set_option maxRecDepth 100000 in
/-- An element's address, of whatever size. -/
theorem run_indexAt_k (ht : P.underlying t = some (.slice e)) (hs : (P.info? e).map (·.size) = some n) (b o len cap : Nat) (k : IntKind) (i : Int) (j : Nat) (hi : i = j) (hj : j < len) (w : World) :
    (Instr.indexAt t (.slice (some ⟨b, o, none⟩) len cap) (.int k i)).run P w = .ok (.pointer (some ⟨b, o + j * n, none⟩)) w := by
  subst hi
  obtain ⟨i0, hi0, h32⟩ := Option.map_eq_some_iff.1 hs
  have hlt : (0 : Int) ≤ j ∧ (j : Int) < len := by omega
  unfold Instr.indexAt
  simp [asIntOf, Sem.run_bind, run_underlying ht, hlt, sizeOf, typeInfo, hi0, h32, hj, Addr.add_mid]
set_option maxRecDepth 100000 in
theorem wpList_index_k (hgd : op.guard = none) (ty : TypeId) (x ix : Operand) (ho : op.op = .indexAddr ty x ix) (ht : P.underlying ty = some (.slice e)) (hs : (P.info? e).map (·.size) = some n) (b o len cap : Nat) (hx : a.eval x = .slice (some ⟨b, o, none⟩) len cap)
    (k : IntKind) (i : Int) (hix : a.eval ix = .int k i) (j : Nat) (hi : i = j) (hj : j < len) (h : wpList P ops Q rest (a.put op.dst (.pointer (some ⟨b, o + j * n, none⟩))) w) : wpList P ops Q (op :: rest) a w :=
  wpList_plain hgd fun K hK => by
    unfold Oper.wp execOp
    simp only [ho, hx, hix, Sem.run_bind, Sem.run_pure, Result.andThen_ok, run_indexAt_k ht hs b o len cap k i j hi hj, Oper.upon_value]
    exact hK _ _ h
set_option maxRecDepth 100000 in
theorem quiet_index_k {C : World → Prop} {K : Act → Prop} (ty : TypeId) (x ix : Operand) (ho : op.op = .indexAddr ty x ix) (ht : P.underlying ty = some (.slice e)) (hs : (P.info? e).map (·.size) = some n) (b o len cap : Nat) (hx : a.eval x = .slice (some ⟨b, o, none⟩) len cap)
    (k : IntKind) (i : Int) (hix : a.eval ix = .int k i) (j : Nat) (hi : i = j) (hj : j < len) (h : K (a.put op.dst (.pointer (some ⟨b, o + j * n, none⟩)))) : op.quiet P a C K :=
  ⟨.pointer (some ⟨b, o + j * n, none⟩), fun w' hw' => by
    unfold Oper.quietAt execOp
    simp only [ho, hx, hix, Sem.run_bind, Sem.run_pure, Result.andThen_ok, run_indexAt_k ht hs b o len cap k i j hi hj]
    simp [Oper.quietUpon], h⟩
end

/-- An entry of two digests. -/
abbrev EntD := {x : List Int × List Int // Dg x.1 ∧ Dg x.2}
instance : Inhabited EntD := ⟨⟨(zD, zD), Dg.zero, Dg.zero⟩⟩
theorem ent_len {a b : List Int} (ha : Dg a) (hb : Dg b) : (entL a b).length = 64 := by simp [entL, ha.len, hb.len]
theorem ents_of {es : List (List Int × List Int)} (h : ∀ x ∈ es, Dg x.1 ∧ Dg x.2) : ∃ fs : List EntD, fs.map Subtype.val = es :=
  ⟨es.pmap Subtype.mk h, by simp [List.map_pmap]⟩
set_option maxHeartbeats 4000000 in
set_option maxRecDepth 100000 in
theorem values_stops (n : Nat) (ad : Option Addr) (len cap : Nat) (es : List EntD) (pb n₀ : Nat) (w W0 : World) (hE : EntsAt w ad len cap (es.map Subtype.val)) (hmx : len < 4611686018427387904) (hn₀ : n₀ = w.heap.size) (hB : Below w.heap.size w W0) (hk : Blk W0 pb #[.slice ad len cap] 36) :
    SeqStopsK Fence.wide n Tryd.prog 93 #[.pointer (some ⟨pb, 0, none⟩)] (fun x : EntD => #[.agg ((entL x.1.1 x.1.2).map (Value.int .u8)).toArray]) (Below n₀) (fun ys => ys = es) (fun pre => ∃ k, k ≤ len ∧ pre = es.take k) len W0 := fun l J Jx W hW hJ hJx hY h0 => by
  subst hn₀
  have HK := hid (hk.below hW)
  have HE := hid hE
  have HB := hid (Below.on hB hW)
  have HY := hid hY
  have HJ := hid hJ
  have H0 := hid h0
  have hpl := HK.out.lt
  have hws := HB.out.size
  have c1 : W.cell? ⟨pb, 0, none⟩ = some (.slice ad len cap) := by rw [HK.out.cell]; rfl
  clear hW hB hY hJ hJx h0 hk hE
  refine callsIn_of_wp Tryd.func93 rfl trivial ?_ rfl
  simp only [Tryd.ntmps93, List.size_toArray, List.length_cons, List.length_nil, Nat.reduceAdd, Nat.reduceSub, Array.replicate_succ, Array.replicate_zero, List.push_toArray, List.append_toArray, List.nil_append, List.cons_append]
  apply wpIn_seq_k
  intro _ _
  refine wpIn_region_as rfl rfl ?_
  go_wp2_with fail
  apply wpIn_block
  gi_loopw [7] (fun kv wr => ∃ k : Nat, k ≤ len ∧ kv = .int .i64 k ∧ J (es.take k) wr ∧ Below w.heap.size w wr) (fun kv _ => len - (intOf kv).toNat)
  case atStart => exact ⟨0, Nat.zero_le _, rfl, H0.out, HB.out⟩
  case round =>
    obtain ⟨k, hk, rfl, hj, bel⟩ := hrel
    have HBr := hid bel
    have HJr := hid hj
    have hsr := bel.size
    clear bel hj
    by_cases hlt : k < len
    · skip
      have hc0 : (k : Int) < (len : Int) := by omega
      have hwr : wrap64 ((k : Int) + 1) = (k : Int) + 1 := by unfold wrap64; omega
      obtain ⟨g, ro, rfl, hg, hr⟩ := HE.out.at_ (by omega)
      have hlen := HE.out.length
      have hle : es.length = len := by rw [← hlen, List.length_map]
      have hge : (es.map Subtype.val).getD k ([], []) = (es.getD k default).1 := by
        rw [List.getD_eq_getElem?_getD, List.getD_eq_getElem?_getD, List.getElem?_map, List.getElem?_eq_getElem (show k < es.length by omega)]
        rfl
      have htk : es.take (k + 1) = es.take k ++ [es.getD k default] := by rw [List.take_add_one, List.getD_eq_getElem?_getD, List.getElem?_eq_getElem (show k < es.length by omega)]; rfl
      have hr1 := rangeAt_belowB (hr k hlt) hg HBr.out
      rw [hge] at hr1
      have Hr0 := hid hr1
      have HYk := hid (HY.out (es.take k) (es.getD k default))
      have HT := hid htk
      generalize es.getD k default = x at *
      obtain ⟨⟨xi, xc⟩, hda, hdb⟩ := x
      dsimp only at hda hdb HYk Hr0
      clear hr hr1 htk hge
      apply wpIn_seq_k
      intro _ _
      refine wpIn_region_as rfl rfl ?_
      go_wp2_with fail
      apply wpIn_seq_k
      intro _ _
      refine wpIn_cond_true rfl ?_
      apply wpIn_skip
      gi_step
      gi_step
      apply wpIn_seq_k
      intro _ _
      apply wpIn_block
      apply wpIn_seq_k
      intro _ _
      refine wpIn_region_as rfl rfl ?_
      go_wp2_with (first
               | (refine wpList_index_k rfl 36 _ _ rfl Tryd.underlying36 size_entry g ro len cap rfl _ _ rfl k rfl (by omega) ?_)
               | (refine wpList_load_mid rfl 25 _ rfl g (ro + k * 64) rfl _ _ Hr0.out Tryd.underlying25 rfl (by rw [List.length_map]; exact ent_size64 hda hdb) ?_)
               | (
               refine wpList_store_blk rfl 25 _ _ rfl (wr.heap.size) ((entL xi xc).map (Value.int .u8)).toArray rfl rfl _ 25 (Blk.new rfl ((entL zD zD).map (Value.int .u8)).toArray _) 64 size_entry (two_size Dg.zero Dg.zero) (two_size hda hdb) (ints_one _ _) ?_
               intro w2 hb2 hk2
               have b2 := hb2.below ((Below.refl wr.heap.size wr).alloc (Nat.le_refl _) _) (by simp only [World.size_alloc]; omega) (Nat.le_refl _)
               have HB2 := hid b2
               have HS2 := hid hk2
               clear hb2 hk2 b2))
      have HJY := hid (HJ.out (es.take k) wr w2 none HJr.out (grown_below HB2.out) (by intro r e; cases e))
      have HBY := hid (HBr.out.trans (HB2.out.mono (by omega)))
      have hsY := HBY.out.size
      obtain ⟨fn, tmps, assign, body, hy, hR⟩ := HYk.out w2 HJY.out (by rw [List.length_take]; omega)
      have HR := hid hR
      clear hR
      apply wpIn_seq_k
      intro _ _
      apply wpIn_region_lit
      gi_wp2_with (refine wpListIn_one (F := Fence.wide) rfl rfl ?_; refine wpList_load_blk rfl 25 _ rfl (wr.heap.size) rfl _ 25 HS2.out _ Tryd.underlying25 rfl 64 size_entry (two_size hda hdb) ?_; refine wpList_nil ⟨rfl, ?_⟩)
      refine ⟨fun h => (by simp [Fence.wide] at h), HR.out.mono ?_⟩
      rintro e W3 (⟨rfl, hJ3, hk3⟩ | ⟨rfl, hJx3⟩)
      · skip
        have HJ3 := hid hJ3
        have HK3 := hid hk3
        clear hJ3 hk3
        gi_wp2_with fail
        go_roundw
        case rel => exact ⟨k + 1, by omega, by simp, by rw [HT.out]; exact HJ3.out, HBY.out.trans HK3.out⟩
        case measure => simp [intOf]; omega
      · skip
        have HJ3 := hid hJx3
        clear hJx3
        gi_wp2_with fail
        refine bodyPost_ret (results_none rfl _ _ _) rfl ?_
        exact ⟨⟨_, rfl⟩, .inr ⟨_, ⟨k + 1, by omega, rfl⟩, by rw [HT.out]; exact HJ3.out⟩⟩
    · skip
      have hk7 : k = len := by omega
      subst hk7
      have hc0 : ¬ ((k : Int) < (k : Int)) := by omega
      have hlen := HE.out.length
      rw [List.length_map] at hlen
      have hta : es.take k = es := List.take_of_length_le (by omega)
      rw [hta] at HJr
      gi_wp2_with fail
      go_end0
      exact ⟨⟨_, rfl⟩, .inl HJr.out⟩
end Go.Proofs.YthaicocfbmpnmaaDoor
