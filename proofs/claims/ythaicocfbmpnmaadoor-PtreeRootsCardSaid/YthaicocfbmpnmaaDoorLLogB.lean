/-
  Layer 19: roots and ways of a log, by the program and by the reference.
-/
import Derived.Test.YthaicocfbmpnmaaDoorLLogA
import Derived.Lib.Tables
namespace Go.Proofs.YthaicocfbmpnmaaDoor
open Go.ChangeShapes Go.WideShapes Go.ChangeAt Go.RowKit

section
variable {P : Program} {ops : Array Oper} {rest : List Oper} {op : Oper} {a : Act} {w : World} {Q : Exit → Act → World → Prop} {t e : TypeId}
/-- An element's address, of elements of s cells. -/
theorem run_indexAt_s (s : Nat) (ht : P.underlying t = some (.slice e)) (hs : (P.info? e).map (·.size) = some s) (b o len cap : Nat) (k : IntKind) (i : Int) (j : Nat) (hi : i = j) (hj : j < len) (w : World) :
    (Instr.indexAt t (.slice (some ⟨b, o, none⟩) len cap) (.int k i)).run P w = .ok (.pointer (some ⟨b, o + j * s, none⟩)) w := by
  subst hi
  obtain ⟨i0, hi0, h32⟩ := Option.map_eq_some_iff.1 hs
  have hlt : (0 : Int) ≤ j ∧ (j : Int) < len := by omega
  unfold Instr.indexAt
  simp [asIntOf, Sem.run_bind, run_underlying ht, hlt, sizeOf, typeInfo, hi0, h32, hj, Addr.add_mid]
theorem wpList_index_s (s : Nat) (hw : Region.wanted op (yielded ops a.tmps) = true) (ty : TypeId) (x ix : Operand) (ho : op.op = .indexAddr ty x ix) (ht : P.underlying ty = some (.slice e)) (hs : (P.info? e).map (·.size) = some s) (b o len cap : Nat) (hx : a.eval x = .slice (some ⟨b, o, none⟩) len cap)
    (k : IntKind) (i : Int) (hix : a.eval ix = .int k i) (j : Nat) (hi : i = j) (hj : j < len) (h : wpList P ops Q rest (a.put op.dst (.pointer (some ⟨b, o + j * s, none⟩))) w) : wpList P ops Q (op :: rest) a w := by
  unfold wpList
  rw [if_pos hw]
  refine .inl ?_
  unfold Oper.wp execOp
  simp only [ho, hx, hix, Sem.run_bind, Sem.run_pure, Result.andThen_ok, run_indexAt_s s ht hs b o len cap k i j hi hj, Oper.upon_value]
  exact h
theorem quiet_index_s (s : Nat) {C : World → Prop} {K : Act → Prop} (ty : TypeId) (x ix : Operand) (ho : op.op = .indexAddr ty x ix) (ht : P.underlying ty = some (.slice e)) (hs : (P.info? e).map (·.size) = some s) (b o len cap : Nat) (hx : a.eval x = .slice (some ⟨b, o, none⟩) len cap)
    (k : IntKind) (i : Int) (hix : a.eval ix = .int k i) (j : Nat) (hi : i = j) (hj : j < len) (h : K (a.put op.dst (.pointer (some ⟨b, o + j * s, none⟩)))) : op.quiet P a C K :=
  ⟨.pointer (some ⟨b, o + j * s, none⟩), fun w' hw' => by
    unfold Oper.quietAt execOp
    simp only [ho, hx, hix, Sem.run_bind, Sem.run_pure, Result.andThen_ok, run_indexAt_s s ht hs b o len cap k i j hi hj]
    simp [Oper.quietUpon], h⟩
end

/-- The way of a place. -/
def pathL : Nat → List (List Int) → Nat → List (List Int)
  | 0, _, _ => []
  | f + 1, ts, i => if ts.length = 1 then [] else if i < halfN ts.length then pathL f (ts.take (halfN ts.length)) i ++ [rootL f (ts.drop (halfN ts.length))] else pathL f (ts.drop (halfN ts.length)) (i - halfN ts.length) ++ [rootL f (ts.take (halfN ts.length))]
/-- The way from a beginning. -/
def growL : Nat → List (List Int) → Nat → Bool → List (List Int)
  | 0, _, _, _ => []
  | f + 1, ts, m, cut => if m = ts.length then (if cut then [rootL (f + 1) ts] else []) else if m ≤ halfN ts.length then growL f (ts.take (halfN ts.length)) m cut ++ [rootL f (ts.drop (halfN ts.length))] else growL f (ts.drop (halfN ts.length)) (m - halfN ts.length) true ++ [rootL f (ts.take (halfN ts.length))]
theorem pathL_length (f : Nat) : ∀ (ts : List (List Int)) (i : Nat), (pathL f ts i).length ≤ f := by
  induction f with
  | zero => intro ts i; exact Nat.le_refl _
  | succ f ih =>
    intro ts i
    unfold pathL
    split
    · simp
    · split
      · have := ih (ts.take (halfN ts.length)) i; simp; exact this
      · have := ih (ts.drop (halfN ts.length)) (i - halfN ts.length); simp; exact this
theorem growL_length (f : Nat) : ∀ (ts : List (List Int)) (m : Nat) (c : Bool), (growL f ts m c).length ≤ f := by
  induction f with
  | zero => intro ts m c; exact Nat.le_refl _
  | succ f ih =>
    intro ts m c
    unfold growL
    split
    · split
      · simp
      · simp
    · split
      · have := ih (ts.take (halfN ts.length)) m c; simp; exact this
      · have := ih (ts.drop (halfN ts.length)) (m - halfN ts.length) true; simp; exact this

set_option maxHeartbeats 4000000 in
set_option maxRecDepth 100000 in
theorem refhalf_any (k : Nat) : ∀ (n : Nat) (w : World), n ≤ k → 2 ≤ n → n ≤ 1000000 → Calls Tryd.prog 66 #[.int .i64 n] w fun e w' => e = .returned (.int .i64 (halfN n : Int)) ∧ w' = w := by
  induction k with
  | zero => intro n w h1 h2 _; omega
  | succ k ih =>
    intro n w h1 h2 h3
    rcases Nat.eq_or_lt_of_le h2 with rfl | hlt
    · go_enter Tryd.func66, Tryd.ntmps66
      go_wp2_with fail
      go_ret
      exact ⟨by rw [halfN_two]; rfl, rfl⟩
    · have hne : ¬ ((n : Int) = 2) := by omega
      have hh := halfN_lt (n := (n + 1) / 2) (by omega)
      have hw1 : wrap64 ((n : Int) + 1) = (n : Int) + 1 := by unfold wrap64; omega
      have hd : Int.tdiv ((n : Int) + 1) 2 = (((n + 1) / 2 : Nat) : Int) := by rw [Int.tdiv_eq_ediv_of_nonneg (by omega)]; omega
      have hd2 : ((n : Int) + 1) / 2 = (((n + 1) / 2 : Nat) : Int) := by omega
      have hw2 : wrap64 (((n + 1) / 2 : Nat) : Int) = (((n + 1) / 2 : Nat) : Int) := by unfold wrap64; omega
      have hs := halfN_step hlt
      have hw3 : wrap64 (2 * (halfN ((n + 1) / 2) : Int)) = (halfN n : Int) := by unfold wrap64; omega
      have ih2 := ih ((n + 1) / 2)
      generalize (n + 1) / 2 = q at *
      go_enter Tryd.func66, Tryd.ntmps66
      go_wp2_with (go_at_call 66; refine (ih2 _ (by omega) (by omega) (by omega)).mono ?_; rintro e w' ⟨rfl, rfl⟩)
      go_ret
      exact ⟨by rw [show ((halfN n : Nat) : Int) = 2 * (halfN q : Int) by omega]; rfl, rfl⟩
section
variable {P : Program} {ops : Array Oper} {rest : List Oper} {op : Oper} {a : Act} {w : World} {Q : Exit → Act → World → Prop}
theorem wpList_index_len8 (hgd : op.guard = none) (t : TypeId) (s : ByteArray) (x : Operand) (ho : op.op = .index t (.const (.string s)) x) (hs : s = Lib.len8tab) (ht : P.underlying t = some .string) (k : IntKind) (i : Int) (hx : a.eval x = .int k i) (h0 : 0 ≤ i) (h1 : i ≤ 255)
    (h : wpList P ops Q rest (a.put op.dst (.int .u8 (Lib.len8 i))) w) : wpList P ops Q (op :: rest) a w :=
  wpList_plain hgd fun K hK => by
    subst hs
    unfold Oper.wp execOp
    have hc : a.eval (.const (.string Lib.len8tab)) = .string Lib.len8tab := rfl
    simp only [ho, hx, hc, Sem.run_bind, Sem.run_pure, Result.andThen_ok, Lib.run_index_len8tab w t k i ht h0 h1, Oper.upon_value]
    exact hK _ _ h
end
theorem len8_log (x : Nat) (hx : x < 256) : Lib.len8 (x : Int) = (if x = 0 then 0 else (Nat.log2 x : Int) + 1) :=
  (by decide +kernel : ∀ i : Fin 256, Lib.len8 ((i.val : Nat) : Int) = (if i.val = 0 then 0 else (Nat.log2 i.val : Int) + 1)) ⟨x, hx⟩

set_option maxHeartbeats 4000000 in
set_option maxRecDepth 100000 in
theorem len64_any (x : Int) (w : World) (h0 : 0 ≤ x) (h1 : x ≤ 255) : Calls Tryd.prog 96 #[.int .u64 x] w fun e w' => e = .returned (.int .i64 (Lib.len8 x)) ∧ w' = w := by
  have h2 : ¬ (4294967296 ≤ x) := by omega
  have h3 : ¬ (65536 ≤ x) := by omega
  have h4 : ¬ (256 ≤ x) := by omega
  have h5 : x % 256 = x := by omega
  have h6 : wrap64 (Lib.len8 x) = Lib.len8 x := by
    obtain ⟨n, rfl⟩ := Int.eq_ofNat_of_zero_le h0
    have hn : n < 256 := by omega
    have hl : Nat.log2 n ≤ 7 := (by decide +kernel : ∀ i : Fin 256, Nat.log2 i.val ≤ 7) ⟨n, hn⟩
    rw [len8_log n hn]
    unfold wrap64
    split <;> omega
  go_enter Tryd.func96, Tryd.ntmps96
  go_wp2_with (refine wpList_index_len8 rfl _ _ _ rfl (by kernel_rfl) Tryd.underlying9 .u8 x rfl (by omega) (by omega) ?_)
  go_ret
  exact ⟨by first | rfl | (rw [h6]; rfl) | (rw [h6, h6]; rfl), rfl⟩
set_option maxHeartbeats 4000000 in
set_option maxRecDepth 100000 in
theorem len_any (x : Int) (w : World) (h0 : 0 ≤ x) (h1 : x ≤ 255) : Calls Tryd.prog 89 #[.int .u64 x] w fun e w' => e = .returned (.int .i64 (Lib.len8 x)) ∧ w' = w := by
  go_enter Tryd.func89, Tryd.ntmps89
  go_wp2_with (go_at_call 96; refine (len64_any x _ h0 h1).mono ?_; rintro e w' ⟨rfl, rfl⟩)
  go_ret
  exact ⟨rfl, rfl⟩
theorem log2_half {n : Nat} (h : 2 ≤ n) (h2 : n ≤ 256) : ∃ k : Nat, k ≤ 7 ∧ Lib.len8 ((n : Int) - 1) = (k : Int) + 1 ∧ halfN n = 2 ^ k := by
  refine ⟨Nat.log2 (n - 1), (by decide +kernel : ∀ i : Fin 256, Nat.log2 i.val ≤ 7) ⟨n - 1, by omega⟩, ?_, rfl⟩
  have := len8_log (n - 1) (by omega)
  rw [if_neg (by omega)] at this
  rw [← this]
  congr 1
  omega
theorem wrap_pow7 {n : Nat} (h : n ≤ 7) : wrap64 ((2 : Int) ^ n) = ((2 ^ n : Nat) : Int) := (by decide +kernel : ∀ i : Fin 8, wrap64 ((2 : Int) ^ i.val) = ((2 ^ i.val : Nat) : Int)) ⟨n, by omega⟩
set_option maxHeartbeats 4000000 in
set_option maxRecDepth 100000 in
theorem lohalf_any (n : Nat) (w : World) (h : 2 ≤ n) (h2 : n ≤ 256) : Calls Tryd.prog 69 #[.int .i64 n] w fun e w' => e = .returned (.int .i64 (halfN n : Int)) ∧ w' = w := by
  obtain ⟨k, hk, hl, hn⟩ := log2_half h h2
  rw [hn]
  have CL := hid (fun W : World => len_any ((n : Int) - 1) W (by omega) (by omega))
  rw [hl] at CL
  have hw := wrap_pow7 hk
  have hw1 : wrap64 ((n : Int) - 1) = (n : Int) - 1 := by unfold wrap64; omega
  have hw2 : wrap64 ((k : Int) + 1 - 1) = (k : Int) := by unfold wrap64; omega
  have hk1 : (k : Int) + 1 - 1 = k := by omega
  have hw3 : wrap64 (k : Int) = (k : Int) := by unfold wrap64; omega
  have hc : ((n : Int) - 1) % 18446744073709551616 = (n : Int) - 1 := by omega
  go_enter Tryd.func69, Tryd.ntmps69
  go_wp2_with (go_at_call 89; refine (CL.out _).mono ?_; rintro e w' ⟨rfl, rfl⟩)
  go_ret
  exact ⟨by first | rfl | (rw [← hw]; rfl), rfl⟩

set_option maxHeartbeats 4000000 in
set_option maxRecDepth 100000 in
theorem loroot_none (a : Option Addr) (cap : Nat) (w : World) :
    Calls Tryd.prog 62 #[.slice a 0 cap] w fun e w' => e = .returned (.agg (zD.map (Value.int .u8)).toArray) ∧ Below w.heap.size w w' := by
  have b1 := (Below.refl w.heap.size w).alloc (Nat.le_refl _) (.cells (byteCells 32 []) 23 (0, 0))
  have Kr := hid (Blk.new (w := w) (n := w.heap.size) rfl (byteCells 32 []) 23)
  have Hb := hid b1
  have hbz := b1.size
  have Hbs := hid (show w.heap.size + 1 = (w.alloc (.cells (byteCells 32 []) 23 (0, 0))).heap.size by simp only [World.size_alloc])
  clear b1 
  go_enter Tryd.func62, Tryd.ntmps62
  go_wp2_with (
      refine wpList_store_blk rfl 23 _ _ rfl (w.heap.size) (zD.map (Value.int .u8)).toArray rfl rfl _ 23 Kr.out 32 size_digest zsize Dg.zero.size (ints_one _ _) ?_
      intro w9 hb9 hk9
      have HB9 := hid (hb9.below Hb.out Hb.out.size (by omega))
      have HK9 := hid hk9
      clear hb9 hk9)
  exact bodyPost_ret (v := .agg (zD.map (Value.int .u8)).toArray) (results_blk Tryd.results62 _ (w.heap.size) rfl _ 23 HK9.out _ Tryd.underlying23 rfl 32 size_digest Dg.zero.size) rfl ⟨rfl, HB9.out⟩

set_option maxHeartbeats 4000000 in
set_option maxRecDepth 100000 in
theorem loroot_one (x o cap : Nat) (ta : Option Addr) (tn tc : Nat) (m : List Int) (w : World) (hx : x < w.heap.size) (hc : w.cell? ⟨x, o, none⟩ = some (.slice ta tn tc)) (hT : TextAt w ta tn tc m) (hn : tn ≤ 1000000) (tab : ShaTab w) :
    Calls Tryd.prog 62 #[.slice (some ⟨x, o, none⟩) 1 cap] w fun e w' => e = .returned (.agg ((leafL m).map (Value.int .u8)).toArray) ∧ Below w.heap.size w w' := by
  have CL := hid (fun (W : World) (h : TextAt W ta tn tc m) (t : ShaTab W) => loleaf_any ta tn tc m W h (by omega) t)
  have HX := hid (Dg.leafL m)
  generalize leafL m = X at *
  have b1 := (Below.refl w.heap.size w).alloc (Nat.le_refl _) (.cells (byteCells 32 []) 23 (0, 0))
  have Kr := hid (Blk.new (w := w) (n := w.heap.size) rfl (byteCells 32 []) 23)
  have Hb := hid b1
  have hbz := b1.size
  have Hbs := hid (show w.heap.size + 1 = (w.alloc (.cells (byteCells 32 []) 23 (0, 0))).heap.size by simp only [World.size_alloc])
  have Htab := hid tab
  clear b1 tab 
  go_enter Tryd.func62, Tryd.ntmps62
  have hcl := (Hb.out.cell (p := ⟨x, o, none⟩) hx).trans hc
  go_wp2_with (refine wpList_index_s 1 (by first | rfl | go_simp) 58 _ _ rfl Tryd.underlying58 size_texts x o 1 cap rfl _ _ rfl 0 rfl (by omega) ?_)
  refine (CL.out _ (hT.below Hb.out) (Htab.out.below Hb.out)).mono ?_
  rintro e w1 ⟨rfl, bw1⟩
  have HBw1 := hid (Below.on Hb.out bw1)
  have hsw1 := HBw1.out.size
  have Krw1 := hid (Kr.out.below bw1)
  clear bw1
  go_wp2_with (
      refine wpList_store_blk rfl 23 _ _ rfl (w.heap.size) (X.map (Value.int .u8)).toArray rfl rfl _ 23 Krw1.out 32 size_digest zsize HX.out.size (ints_one _ _) ?_
      intro w9 hb9 hk9
      have HB9 := hid (hb9.below HBw1.out HBw1.out.size (by omega))
      have HK9 := hid hk9
      clear hb9 hk9)
  exact bodyPost_ret (v := .agg (X.map (Value.int .u8)).toArray) (results_blk Tryd.results62 _ (w.heap.size) rfl _ 23 HK9.out _ Tryd.underlying23 rfl 32 size_digest HX.out.size) rfl ⟨rfl, HB9.out⟩

set_option maxHeartbeats 4000000 in
set_option maxRecDepth 100000 in
theorem loroot_any (f : Nat) : ∀ (a : Option Addr) (len cap : Nat) (ts : List (List Int)) (w : World), TextsAt w a len cap ts → len ≤ f → len ≤ 256 → sumLen ts ≤ 1000000 → ShaTab w →
    Calls Tryd.prog 62 #[.slice a len cap] w fun e w' => e = .returned (.agg ((rootL f ts).map (Value.int .u8)).toArray) ∧ Below w.heap.size w w' := by
  induction f with
  | zero =>
    intro a len cap ts w hT hl _ _ _
    obtain rfl : len = 0 := by omega
    exact loroot_none a cap w
  | succ f ih =>
    intro a len cap ts w hT hl h256 hsum tab
    have hlen := hT.length
    rcases (show len = 0 ∨ len = 1 ∨ 2 ≤ len by omega) with rfl | rfl | h2
    · rw [rootL_nil _ hlen]
      exact loroot_none a cap w
    · rw [rootL_one _ hlen]
      obtain ⟨x, o, ta, tn, tc, rfl, hx, hc, ht⟩ := hT.at_ 0 (by omega)
      have hs := sumLen_at (ts := ts) 0
      have := ht.length
      exact loroot_one x o cap ta tn tc _ w hx hc ht (by omega) tab
    · have hle := hT.le
      have hmx := hT.max
      rw [rootL_many _ (by omega), hlen]
      obtain ⟨hk1, hk2⟩ := halfN_lt h2
      have CH := hid (fun W : World => lohalf_any len W h2 h256)
      generalize hkk : halfN len = k at *
      have CA := hid (fun (W : World) (h : TextsAt W a k cap (ts.take k)) (t : ShaTab W) => ih a k cap (ts.take k) W h (by omega) (by omega) (Nat.le_trans (sumLen_takes _ _) hsum) t)
      have CB := hid (fun (W : World) (h : TextsAt W (cutS a k cap) (len - k) (cap - k) (ts.drop k)) (t : ShaTab W) => ih (cutS a k cap) (len - k) (cap - k) (ts.drop k) W h (by omega) (by omega) (Nat.le_trans (sumLen_drop _ _) hsum) t)
      have HA := hid (Dg.rootL f (ts.take k))
      have HBb := hid (Dg.rootL f (ts.drop k))
      have HT1 := hid (hT.take k (by omega))
      have HT2 := hid (hT.drop k (by omega))
      generalize rootL f (ts.take k) = A1 at *
      generalize rootL f (ts.drop k) = B1 at *
      have CN := hid (fun (W : World) (t : ShaTab W) => lonode_any A1 B1 W HA.out HBb.out t)
      have HX := hid (Dg.nodeL A1 B1)
      generalize nodeL A1 B1 = X at *
      have hc1 : ∀ W : World, (Instr.slice 58 (.slice a len cap) none (some (.int .i64 (k : Int))) none).run Tryd.prog W = .ok (.slice a k cap) W := fun W => run_cuts_h a len cap k W (by omega)
      have hc2 : ∀ W : World, (Instr.slice 58 (.slice a len cap) (some (.int .i64 (k : Int))) none none).run Tryd.prog W = .ok (.slice (cutS a k cap) (len - k) (cap - k)) W := fun W => run_cuts_l a len cap k W (by omega)
      generalize cutS a k cap = a2 at *
      clear hT hkk ih hsum
      have b1 := (Below.refl w.heap.size w).alloc (Nat.le_refl _) (.cells (byteCells 32 []) 23 (0, 0))
      have Kr := hid (Blk.new (w := w) (n := w.heap.size) rfl (byteCells 32 []) 23)
      have Hb := hid b1
      have hbz := b1.size
      have Hbs := hid (show w.heap.size + 1 = (w.alloc (.cells (byteCells 32 []) 23 (0, 0))).heap.size by simp only [World.size_alloc])
      have Htab := hid tab
      clear b1 tab 
      go_enter Tryd.func62, Tryd.ntmps62
      go_wp2_with (go_at_call 69; refine (CH.out _).mono ?_; rintro e w' ⟨rfl, rfl⟩)
      refine wp_region_flow 9 (List.range 9) [] [] (by kernel_rfl) (by kernel_rfl) ?_
      apply Exists.intro
      refine ⟨fun w0 hb0 hF0 => ?_, ?_⟩
      · skip
        have c0 := fun e : Ext w0 => CA.out e.at_ (((HT1.out.below Hb.out).below hb0).below e.same) ((Htab.out.below (Below.on Hb.out hb0)).below e.same)
        have c1 := fun e : Ext w0 => CB.out e.at_ (((HT2.out.below Hb.out).below hb0).below e.same) ((Htab.out.below (Below.on Hb.out hb0)).below e.same)
        have c2 := fun e : Ext w0 => CN.out e.at_ ((Htab.out.below (Below.on Hb.out hb0)).below e.same)
        simp only [pick, List.range, List.range.loop, List.getElem?_toArray, List.getElem?_cons_succ, List.getElem?_cons_zero, Option.toList_some, List.cons_append, List.nil_append]
        repeat (first | go_big_quiet_step (first | (go_at_call 62; with_reducible exact Calls.ext (c0 _)) | (go_at_call 62; with_reducible exact Calls.ext (c1 _)) | (go_at_call 17; with_reducible exact Calls.ext (c2 _))))
        exact wpQuiet_nil rfl
      refine AlChk.nil ?_
      refine Walk.fin fun w1 hw1 _ _ => ?_
      simp only [List.drop_succ_cons, List.drop_zero]
      have HBw1 := hid (Below.on Hb.out hw1)
      have hsw1 := HBw1.out.size
      have Krw1 := hid (Kr.out.below hw1)
      clear hw1
      go_wp2_with (
          refine wpList_store_blk rfl 23 _ _ rfl (w.heap.size) (X.map (Value.int .u8)).toArray rfl rfl _ 23 Krw1.out 32 size_digest zsize HX.out.size (ints_one _ _) ?_
          intro w9 hb9 hk9
          have HB9 := hid (hb9.below HBw1.out HBw1.out.size (by omega))
          have HK9 := hid hk9
          clear hb9 hk9)
      exact bodyPost_ret (v := .agg (X.map (Value.int .u8)).toArray) (results_blk Tryd.results62 _ (w.heap.size) rfl _ 23 HK9.out _ Tryd.underlying23 rfl 32 size_digest HX.out.size) rfl ⟨rfl, HB9.out⟩

set_option maxHeartbeats 4000000 in
set_option maxRecDepth 100000 in
theorem refroot_none (a : Option Addr) (cap : Nat) (w : World) :
    Calls Tryd.prog 39 #[.slice a 0 cap] w fun e w' => e = .returned (.agg (zD.map (Value.int .u8)).toArray) ∧ Below w.heap.size w w' := by
  have b1 := (Below.refl w.heap.size w).alloc (Nat.le_refl _) (.cells (byteCells 32 []) 23 (0, 0))
  have Kr := hid (Blk.new (w := w) (n := w.heap.size) rfl (byteCells 32 []) 23)
  have Hb := hid b1
  have hbz := b1.size
  have Hbs := hid (show w.heap.size + 1 = (w.alloc (.cells (byteCells 32 []) 23 (0, 0))).heap.size by simp only [World.size_alloc])
  clear b1 
  go_enter Tryd.func39, Tryd.ntmps39
  go_wp2_with (
      refine wpList_store_blk rfl 23 _ _ rfl (w.heap.size) (zD.map (Value.int .u8)).toArray rfl rfl _ 23 Kr.out 32 size_digest zsize Dg.zero.size (ints_one _ _) ?_
      intro w9 hb9 hk9
      have HB9 := hid (hb9.below Hb.out Hb.out.size (by omega))
      have HK9 := hid hk9
      clear hb9 hk9)
  exact bodyPost_ret (v := .agg (zD.map (Value.int .u8)).toArray) (results_blk Tryd.results39 _ (w.heap.size) rfl _ 23 HK9.out _ Tryd.underlying23 rfl 32 size_digest Dg.zero.size) rfl ⟨rfl, HB9.out⟩

set_option maxHeartbeats 4000000 in
set_option maxRecDepth 100000 in
theorem refroot_one (x o cap : Nat) (ta : Option Addr) (tn tc : Nat) (m : List Int) (w : World) (hx : x < w.heap.size) (hc : w.cell? ⟨x, o, none⟩ = some (.slice ta tn tc)) (hT : TextAt w ta tn tc m) (hn : tn ≤ 1000000) :
    Calls Tryd.prog 39 #[.slice (some ⟨x, o, none⟩) 1 cap] w fun e w' => e = .returned (.agg ((leafL m).map (Value.int .u8)).toArray) ∧ Below w.heap.size w w' := by
  have CL := hid (fun (W : World) (h : TextAt W ta tn tc m) => refleaf_any ta tn tc m W h (by omega))
  have HX := hid (Dg.leafL m)
  generalize leafL m = X at *
  have b1 := (Below.refl w.heap.size w).alloc (Nat.le_refl _) (.cells (byteCells 32 []) 23 (0, 0))
  have Kr := hid (Blk.new (w := w) (n := w.heap.size) rfl (byteCells 32 []) 23)
  have Hb := hid b1
  have hbz := b1.size
  have Hbs := hid (show w.heap.size + 1 = (w.alloc (.cells (byteCells 32 []) 23 (0, 0))).heap.size by simp only [World.size_alloc])
  clear b1 
  go_enter Tryd.func39, Tryd.ntmps39
  have hcl := (Hb.out.cell (p := ⟨x, o, none⟩) hx).trans hc
  go_wp2_with (refine wpList_index_s 1 (by first | rfl | go_simp) 58 _ _ rfl Tryd.underlying58 size_texts x o 1 cap rfl _ _ rfl 0 rfl (by omega) ?_)
  refine (CL.out _ (hT.below Hb.out)).mono ?_
  rintro e w1 ⟨rfl, bw1⟩
  have HBw1 := hid (Below.on Hb.out bw1)
  have hsw1 := HBw1.out.size
  have Krw1 := hid (Kr.out.below bw1)
  clear bw1
  go_wp2_with (
      refine wpList_store_blk rfl 23 _ _ rfl (w.heap.size) (X.map (Value.int .u8)).toArray rfl rfl _ 23 Krw1.out 32 size_digest zsize HX.out.size (ints_one _ _) ?_
      intro w9 hb9 hk9
      have HB9 := hid (hb9.below HBw1.out HBw1.out.size (by omega))
      have HK9 := hid hk9
      clear hb9 hk9)
  exact bodyPost_ret (v := .agg (X.map (Value.int .u8)).toArray) (results_blk Tryd.results39 _ (w.heap.size) rfl _ 23 HK9.out _ Tryd.underlying23 rfl 32 size_digest HX.out.size) rfl ⟨rfl, HB9.out⟩

set_option maxHeartbeats 4000000 in
set_option maxRecDepth 100000 in
theorem refroot_any (f : Nat) : ∀ (a : Option Addr) (len cap : Nat) (ts : List (List Int)) (w : World), TextsAt w a len cap ts → len ≤ f → len ≤ 256 → sumLen ts ≤ 1000000 →
    Calls Tryd.prog 39 #[.slice a len cap] w fun e w' => e = .returned (.agg ((rootL f ts).map (Value.int .u8)).toArray) ∧ Below w.heap.size w w' := by
  induction f with
  | zero =>
    intro a len cap ts w hT hl _ _
    obtain rfl : len = 0 := by omega
    exact refroot_none a cap w
  | succ f ih =>
    intro a len cap ts w hT hl h256 hsum
    have hlen := hT.length
    rcases (show len = 0 ∨ len = 1 ∨ 2 ≤ len by omega) with rfl | rfl | h2
    · rw [rootL_nil _ hlen]
      exact refroot_none a cap w
    · rw [rootL_one _ hlen]
      obtain ⟨x, o, ta, tn, tc, rfl, hx, hc, ht⟩ := hT.at_ 0 (by omega)
      have hs := sumLen_at (ts := ts) 0
      have := ht.length
      exact refroot_one x o cap ta tn tc _ w hx hc ht (by omega)
    · have hle := hT.le
      have hmx := hT.max
      rw [rootL_many _ (by omega), hlen]
      obtain ⟨hk1, hk2⟩ := halfN_lt h2
      have CH := hid (fun W : World => refhalf_any len len W (Nat.le_refl _) h2 (by omega))
      generalize hkk : halfN len = k at *
      have CA := hid (fun (W : World) (h : TextsAt W a k cap (ts.take k)) => ih a k cap (ts.take k) W h (by omega) (by omega) (Nat.le_trans (sumLen_takes _ _) hsum))
      have CB := hid (fun (W : World) (h : TextsAt W (cutS a k cap) (len - k) (cap - k) (ts.drop k)) => ih (cutS a k cap) (len - k) (cap - k) (ts.drop k) W h (by omega) (by omega) (Nat.le_trans (sumLen_drop _ _) hsum))
      have HA := hid (Dg.rootL f (ts.take k))
      have HBb := hid (Dg.rootL f (ts.drop k))
      have HT1 := hid (hT.take k (by omega))
      have HT2 := hid (hT.drop k (by omega))
      generalize rootL f (ts.take k) = A1 at *
      generalize rootL f (ts.drop k) = B1 at *
      have CN := hid (fun (W : World) => refnode_any A1 B1 W HA.out HBb.out)
      have HX := hid (Dg.nodeL A1 B1)
      generalize nodeL A1 B1 = X at *
      have hc1 : ∀ W : World, (Instr.slice 58 (.slice a len cap) none (some (.int .i64 (k : Int))) none).run Tryd.prog W = .ok (.slice a k cap) W := fun W => run_cuts_h a len cap k W (by omega)
      have hc2 : ∀ W : World, (Instr.slice 58 (.slice a len cap) (some (.int .i64 (k : Int))) none none).run Tryd.prog W = .ok (.slice (cutS a k cap) (len - k) (cap - k)) W := fun W => run_cuts_l a len cap k W (by omega)
      generalize cutS a k cap = a2 at *
      clear hT hkk ih hsum
      have b1 := (Below.refl w.heap.size w).alloc (Nat.le_refl _) (.cells (byteCells 32 []) 23 (0, 0))
      have Kr := hid (Blk.new (w := w) (n := w.heap.size) rfl (byteCells 32 []) 23)
      have Hb := hid b1
      have hbz := b1.size
      have Hbs := hid (show w.heap.size + 1 = (w.alloc (.cells (byteCells 32 []) 23 (0, 0))).heap.size by simp only [World.size_alloc])
      clear b1 
      go_enter Tryd.func39, Tryd.ntmps39
      go_wp2_with (go_at_call 66; refine (CH.out _).mono ?_; rintro e w' ⟨rfl, rfl⟩)
      refine wp_region_flow 9 (List.range 9) [] [] (by kernel_rfl) (by kernel_rfl) ?_
      apply Exists.intro
      refine ⟨fun w0 hb0 hF0 => ?_, ?_⟩
      · skip
        have c0 := fun e : Ext w0 => CA.out e.at_ (((HT1.out.below Hb.out).below hb0).below e.same)
        have c1 := fun e : Ext w0 => CB.out e.at_ (((HT2.out.below Hb.out).below hb0).below e.same)
        have c2 := fun e : Ext w0 => CN.out e.at_
        simp only [pick, List.range, List.range.loop, List.getElem?_toArray, List.getElem?_cons_succ, List.getElem?_cons_zero, Option.toList_some, List.cons_append, List.nil_append]
        repeat (first | go_big_quiet_step (first | (go_at_call 39; with_reducible exact Calls.ext (c0 _)) | (go_at_call 39; with_reducible exact Calls.ext (c1 _)) | (go_at_call 18; with_reducible exact Calls.ext (c2 _))))
        exact wpQuiet_nil rfl
      refine AlChk.nil ?_
      refine Walk.fin fun w1 hw1 _ _ => ?_
      simp only [List.drop_succ_cons, List.drop_zero]
      have HBw1 := hid (Below.on Hb.out hw1)
      have hsw1 := HBw1.out.size
      have Krw1 := hid (Kr.out.below hw1)
      clear hw1
      go_wp2_with (
          refine wpList_store_blk rfl 23 _ _ rfl (w.heap.size) (X.map (Value.int .u8)).toArray rfl rfl _ 23 Krw1.out 32 size_digest zsize HX.out.size (ints_one _ _) ?_
          intro w9 hb9 hk9
          have HB9 := hid (hb9.below HBw1.out HBw1.out.size (by omega))
          have HK9 := hid hk9
          clear hb9 hk9)
      exact bodyPost_ret (v := .agg (X.map (Value.int .u8)).toArray) (results_blk Tryd.results39 _ (w.heap.size) rfl _ 23 HK9.out _ Tryd.underlying23 rfl 32 size_digest HX.out.size) rfl ⟨rfl, HB9.out⟩
end Go.Proofs.YthaicocfbmpnmaaDoor
