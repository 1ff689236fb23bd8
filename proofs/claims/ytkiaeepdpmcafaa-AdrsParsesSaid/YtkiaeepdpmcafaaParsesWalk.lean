/-
  The statement AdrsParses: the walk of its text.
-/
import Derived.Test.YtkiaeepdpmcafaaApartWalk
import Derived.Test.YtkiaeepdpmcafaaAdrsParse
import Derived.Test.YtkiaeepdpmcafaaRefSplit

namespace Go.Proofs.Ytkiaeepdpmcafaa
open Go.ChangeShapes Go.WideShapes Go.ChangeAt Go.RowKit

theorem be_back (bs : List Int) (hb : ∀ x ∈ bs, 0 ≤ x ∧ x < 256) : be bs.length (numOf bs) = bs := by
  have key : ∀ (k : Nat), k ≤ bs.length → be k (numOf (bs.take k)) = bs.take k := by
    intro k
    induction k with
    | zero => intro _; simp [be]
    | succ k ih =>
      intro hk
      have h2 := hb bs[k] (List.getElem_mem _)
      rw [take_next bs k (by omega), numOf_snoc, show bs.getD k 0 = bs[k] by simp [show k < bs.length by omega]]
      have e1 : (256 * numOf (bs.take k) + bs[k]) / 256 = numOf (bs.take k) := by omega
      have e2 : (256 * numOf (bs.take k) + bs[k]) % 256 = bs[k] := by omega
      rw [be, e1, e2, ih (by omega)]
  have := key bs.length (Nat.le_refl _)
  simpa using this

theorem wordBytes_cons (x : Int) (xs : List Int) : wordBytes (x :: xs) = be 4 x ++ wordBytes xs := by simp [wordBytes]
theorem wordBytes_drop (xs : List Int) : ∀ i, i ≤ xs.length → (wordBytes xs).drop (4 * i) = wordBytes (xs.drop i) := by
  induction xs with
  | nil => intro i h; simp at h; subst h; simp
  | cons x xs ih =>
    intro i h
    cases i with
    | zero => simp
    | succ i =>
      have h4 : (be 4 x).length = 4 := be_length 4 x
      rw [wordBytes_cons, show 4 * (i + 1) = (be 4 x).length + 4 * i by rw [h4]; omega, List.drop_append, List.drop_eq_nil_of_le (by omega), List.nil_append]
      simp only [Nat.add_sub_cancel_left, List.drop_succ_cons]
      exact ih i (by simp at h; omega)

theorem words_bytes (xs : List Int) (hl : xs.length = 8) (hb : ∀ x ∈ xs, 0 ≤ x ∧ x < 4294967296) : wordsTo (wordBytes xs) 8 = xs := by
  apply List.ext_getElem?
  intro j
  unfold wordsTo
  rw [List.getElem?_map]
  rcases Nat.lt_or_ge j 8 with hj | hj
  · rw [List.getElem?_range hj, Option.map_some, if_pos hj, wordBytes_drop xs j (by omega), List.drop_eq_getElem_cons (by omega)]
    rw [wordBytes_cons, List.take_left' (be_length 4 _), numOf_be, show (256 : Int) ^ 4 = 4294967296 by decide]
    have := hb xs[j] (List.getElem_mem _)
    rw [Int.emod_eq_of_lt this.1 this.2]
    simp [show j < xs.length by omega]
  · rw [List.getElem?_eq_none (by simp; omega), List.getElem?_eq_none (by omega)]
    rfl

theorem bytes_words (bs : List Int) (hl : bs.length = 32) (hb : ∀ x ∈ bs, 0 ≤ x ∧ x < 256) : wordBytes (wordsTo bs 8) = bs := by
  have key : ∀ k, k ≤ 8 → ((List.range k).flatMap fun i => be 4 (numOf ((bs.drop (4 * i)).take 4))) = bs.take (4 * k) := by
    intro k
    induction k with
    | zero => intro _; simp
    | succ k ih =>
      intro hk
      rw [List.range_succ, List.flatMap_append, ih (by omega), List.flatMap_singleton]
      have h4 : ((bs.drop (4 * k)).take 4).length = 4 := by simp; omega
      have := be_back ((bs.drop (4 * k)).take 4) (fun x hx => hb x (List.mem_of_mem_drop (List.mem_of_mem_take hx)))
      rw [h4] at this
      rw [this, show 4 * (k + 1) = 4 * k + 4 by omega, List.take_add]
  have h8 := key 8 (by omega)
  rw [List.take_of_length_le (by omega)] at h8
  unfold wordBytes wordsTo
  rw [List.flatMap_map]
  have e : ∀ l : List Nat, (∀ i ∈ l, i < 8) → (l.flatMap fun i => be 4 (if i < 8 then numOf ((bs.drop (4 * i)).take 4) else 0)) = l.flatMap fun i => be 4 (numOf ((bs.drop (4 * i)).take 4)) := by
    intro l
    induction l with
    | nil => intro _; rfl
    | cons i l ih =>
      intro h
      rw [List.flatMap_cons, List.flatMap_cons, ih (fun k hk => h k (by simp [hk])), if_pos (h i (by simp))]
  rw [e _ (fun i hi => by simpa using hi)]
  exact h8

/-- It makes this string, here and where all that is here stays. -/
def ConvT (S : ByteArray) (v : Value) (w : World) : Prop := ∀ w', Below w.heap.size w w' → (convert 56 9 v).run Try.prog w' = .ok (.string S) w'
theorem ConvT.below {S : ByteArray} {v : Value} {w w' : World} (h : ConvT S v w) (hb : Below w.heap.size w w') : ConvT S v w' := fun w'' hb' => h w'' (hb.trans (hb'.mono hb.size))

theorem parses_long (a0 : List Int) (a : Option Addr) (len cap : Nat) (bs : List Int) (w : World) (hT : TextAt w a len cap bs) (hl : 100 < len) :
    Calls Try.prog 8 #[ints .u32 a0, .slice a len cap] w fun e w' => e = .returned (.bool true) ∧ Below w.heap.size w w' := by
  have hmx := Nat.le_trans hT.le hT.max
  have h1 : decide ((100 : Int) < (len : Int)) = true := by simp; omega
  unfold ints
  generalize (List.map (Value.int IntKind.u32) a0).toArray = A
  have bel : Below w.heap.size w (w.alloc (Obj.cells A 49)) := by go_grown
  go_enter Try.func8, Try.ntmps8
  go_wp2_with (go_at_call 34; refine (knows04 _).mono ?_; rintro e w2 ⟨rfl, b2⟩)
  go_returns
  exact ⟨rfl, Below.on bel b2⟩

set_option maxHeartbeats 4000000 in
set_option maxRecDepth 100000 in
theorem parses_walk (xs : List Int) (hx : xs.length = 8) (hb : ∀ x ∈ xs, 0 ≤ x ∧ x < 4294967296) (a : Option Addr) (len cap : Nat) (bs : List Int) (w : World) (hT : TextAt w a len cap bs) (hl : len ≤ 100) :
    Calls Try.prog 8 #[ints .u32 xs, .slice a len cap] w fun e w' => e = .returned (.bool true) ∧ Below w.heap.size w w' := by
  have h1 : decide ((100 : Int) < (len : Int)) = false := by simp; omega
  have hab := fun w => adrs_bytes xs hx hb w
  have hwl : (wordBytes xs).length = 32 := by rw [wordBytes_length, hx]
  have hww := words_bytes xs hx hb
  have hsA : (List.map (Value.int IntKind.u32) xs).toArray.size = 8 := by simp [hx]
  have HsA := hid hsA
  have HT := hid hT
  have hz49 : (zeros IntKind.u32 8).size = 8 := by decide
  unfold ints at *
  have bel : Below w.heap.size w (w.alloc (Obj.cells (List.map (Value.int IntKind.u32) xs).toArray 49)) := by go_grown
  have kA : Blk (w.alloc (Obj.cells (List.map (Value.int IntKind.u32) xs).toArray 49)) w.heap.size (List.map (Value.int IntKind.u32) xs).toArray 49 := Blk.new rfl _ _
  go_enter Try.func8, Try.ntmps8
  go_wp2_with (refine wpList_load_blk rfl 49 _ rfl w.heap.size rfl _ 49 kA _ Try.underlying49 rfl 8 sizeAdrs HsA.out ?_)
  refine (hab _).mono ?_
  rintro e w1 ⟨g, c1, hc1, hc2, hg, rfl, b1, hR⟩
  have bel1 := Below.on bel b1
  have kA1 := kA.below b1
  have hT1 := TextAt.of_row hR hwl hc1 hc2 (wordBytes_small xs)
  have hpa := parse_any _ _ _ _ hT1
  rw [hww] at hpa
  clear hT hT1 hR bel b1 kA hab
  go_wp2_with fail
  refine hpa.mono ?_
  rintro e w2 ⟨rfl, b2⟩
  have kC : Blk (w2.alloc (Obj.cells #[.int .u32 0, .int .u32 0, .int .u32 0, .int .u32 0, .int .u32 0, .int .u32 0, .int .u32 0, .int .u32 0] 49)) w2.heap.size #[.int .u32 0, .int .u32 0, .int .u32 0, .int .u32 0, .int .u32 0, .int .u32 0, .int .u32 0, .int .u32 0] 49 := Blk.new rfl _ _
  have bel2 := Below.on bel1 b2
  have kA2 := (kA1.below b2).old (Obj.cells #[.int .u32 0, .int .u32 0, .int .u32 0, .int .u32 0, .int .u32 0, .int .u32 0, .int .u32 0, .int .u32 0] 49)
  have hnAC : w.heap.size ≠ w2.heap.size := by have := (kA1.below b2).lt; omega
  have hge2 := bel2.size
  have bel2 := bel2.alloc bel2.size (Obj.cells #[.int .u32 0, .int .u32 0, .int .u32 0, .int .u32 0, .int .u32 0, .int .u32 0, .int .u32 0, .int .u32 0] 49)
  clear hpa kA1 b2 bel1
  generalize hpC : w2.heap.size = pC at *
  unfold ints
  go_wp2_with (refine wpList_store_blk rfl 49 _ _ rfl pC (List.map (Value.int IntKind.u32) xs).toArray rfl rfl _ 49 kC 8 sizeAdrs rfl HsA.out (ints_one _ _) ?_; intro w3 hbut kC3)
  have kA3 := hbut.blk kA2 hnAC
  have bel3 := hbut.below bel2 bel2.size hge2
  have hT3 := HT.out.below bel3
  clear hpC kC kA2 bel2 hbut
  have hneq := fun w => run_neq_ints (P := Try.prog) (t := 49) (e := 46) Try.underlying49 Try.underlying46 rfl (by kernel_rfl) xs xs hx hx w
  simp only [ints, decide_true, Bool.not_true] at hneq
  by_cases h32 : len = 32
  · subst h32
    have hpb := parse_any _ _ _ _ hT3
    have hdl := wordsTo_length bs 8
    have hdb : ∀ x ∈ wordsTo bs 8, 0 ≤ x ∧ x < 4294967296 := fun x hx => by
      unfold wordsTo at hx
      rw [List.mem_map] at hx
      obtain ⟨i, hi, rfl⟩ := hx
      rw [if_pos (by simpa using hi)]
      exact numOf_four bs HT.out.small _
    have hback := bytes_words bs HT.out.length HT.out.small
    have hrp := fun (w : World) (h : TextAt w a 32 cap bs) => refparse_any a cap bs w h
    generalize wordsTo bs 8 = ds at *
    have hsD : (List.map (Value.int IntKind.u32) ds).toArray.size = 8 := by simp [hdl]
    have HsD := hid hsD
    have heq := fun w => run_eql_ints (P := Try.prog) (t := 49) (e := 46) Try.underlying49 Try.underlying46 rfl (by kernel_rfl) ds ds hdl hdl w
    simp only [ints, decide_true] at heq
    have hab2 := fun w => adrs_bytes ds hdl hdb w
    have Hback := hid hback
    have Hdl := hid hdl
    have ioD := hid (ints_one .u32 ds)
    unfold ints at hab2 hrp hpb
    clear hsA hsD hback hT3 hdb hdl
    generalize (List.map (Value.int IntKind.u32) xs).toArray = X at *
    generalize (List.map (Value.int IntKind.u32) ds).toArray = D at *
    refine hpb.mono ?_
    rintro e w4 ⟨rfl, b4⟩
    have kA4 := kA3.below b4
    have kC4 := kC3.below b4
    have bel4 := Below.on bel3 b4
    clear kA3 kC3 bel3 b4 hpb
    have kA5 := kA4.old (Obj.cells #[.int .u32 0, .int .u32 0, .int .u32 0, .int .u32 0, .int .u32 0, .int .u32 0, .int .u32 0, .int .u32 0] 49)
    have kC5 := kC4.old (Obj.cells #[.int .u32 0, .int .u32 0, .int .u32 0, .int .u32 0, .int .u32 0, .int .u32 0, .int .u32 0, .int .u32 0] 49)
    have kD5 : Blk (w4.alloc (Obj.cells #[.int .u32 0, .int .u32 0, .int .u32 0, .int .u32 0, .int .u32 0, .int .u32 0, .int .u32 0, .int .u32 0] 49)) w4.heap.size #[.int .u32 0, .int .u32 0, .int .u32 0, .int .u32 0, .int .u32 0, .int .u32 0, .int .u32 0, .int .u32 0] 49 := Blk.new rfl _ _
    have hnA := kA4.lt
    have hnC := kC4.lt
    have hge4 := bel4.size
    have bel5 := bel4.alloc bel4.size (Obj.cells #[.int .u32 0, .int .u32 0, .int .u32 0, .int .u32 0, .int .u32 0, .int .u32 0, .int .u32 0, .int .u32 0] 49)
    clear kA4 kC4 bel4
    generalize hpD : w4.heap.size = pD at *
    have nA : w.heap.size ≠ pD := by omega
    have nC : pC ≠ pD := by omega
    go_wp2_with (first | (refine wpList_store_blk rfl 49 _ _ rfl pD D rfl rfl _ 49 kD5 8 sizeAdrs rfl HsD.out ioD.out ?_; intro w6 hbut6 kD6) | (refine wpList_load_blk rfl 49 _ rfl w.heap.size rfl _ 49 (hbut6.blk kA5 nA) _ Try.underlying49 rfl 8 sizeAdrs HsA.out ?_) | (refine wpList_load_blk rfl 49 _ rfl pC rfl _ 49 (hbut6.blk kC5 nC) _ Try.underlying49 rfl 8 sizeAdrs HsA.out ?_))
    have bel6 := hbut6.below bel5 bel5.size hge4
    clear kA5 kC5 kD5 bel5 hbut6 hpD
    refine wp_region_flow 19 [0, 1, 2, 3, 4, 5, 6, 7, 8, 9, 12, 13] [] [(.c 10, [11, 14, 15, 16, 17, 18], [])] (by kernel_rfl) (by kernel_rfl) ?_
    apply Exists.intro
    refine ⟨fun w7 b7 _ => ?_, ?_⟩
    · have h1 := conv_ext ((HT.out.below bel6).below b7)
      have xD : ∀ w', (∃ x : Ext w7, w' = x.at_) → ∃ T, Blk w' pD D T := fun w' ⟨x, hx⟩ => ⟨49, hx ▸ (kD6.below b7).below x.same⟩
      have h2 := fun x : Ext w7 => hrp x.at_ ((HT.out.below bel6).below (Below.on b7 x.same))
      simp only [pick, List.getElem?_toArray, List.getElem?_cons_succ, List.getElem?_cons_zero, Option.toList_some, List.cons_append, List.nil_append]
      repeat (first | (go_big_quiet_want; refine quiet_load_blk 49 _ rfl pD rfl D xD _ Try.underlying49 rfl 8 sizeAdrs HsD.out ?_; go_big_quiet_on; simp only [Act.put, List.setIfInBounds_toArray, List.set_cons_zero, List.set_cons_succ]) | go_big_quiet_step (first | (go_at_call 36; exact Calls.ext (h2 _))))
      exact wpQuiet_nil rfl
    refine AlChk.nil ?_
    refine Walk.call rfl 32 #[.agg D] (ConvT (strOfNums bs)) (fun v w' w'' h k => h.below k) rfl (fun w8 b8 hF8 => ⟨by go_simp, ?_⟩) ?_
    · refine (hab2 w8).mono ?_
      rintro e w9 ⟨g9, c9, hc91, hc92, _, rfl, b9, hR9⟩
      refine ⟨_, rfl, b9, fun w10 b10 => ?_⟩
      have hT9 := TextAt.of_row hR9 (by rw [wordBytes_length, Hdl.out]) hc91 hc92 (wordBytes_small ds)
      rw [Hback.out] at hT9
      exact (hT9.below b10).string Try.underlying56 Try.underlying5 Try.underlying9
    intro v w8 b8 hF8 _
    apply Exists.intro
    refine ⟨fun w9 b9 hF9 => ?_, ?_⟩
    · have h3 : ∀ x : Ext w9, (convert 56 9 v).run Try.prog x.at_ = .ok (.string (strOfNums bs)) x.at_ := fun x => hF9.2 _ x.same
      simp only [pick, List.getElem?_toArray, List.getElem?_cons_succ, List.getElem?_cons_zero, Option.toList_some, List.cons_append, List.nil_append, Act.put, List.setIfInBounds_toArray, List.set_cons_zero, List.set_cons_succ]
      repeat (go_big_quiet_step (first | (go_at_call 34; exact Calls.ext (knows04 _))))
      exact wpQuiet_nil rfl
    refine AlChk.nil ?_
    refine Walk.fin fun w9 hb9 _ _ => ?_
    simp only [List.drop_succ_cons, List.drop_zero]
    go_wp2_with fail
    go_returns
    exact ⟨rfl, Below.on bel6 hb9⟩
  · have hpn := parse_not a len cap w3 h32
    have t1 : ((len : Int) != 32) = true := by simp; omega
    refine hpn.mono ?_
    rintro e w4 ⟨rfl, b4⟩
    have kA4 := kA3.below b4
    have kC4 := kC3.below b4
    have bel4 := Below.on bel3 b4
    have heq := fun w => run_eql_ints (P := Try.prog) (t := 49) (e := 46) Try.underlying49 Try.underlying46 rfl (by kernel_rfl) [0, 0, 0, 0, 0, 0, 0, 0] [0, 0, 0, 0, 0, 0, 0, 0] rfl rfl w
    simp only [ints, decide_true, List.map_cons, List.map_nil] at heq
    simp only [ints, List.map_cons, List.map_nil]
    clear kA3 kC3 bel3 b4 hpn hT3
    generalize (List.map (Value.int IntKind.u32) xs).toArray = X at *
    have kA5 := kA4.old (Obj.cells #[.int .u32 0, .int .u32 0, .int .u32 0, .int .u32 0, .int .u32 0, .int .u32 0, .int .u32 0, .int .u32 0] 49)
    have kC5 := kC4.old (Obj.cells #[.int .u32 0, .int .u32 0, .int .u32 0, .int .u32 0, .int .u32 0, .int .u32 0, .int .u32 0, .int .u32 0] 49)
    have kD5 : Blk (w4.alloc (Obj.cells #[.int .u32 0, .int .u32 0, .int .u32 0, .int .u32 0, .int .u32 0, .int .u32 0, .int .u32 0, .int .u32 0] 49)) w4.heap.size #[.int .u32 0, .int .u32 0, .int .u32 0, .int .u32 0, .int .u32 0, .int .u32 0, .int .u32 0, .int .u32 0] 49 := Blk.new rfl _ _
    have hnA := kA4.lt
    have hnC := kC4.lt
    have hge4 := bel4.size
    have bel5 := bel4.alloc bel4.size (Obj.cells #[.int .u32 0, .int .u32 0, .int .u32 0, .int .u32 0, .int .u32 0, .int .u32 0, .int .u32 0, .int .u32 0] 49)
    clear kA4 kC4 bel4
    go_wp2_with (first | (refine wpList_load_blk rfl 49 _ rfl w.heap.size rfl _ 49 kA5 _ Try.underlying49 rfl 8 sizeAdrs HsA.out ?_) | (refine wpList_load_blk rfl 49 _ rfl pC rfl _ 49 kC5 _ Try.underlying49 rfl 8 sizeAdrs HsA.out ?_) | (refine wpList_load_blk rfl 49 _ rfl w4.heap.size rfl _ 49 kD5 _ Try.underlying49 rfl 8 sizeAdrs rfl ?_) | (go_at_call 34; refine (knows04 _).mono ?_; rintro e w7 ⟨rfl, b7⟩))
    go_returns
    exact ⟨rfl, Below.on bel5 b7⟩
end Go.Proofs.Ytkiaeepdpmcafaa
