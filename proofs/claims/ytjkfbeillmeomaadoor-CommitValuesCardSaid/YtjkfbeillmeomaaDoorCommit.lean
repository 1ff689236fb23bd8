/-
  Contracts of commit and of its reference.
-/
import Derived.Test.YtjkfbeillmeomaaDoorNMacRef
import Derived.Test.YtjkfbeillmeomaaDoorTwo
namespace Go.Proofs.YtjkfbeillmeomaaDoor
open Go.ChangeShapes Go.WideShapes Go.ChangeAt Go.RowKit

@[irreducible] def idxZ (nonce : List Int) (v : Int) (name : List Int) : List Int := sumZ ([1] ++ (nonce ++ (be 8 v ++ name)))
@[irreducible] def nonceZ (key : List Int) (v : Int) (name : List Int) : List Int := macZ key ([1] ++ (be 8 v ++ name))
@[irreducible] def madeZ (salt value : List Int) : List Int := sumZ ([2] ++ (salt ++ value))
@[irreducible] def saltZ (key index value : List Int) : List Int := macZ key ([2] ++ (index ++ value))
theorem Dg.idx (a : List Int) (v : Int) (b : List Int) : Dg (idxZ a v b) := by unfold idxZ; exact Dg.sum _
theorem Dg.nonce (a : List Int) (v : Int) (b : List Int) : Dg (nonceZ a v b) := by unfold nonceZ; exact ⟨macZ_length _ _, macZ_small _ _⟩
theorem Dg.made (a b : List Int) : Dg (madeZ a b) := by unfold madeZ; exact Dg.sum _
theorem Dg.salt (a b c : List Int) : Dg (saltZ a b c) := by unfold saltZ; exact ⟨macZ_length _ _, macZ_small _ _⟩

theorem isName_t (a : Option Addr) (n c : Nat) (h1 : 1 ≤ n) (h2 : n ≤ 64) (w : World) : Calls Tryd.prog 109 #[.slice a n c] w fun e w' => e = .returned (.bool true) ∧ w = w' := by
  have q1 : (1 : Int) ≤ n := by omega
  have q2 : (n : Int) ≤ 64 := by omega
  go_enter Tryd.func109, Tryd.ntmps109
  go_wp2
  go_ret
  exact ⟨rfl, rfl⟩
theorem isName_f (a : Option Addr) (n c : Nat) (h : n = 0 ∨ 64 < n) (w : World) : Calls Tryd.prog 109 #[.slice a n c] w fun e w' => e = .returned (.bool false) ∧ w = w' := by
  rcases h with rfl | h
  · go_enter Tryd.func109, Tryd.ntmps109
    go_wp2
    go_ret
    exact ⟨rfl, rfl⟩
  · have q1 : (1 : Int) ≤ n := by omega
    have q2 : ¬ (n : Int) ≤ 64 := by omega
    go_enter Tryd.func109, Tryd.ntmps109
    go_wp2
    go_ret
    exact ⟨rfl, rfl⟩
theorem isValue_t (a : Option Addr) (n c : Nat) (h2 : n ≤ 64) (w : World) : Calls Tryd.prog 117 #[.slice a n c] w fun e w' => e = .returned (.bool true) ∧ w = w' := by
  have q2 : (n : Int) ≤ 64 := by omega
  go_enter Tryd.func117, Tryd.ntmps117
  go_wp2
  go_ret
  exact ⟨rfl, rfl⟩
theorem isValue_f (a : Option Addr) (n c : Nat) (h2 : 64 < n) (w : World) : Calls Tryd.prog 117 #[.slice a n c] w fun e w' => e = .returned (.bool false) ∧ w = w' := by
  have q2 : ¬ (n : Int) ≤ 64 := by omega
  go_enter Tryd.func117, Tryd.ntmps117
  go_wp2
  go_ret
  exact ⟨rfl, rfl⟩
theorem may_t (a : Option Addr) (n c : Nat) (v : Int) (h1 : 1 ≤ n) (h2 : n ≤ 64) (h3 : 1 ≤ v) (w : World) : Calls Tryd.prog 57 #[.slice a n c, .int .i64 v] w fun e w' => e = .returned (.bool true) ∧ w = w' := by
  have q1 : (1 : Int) ≤ n := by omega
  have q2 : (n : Int) ≤ 64 := by omega
  go_enter Tryd.func57, Tryd.ntmps57
  go_wp2
  go_ret
  exact ⟨rfl, rfl⟩
theorem may_f (a : Option Addr) (n c : Nat) (v : Int) (h : (n = 0 ∨ 64 < n) ∨ v < 1) (w : World) : Calls Tryd.prog 57 #[.slice a n c, .int .i64 v] w fun e w' => e = .returned (.bool false) ∧ w = w' := by
  rcases (show n = 0 ∨ 64 < n ∨ (1 ≤ n ∧ n ≤ 64 ∧ v < 1) by omega) with rfl | h | ⟨h1, h2, h3⟩
  · clear h
    go_enter Tryd.func57, Tryd.ntmps57
    go_wp2
    go_ret
    exact ⟨rfl, rfl⟩
  · have q1 : (1 : Int) ≤ n := by omega
    have q2 : ¬ (n : Int) ≤ 64 := by omega
    go_enter Tryd.func57, Tryd.ntmps57
    go_wp2
    go_ret
    exact ⟨rfl, rfl⟩
  · have q1 : (1 : Int) ≤ n := by omega
    have q2 : (n : Int) ≤ 64 := by omega
    have q3 : ¬ 1 ≤ v := by omega
    go_enter Tryd.func57, Tryd.ntmps57
    go_wp2
    go_ret
    exact ⟨rfl, rfl⟩
/-- what 'bytesOf' hands back -/
def NumAt (n : Int) (v : Value) (w : World) : Prop := ∃ g, v = .slice (some ⟨g, 0, none⟩) 8 8 ∧ Blk w g ((be 8 n).map (Value.int .u8)).toArray 5
theorem NumAt.below {n : Int} {v : Value} {w w' : World} (h : NumAt n v w) (hb : Below w.heap.size w w') : NumAt n v w' := by
  obtain ⟨g, h1, h2⟩ := h
  exact ⟨g, h1, h2.below hb⟩
theorem NumAt.text {n : Int} {g : Nat} {w : World} (h : NumAt n (.slice (some ⟨g, 0, none⟩) 8 8) w) : TextAt w (some ⟨g, 0, none⟩) 8 8 (be 8 n) := by
  obtain ⟨g', h1, h2⟩ := h
  injection h1 with h1
  injection h1 with h1
  injection h1 with h1
  subst h1
  exact TextAt.of_ints h2 (be_length 8 n) (by omega) (be_small 8 n)
theorem bytesOf_any (n : Int) (w : World) (h0 : 0 ≤ n) (h1 : n < 9223372036854775808) :
    Calls Tryd.prog 111 #[.int .i64 n] w fun e w' => ∃ v, e = .returned v ∧ Below w.heap.size w w' ∧ NumAt n v w' := by
  go_enter Tryd.func111, Tryd.ntmps111
  go_wp2_with fail
  refine (number_any n 8 8 _ h0 (by omega) (by decide)).mono ?_
  rintro e w1 ⟨g, hg, rfl, b1, k1⟩
  have H := hid (And.intro b1 k1)
  clear b1 k1
  go_wp2_with fail
  go_ret
  exact ⟨_, rfl, H.out.1, g, rfl, H.out.2⟩

set_option maxHeartbeats 4000000 in
set_option maxRecDepth 100000 in
theorem cfrom_good (nonce name : List Int) (v : Int) (a : Option Addr) (n c : Nat) (w : World) (hN : Dg nonce) (hT : TextAt w a n c name) (hn : 1 ≤ n ∧ n ≤ 64) (hv0 : 1 ≤ v) (hv1 : v < 9223372036854775808) (tab : ShaTab w) :
    Calls Tryd.prog 60 #[(.agg (nonce.map (Value.int .u8)).toArray), .slice a n c, .int .i64 v] w fun e w' => e = .returned (.tuple #[(.agg ((idxZ nonce v name).map (Value.int .u8)).toArray), .int .i64 0]) ∧ Below w.heap.size w w' := by
  have HM : Hid (idxZ nonce v name = sumZ ([1] ++ (nonce ++ (be 8 v ++ name)))) := hid (by unfold idxZ; rfl)
  have HD := hid (Dg.idx nonce v name)
  have Hml := hid hT.length
  have hle := hT.le
  have hmx := hT.max
  have hvn : ¬ (v < 1) := by omega
  have b1 := (Below.refl w.heap.size w).alloc (Nat.le_refl _) (.cells (nonce.map (Value.int .u8)).toArray 23 (0, 0))
  have b2 := b1.alloc b1.size (.cells (byteCells 32 []) 23 (0, 0))
  have K0 := hid ((Blk.new (w := w) (n := w.heap.size) rfl (nonce.map (Value.int .u8)).toArray 23).old (.cells (byteCells 32 []) 23 (0, 0)))
  have Kr0 := hid (Blk.new (w := (w.alloc (.cells (nonce.map (Value.int .u8)).toArray 23 (0, 0)))) (n := w.heap.size + 1) (by simp only [World.size_alloc]) (byteCells 32 []) 23)
  have Hb := hid b2
  have HzA := hid zsize
  have hbz := b2.size
  have Hbs := hid (show w.heap.size + 1 + 1 = ((w.alloc (.cells (nonce.map (Value.int .u8)).toArray 23 (0, 0))).alloc (.cells (byteCells 32 []) 23 (0, 0))).heap.size by simp only [World.size_alloc])
  have Kt := hid (hT.below b2)
  have Htab := hid tab
  clear b1 b2 tab hT
  go_enter Tryd.func60, Tryd.ntmps60
  go_wp2_with fail
  refine (isName_t a n c hn.1 hn.2 _).mono ?_
  rintro e w1 ⟨rfl, rfl⟩
  go_wp2_with fail
  refine wp_region_flow 7 [1, 2, 4] [0] [(.c 3, [], []), (.b 0, [], [5]), (.b 5, [6], [])] (by kernel_rfl) (by kernel_rfl) ?_
  apply Exists.intro
  refine ⟨fun w0 hb0 hF0 => ?_, ?_⟩
  · simp only [pick, List.getElem?_toArray, List.getElem?_cons_succ, List.getElem?_cons_zero, Option.toList_some, List.cons_append, List.nil_append]
    repeat (go_big_quiet_step (fail))
    exact wpQuiet_nil rfl
  refine AlChk.one rfl (fun b => .slice (some ⟨b, 0, none⟩) 1 1) (.cells #[.int .u8 1] 5 (0, 0)) rfl (fun w2 hb2 hF2 => by go_simp) ?_
  refine AlChk.nil ?_
  refine Walk.call rfl 111 #[.int .i64 v] (NumAt v) (fun v w' w'' h k => h.below k) rfl (fun w1 hb1 hF1 => ⟨by go_simp, bytesOf_any v w1 (by omega) (by omega)⟩) ?_
  rintro vn w1 hb1 hF1 ⟨gn, rfl, _⟩
  apply Exists.intro
  refine ⟨fun w2 hb2 hF2 => wpQuiet_nil rfl, ?_⟩
  refine AlChk.nil ?_
  refine Walk.blk rfl (fun b => .slice (some ⟨b, 0, none⟩) 1 1) (.cells #[.int .u8 1] 5 (0, 0)) (by simp) ?_
  intro b1 w2 hb2 hF2 hge1 _
  apply Exists.intro
  refine ⟨fun w2 hb2 hF2 => wpQuiet_nil rfl, ?_⟩
  refine AlChk.one rfl (fun b => .slice (some ⟨b, 0, none⟩) 4 4) (.cells #[.slice (some ⟨b1, 0, none⟩) 1 1, .slice (some ⟨w.heap.size, 0, none⟩) 32 32, .slice (some ⟨gn, 0, none⟩) 8 8, .slice a n c] 81 (0, 0)) rfl (fun w2 hb2 hF2 => by go_simp) ?_
  refine AlChk.nil ?_
  refine Walk.blk rfl (fun b => .slice (some ⟨b, 0, none⟩) 4 4) (.cells #[.slice (some ⟨b1, 0, none⟩) 1 1, .slice (some ⟨w.heap.size, 0, none⟩) 32 32, .slice (some ⟨gn, 0, none⟩) 8 8, .slice a n c] 81 (0, 0)) (by simp) ?_
  intro b9 w2 hb2 hF2 hge9 _
  apply Exists.intro
  refine ⟨fun w3 hb3 hF3 => ?_, ?_⟩
  · have k9 : Blk w3 b9 #[.slice (some ⟨b1, 0, none⟩) 1 1, .slice (some ⟨w.heap.size, 0, none⟩) 32 32, .slice (some ⟨gn, 0, none⟩) 8 8, .slice a n c] 81 := hF3.2
    have k1 : Blk w3 b1 (([1] : List Int).map (Value.int .u8)).toArray 5 := hF3.1.2
    have hW := hF3.1.1.2
    have hs := fun e : Ext w3 => sum_any (some ⟨b9, 0, none⟩) 4 4 [[1], nonce, be 8 v, name] e.at_ (TextsAt.of_blk (k9.below e.same) rfl (Nat.le_refl _) (by omega) fun j hj => by
      match j, hj with
      | 0, _ => exact ⟨_, _, _, rfl, TextAt.of_ints (k1.below e.same) rfl (by omega) (by simp)⟩
      | 1, _ => exact ⟨_, _, _, rfl, hN.text ((K0.out.below hb3).below e.same)⟩
      | 2, _ => exact ⟨_, _, _, rfl, (hW.below e.same).text⟩
      | 3, _ => exact ⟨_, _, _, rfl, (Kt.out.below hb3).below e.same⟩) (by simp only [sumLen, List.map_cons, List.map_nil, List.sum_cons, List.sum_nil, be_length, hN.len, Hml.out, List.length_cons, List.length_nil]; omega) ((Htab.out.below (Below.on Hb.out hb3)).below e.same)
    rw [show ([[1], nonce, be 8 v, name] : List (List Int)).flatten = [1] ++ (nonce ++ (be 8 v ++ name)) by simp, ← HM.out] at hs
    simp only [pick, List.getElem?_toArray, List.getElem?_cons_succ, List.getElem?_cons_zero, Option.toList_some, List.cons_append, List.nil_append, Act.put, List.setIfInBounds_toArray, List.set_cons_zero, List.set_cons_succ]
    repeat (go_big_quiet_step (first | (go_at_call 115; exact Calls.ext (hs _))))
    exact wpQuiet_nil rfl
  refine AlChk.nil ?_
  refine Walk.fin fun w4 h4 _ _ => ?_
  simp only [List.drop_succ_cons, List.drop_zero]
  have HBw4 := hid (Below.on Hb.out h4)
  have hsw4 := HBw4.out.size
  have K0w4 := hid (K0.out.below h4)
  have Kr0w4 := hid (Kr0.out.below h4)
  have Ktw4 := hid (Kt.out.below h4)
  clear h4
  go_wp2_with (refine wpList_store_blk rfl 23 _ _ rfl (w.heap.size + 1) _ rfl rfl _ 23 Kr0w4.out 32 size_digest HzA.out HD.out.size (ints_one _ _) ?_; intro w7 hbut7 hk7)
  exact bodyPost_ret (v := .tuple #[(.agg ((idxZ nonce v name).map (Value.int .u8)).toArray), .int .i64 0]) (results_blk_tmp Tryd.results60 _ (w.heap.size + 1) rfl _ rfl _ 23 hk7 _ Tryd.underlying23 rfl 32 size_digest HD.out.size) rfl ⟨rfl, hbut7.below HBw4.out HBw4.out.size (by omega)⟩

set_option maxHeartbeats 4000000 in
set_option maxRecDepth 100000 in
theorem cfrom_bad (nonce : List Int) (v : Int) (a : Option Addr) (n c : Nat) (w : World) (_hN : Dg nonce) (hbad : (n = 0 ∨ 64 < n) ∨ v < 1) :
    Calls Tryd.prog 60 #[(.agg (nonce.map (Value.int .u8)).toArray), .slice a n c, .int .i64 v] w fun e w' => e = .returned (.tuple #[(.agg (zD.map (Value.int .u8)).toArray), .int .i64 1]) ∧ Below w.heap.size w w' := by
  have Hz32 := hid Dg.zero.size
  have H1 := hid (ints_one .u8 zD)
  have b1 := (Below.refl w.heap.size w).alloc (Nat.le_refl _) (.cells (nonce.map (Value.int .u8)).toArray 23 (0, 0))
  have b2 := b1.alloc b1.size (.cells (byteCells 32 []) 23 (0, 0))
  have K0 := hid ((Blk.new (w := w) (n := w.heap.size) rfl (nonce.map (Value.int .u8)).toArray 23).old (.cells (byteCells 32 []) 23 (0, 0)))
  have Kr0 := hid (Blk.new (w := (w.alloc (.cells (nonce.map (Value.int .u8)).toArray 23 (0, 0)))) (n := w.heap.size + 1) (by simp only [World.size_alloc]) (byteCells 32 []) 23)
  have Hb := hid b2
  have HzA := hid zsize
  have hbz := b2.size
  have Hbs := hid (show w.heap.size + 1 + 1 = ((w.alloc (.cells (nonce.map (Value.int .u8)).toArray 23 (0, 0))).alloc (.cells (byteCells 32 []) 23 (0, 0))).heap.size by simp only [World.size_alloc])
  clear b1 b2
  go_enter Tryd.func60, Tryd.ntmps60
  go_wp2_with fail
  rcases (show (n = 0 ∨ 64 < n) ∨ ((1 ≤ n ∧ n ≤ 64) ∧ v < 1) by omega) with h | ⟨⟨h1, h2⟩, h3⟩
  · clear hbad
    refine (isName_f a n c h _).mono ?_
    rintro e w1 ⟨rfl, rfl⟩
    go_wp2_with (refine wpList_store_blk rfl 23 _ _ rfl (w.heap.size + 1) (zD.map (Value.int .u8)).toArray rfl rfl _ 23 Kr0.out 32 size_digest HzA.out Hz32.out H1.out ?_; intro w7 hbut7 hk7)
    exact bodyPost_ret (v := .tuple #[(.agg (zD.map (Value.int .u8)).toArray), .int .i64 1]) (results_blk_tmp Tryd.results60 _ (w.heap.size + 1) rfl _ rfl _ 23 hk7 _ Tryd.underlying23 rfl 32 size_digest Hz32.out) rfl ⟨rfl, hbut7.below Hb.out Hb.out.size (by omega)⟩
  · refine (isName_t a n c h1 h2 _).mono ?_
    rintro e w1 ⟨rfl, rfl⟩
    go_wp2_with (refine wpList_store_blk rfl 23 _ _ rfl (w.heap.size + 1) (zD.map (Value.int .u8)).toArray rfl rfl _ 23 Kr0.out 32 size_digest HzA.out Hz32.out H1.out ?_; intro w7 hbut7 hk7)
    exact bodyPost_ret (v := .tuple #[(.agg (zD.map (Value.int .u8)).toArray), .int .i64 1]) (results_blk_tmp Tryd.results60 _ (w.heap.size + 1) rfl _ rfl _ 23 hk7 _ Tryd.underlying23 rfl 32 size_digest Hz32.out) rfl ⟨rfl, hbut7.below Hb.out Hb.out.size (by omega)⟩

set_option maxHeartbeats 4000000 in
set_option maxRecDepth 100000 in
theorem cindex_good (key name : List Int) (v : Int) (a : Option Addr) (n c : Nat) (w : World) (hK : Dg key) (hT : TextAt w a n c name) (hn : 1 ≤ n ∧ n ≤ 64) (hv0 : 1 ≤ v) (hv1 : v < 9223372036854775808) (tab : ShaTab w) :
    Calls Tryd.prog 56 #[(.agg (key.map (Value.int .u8)).toArray), .slice a n c, .int .i64 v] w fun e w' => e = .returned (.tuple #[(.agg ((idxZ (nonceZ key v name) v name).map (Value.int .u8)).toArray), (.agg ((nonceZ key v name).map (Value.int .u8)).toArray), .int .i64 0]) ∧ Below w.heap.size w w' := by
  have HM : Hid (nonceZ key v name = macZ key ([1] ++ (be 8 v ++ name))) := hid (by unfold nonceZ; rfl)
  have HDn := hid (Dg.nonce key v name)
  have HDi := hid (Dg.idx (nonceZ key v name) v name)
  have Hml := hid hT.length
  have HT0 := hid hT
  have hle := hT.le
  have hmx := hT.max
  have hvn : ¬ (v < 1) := by omega
  have b1 := (Below.refl w.heap.size w).alloc (Nat.le_refl _) (.cells (key.map (Value.int .u8)).toArray 23 (0, 0))
  have b2 := b1.alloc b1.size (.cells (byteCells 32 []) 23 (0, 0))
  have b3 := b2.alloc b2.size (.cells (byteCells 32 []) 23 (0, 0))
  have K0 := hid (((Blk.new (w := w) (n := w.heap.size) rfl (key.map (Value.int .u8)).toArray 23).old (.cells (byteCells 32 []) 23 (0, 0))).old (.cells (byteCells 32 []) 23 (0, 0)))
  have Kr0 := hid ((Blk.new (w := (w.alloc (.cells (key.map (Value.int .u8)).toArray 23 (0, 0)))) (n := w.heap.size + 1) (by simp only [World.size_alloc]) (byteCells 32 []) 23).old (.cells (byteCells 32 []) 23 (0, 0)))
  have Kr1 := hid (Blk.new (w := ((w.alloc (.cells (key.map (Value.int .u8)).toArray 23 (0, 0))).alloc (.cells (byteCells 32 []) 23 (0, 0)))) (n := w.heap.size + 1 + 1) (by simp only [World.size_alloc]) (byteCells 32 []) 23)
  have Hb := hid b3
  have HzA := hid zsize
  have hbz := b3.size
  have Hbs := hid (show w.heap.size + 1 + 1 + 1 = (((w.alloc (.cells (key.map (Value.int .u8)).toArray 23 (0, 0))).alloc (.cells (byteCells 32 []) 23 (0, 0))).alloc (.cells (byteCells 32 []) 23 (0, 0))).heap.size by simp only [World.size_alloc])
  have Kt := hid (hT.below b3)
  have Htab := hid tab
  clear b1 b2 b3 tab hT
  go_enter Tryd.func56, Tryd.ntmps56
  go_wp2_with fail
  refine (isName_t a n c hn.1 hn.2 _).mono ?_
  rintro e w1 ⟨rfl, rfl⟩
  go_wp2_with fail
  refine wp_region_flow 8 [0, 2, 4] [1, 7] [(.c 3, [], []), (.b 1, [], [5]), (.b 5, [6], []), (.b 7, [], [])] (by kernel_rfl) (by kernel_rfl) ?_
  apply Exists.intro
  refine ⟨fun w0 hb0 hF0 => ?_, ?_⟩
  · simp only [pick, List.getElem?_toArray, List.getElem?_cons_succ, List.getElem?_cons_zero, Option.toList_some, List.cons_append, List.nil_append]
    repeat (go_big_quiet_step (fail))
    exact wpQuiet_nil rfl
  refine AlChk.one rfl (fun b => .slice (some ⟨b, 0, none⟩) 1 1) (.cells #[.int .u8 1] 5 (0, 0)) rfl (fun w2 hb2 hF2 => by go_simp) ?_
  refine AlChk.one rfl (fun b => .pointer (some ⟨b, 0, none⟩)) (.cells (byteCells 32 []) 23 (0, 0)) rfl (fun w3 hb3 hF3 => by go_simp; rfl) ?_
  refine AlChk.nil ?_
  refine Walk.call rfl 111 #[.int .i64 v] (NumAt v) (fun v w' w'' h k => h.below k) rfl (fun w1 hb1 hF1 => ⟨by go_simp, bytesOf_any v w1 (by omega) (by omega)⟩) ?_
  rintro vn w1 hb1 hF1 ⟨gn, rfl, _⟩
  apply Exists.intro
  refine ⟨fun w2 hb2 hF2 => wpQuiet_nil rfl, ?_⟩
  refine AlChk.nil ?_
  refine Walk.blk rfl (fun b => .slice (some ⟨b, 0, none⟩) 1 1) (.cells #[.int .u8 1] 5 (0, 0)) (by simp) ?_
  intro b1 w2 hb2 hF2 hge1 _
  apply Exists.intro
  refine ⟨fun w2 hb2 hF2 => wpQuiet_nil rfl, ?_⟩
  refine AlChk.one rfl (fun b => .slice (some ⟨b, 0, none⟩) 3 3) (.cells #[.slice (some ⟨b1, 0, none⟩) 1 1, .slice (some ⟨gn, 0, none⟩) 8 8, .slice a n c] 81 (0, 0)) rfl (fun w2 hb2 hF2 => by go_simp) ?_
  refine AlChk.nil ?_
  refine Walk.blk rfl (fun b => .slice (some ⟨b, 0, none⟩) 3 3) (.cells #[.slice (some ⟨b1, 0, none⟩) 1 1, .slice (some ⟨gn, 0, none⟩) 8 8, .slice a n c] 81 (0, 0)) (by simp) ?_
  intro b9 w2 hb2 hF2 hge9 _
  apply Exists.intro
  refine ⟨fun w3 hb3 hF3 => ?_, ?_⟩
  · have k9 : Blk w3 b9 #[.slice (some ⟨b1, 0, none⟩) 1 1, .slice (some ⟨gn, 0, none⟩) 8 8, .slice a n c] 81 := hF3.2
    have k1 : Blk w3 b1 (([1] : List Int).map (Value.int .u8)).toArray 5 := hF3.1.2
    have hW := hF3.1.1.2
    have hs := fun e : Ext w3 => code_any _ 32 32 key (some ⟨b9, 0, none⟩) 3 3 [[1], be 8 v, name] e.at_ (hK.text ((K0.out.below hb3).below e.same)) (TextsAt.of_blk (k9.below e.same) rfl (Nat.le_refl _) (by omega) fun j hj => by
      match j, hj with
      | 0, _ => exact ⟨_, _, _, rfl, TextAt.of_ints (k1.below e.same) rfl (by omega) (by simp)⟩
      | 1, _ => exact ⟨_, _, _, rfl, (hW.below e.same).text⟩
      | 2, _ => exact ⟨_, _, _, rfl, (Kt.out.below hb3).below e.same⟩) (by omega) (by omega) (by simp only [sumLen, List.map_cons, List.map_nil, List.sum_cons, List.sum_nil, be_length, Hml.out, List.length_cons, List.length_nil]; omega) ((Htab.out.below (Below.on Hb.out hb3)).below e.same)
    rw [show ([[1], be 8 v, name] : List (List Int)).flatten = [1] ++ (be 8 v ++ name) by simp, ← HM.out] at hs
    simp only [pick, List.getElem?_toArray, List.getElem?_cons_succ, List.getElem?_cons_zero, Option.toList_some, List.cons_append, List.nil_append, Act.put, List.setIfInBounds_toArray, List.set_cons_zero, List.set_cons_succ]
    repeat (go_big_quiet_step (first | (go_at_call 110; exact Calls.ext (hs _))))
    exact wpQuiet_nil rfl
  refine AlChk.nil ?_
  refine Walk.blk rfl (fun b => .pointer (some ⟨b, 0, none⟩)) (.cells (byteCells 32 []) 23 (0, 0)) (by simp) ?_
  intro b3 w3 hb3 hF3 hge3 _
  apply Exists.intro
  refine ⟨fun w4 hb4 hF4 => wpQuiet_nil rfl, ?_⟩
  refine AlChk.nil ?_
  refine Walk.fin fun w4 h4 hF4 _ => ?_
  simp only [List.drop_succ_cons, List.drop_zero]
  have kb3 : Blk w4 b3 (byteCells 32 []) 23 := hF4.2
  have Hk3 := hid kb3
  clear kb3 hF4
  have HBw4 := hid (Below.on Hb.out h4)
  have hsw4 := HBw4.out.size
  have K0w4 := hid (K0.out.below h4)
  have Kr0w4 := hid (Kr0.out.below h4)
  have Kr1w4 := hid (Kr1.out.below h4)
  have Ktw4 := hid (Kt.out.below h4)
  clear h4
  have hge3w : w.heap.size + 1 + 1 + 1 ≤ b3 := by rw [Hbs.out]; exact hge3
  generalize hNZ : nonceZ key v name = NZ at *
  go_wp2_with (first | (refine wpList_load_blk rfl 23 _ rfl b3 rfl _ 23 Kn5.out _ Tryd.underlying23 rfl 32 size_digest HDn.out.size ?_) | (
    refine wpList_store_blk rfl 23 _ _ rfl b3 _ rfl rfl _ 23 Hk3.out 32 size_digest HzA.out HDn.out.size (ints_one _ _) ?_
    intro w5 hb5 hk5
    have HB5 := hid (hb5.below HBw4.out HBw4.out.size (by omega))
    have Kn5 := hid hk5
    have Kr05 := hid (hb5.blk Kr0w4.out (by omega))
    have Kr15 := hid (hb5.blk Kr1w4.out (by omega))
    clear hb5 hk5))
  refine (cfrom_good NZ name v a n c _ HDn.out (HT0.out.below HB5.out) hn hv0 hv1 (Htab.out.below HB5.out)).mono ?_
  rintro e w6 ⟨rfl, b6⟩
  have HB6 := hid (Below.on HB5.out b6)
  have hs6 := HB6.out.size
  have Kn6 := hid (Kn5.out.below b6)
  have Kr06 := hid (Kr05.out.below b6)
  have Kr16 := hid (Kr15.out.below b6)
  clear b6
  have hln6 := Kn6.out.lt
  have hlr6 := Kr16.out.lt
  generalize hIZ : idxZ NZ v name = IZ at *
  have HBw6 := HB6
  have Knw6 := Kn6
  have Kr0w6 := Kr06
  have Kr1w6 := Kr16
  go_wp2_with (
        refine wpList_store_blk rfl 23 _ _ rfl (w6.heap.size) (IZ.map (Value.int .u8)).toArray rfl rfl _ 23 (Blk.new rfl (byteCells 32 []) _) 32 size_digest HzA.out HDi.out.size (ints_one _ _) ?_
        intro w7 hbw7 hkw7
        have HBw7 := hid (hbw7.below (HBw6.out.alloc HBw6.out.size _) (by simp only [World.size_alloc]; omega) (by have := HBw6.out.size; omega))
        have hsw7 := HBw7.out.size
        have Kiw7 := hid hkw7
        have Knw7 := hid (hbw7.blk (Knw6.out.old _) (by have := Knw6.out.lt; omega))
        have Kr0w7 := hid (hbw7.blk (Kr0w6.out.old _) (by have := Kr0w6.out.lt; omega))
        have Kr1w7 := hid (hbw7.blk (Kr1w6.out.old _) (by have := Kr1w6.out.lt; omega))
        clear hbw7 hkw7)
  refine FlowB.wp_region_butIn [w.heap.size + 1, w.heap.size + 1 + 1] (fun wz => Blk wz (w.heap.size + 1) (byteCells 32 []) 23 ∧ Blk wz (w.heap.size + 1 + 1) (byteCells 32 []) 23) 5 [0, 1, 2] [] [(.c 3, [], []), (.c 4, [], [])] (by kernel_rfl) (by kernel_rfl) ⟨Kr0w7.out, Kr1w7.out⟩ (fun _ _ h hb => ⟨h.1.below hb, h.2.below hb⟩) ?_
  apply Exists.intro
  refine ⟨fun w0 hb0 hF0 => ?_, ?_⟩
  · skip
    have x0 : ∀ w', (∃ x : Ext w0, w' = x.at_) → ∃ T, Blk w' (w6.heap.size) (IZ.map (Value.int .u8)).toArray T := fun w' ⟨x, hx⟩ => ⟨_, hx ▸ (hb0.blk Kiw7.out (by simp only [List.mem_cons, List.not_mem_nil, or_false]; omega)).below x.same⟩
    have x1 : ∀ w', (∃ x : Ext w0, w' = x.at_) → ∃ T, Blk w' (b3) (NZ.map (Value.int .u8)).toArray T := fun w' ⟨x, hx⟩ => ⟨_, hx ▸ (hb0.blk Knw7.out (by simp only [List.mem_cons, List.not_mem_nil, or_false]; omega)).below x.same⟩
    simp only [pick, List.getElem?_toArray, List.getElem?_cons_succ, List.getElem?_cons_zero, Option.toList_some, List.cons_append, List.nil_append]
    repeat (first | (go_big_quiet_want; refine quiet_load_blk 23 _ rfl (w6.heap.size) rfl _ x0 _ Tryd.underlying23 rfl 32 size_digest HDi.out.size ?_; go_big_quiet_on; simp only [Act.put, List.setIfInBounds_toArray, List.set_cons_zero, List.set_cons_succ]) | (go_big_quiet_want; refine quiet_load_blk 23 _ rfl (b3) rfl _ x1 _ Tryd.underlying23 rfl 32 size_digest HDn.out.size ?_; go_big_quiet_on; simp only [Act.put, List.setIfInBounds_toArray, List.set_cons_zero, List.set_cons_succ]) | go_big_quiet_step (fail))
    exact wpQuiet_nil rfl
  refine FlowB.AlChk.nil ?_
  refine FlowB.Walk.skips rfl (fun wz => Blk wz (w.heap.size + 1) (IZ.map (Value.int .u8)).toArray 23 ∧ Blk wz (w.heap.size + 1 + 1) (byteCells 32 []) 23) (fun _ _ h hb => ⟨h.1.below hb, h.2.below hb⟩) rfl (fun w1 hb1 hF1 hG1 => ?_) ?_
  · exact FlowB.store_skips 23 _ _ rfl (w.heap.size + 1) (IZ.map (Value.int .u8)).toArray rfl rfl _ 23 hG1.1 32 size_digest HzA.out HDi.out.size (ints_one _ _) (by simp) (fun w2 h2 h3 => ⟨h3, h2.blk hG1.2 (by omega)⟩)
  intro w1 hb1 hF1
  apply Exists.intro
  refine ⟨fun w2 hb2 hF2 => wpQuiet_nil rfl, ?_⟩
  refine FlowB.AlChk.nil ?_
  refine FlowB.Walk.skips rfl (fun wz => Blk wz (w.heap.size + 1) (IZ.map (Value.int .u8)).toArray 23 ∧ Blk wz (w.heap.size + 1 + 1) (NZ.map (Value.int .u8)).toArray 23) (fun _ _ h hb => ⟨h.1.below hb, h.2.below hb⟩) rfl (fun w1 hb1 hF1 hG1 => ?_) ?_
  · exact FlowB.store_skips 23 _ _ rfl (w.heap.size + 1 + 1) (NZ.map (Value.int .u8)).toArray rfl rfl _ 23 hG1.2 32 size_digest HzA.out HDn.out.size (ints_one _ _) (by simp) (fun w2 h2 h3 => ⟨h2.blk hG1.1 (by omega), h3⟩)
  intro w1 hb1 hF1
  apply Exists.intro
  refine ⟨fun w2 hb2 hF2 => wpQuiet_nil rfl, ?_⟩
  refine FlowB.AlChk.nil ?_
  refine FlowB.Walk.fin fun w8 hw8 _ hGw8 => ?_
  simp only [List.drop_succ_cons, List.drop_zero]
  have HBw8 := hid (hw8.below HBw7.out HBw7.out.size (by simp only [List.mem_cons, List.not_mem_nil, or_false, forall_eq_or_imp, forall_eq]; omega))
  have HGw8 := hid hGw8
  clear hw8 hGw8
  go_wp2_with fail
  exact bodyPost_ret (v := .tuple #[(.agg (IZ.map (Value.int .u8)).toArray), (.agg (NZ.map (Value.int .u8)).toArray), .int .i64 0]) (results_blk2_tmp Tryd.results56 _ (w.heap.size + 1) (w.heap.size + 1 + 1) rfl rfl _ rfl _ _ 23 HGw8.out.1 HGw8.out.2 _ Tryd.underlying23 rfl 32 size_digest HDi.out.size HDn.out.size) rfl ⟨by rw [hNZ, hIZ], HBw8.out⟩

set_option maxHeartbeats 4000000 in
set_option maxRecDepth 100000 in
theorem cindex_bad (key : List Int) (v : Int) (a : Option Addr) (n c : Nat) (w : World) (_hK : Dg key) (hbad : (n = 0 ∨ 64 < n) ∨ v < 1) :
    Calls Tryd.prog 56 #[(.agg (key.map (Value.int .u8)).toArray), .slice a n c, .int .i64 v] w fun e w' => e = .returned (.tuple #[(.agg (zD.map (Value.int .u8)).toArray), (.agg (zD.map (Value.int .u8)).toArray), .int .i64 1]) ∧ Below w.heap.size w w' := by
  have Hz32 := hid Dg.zero.size
  have H1 := hid (ints_one .u8 zD)
  have b1 := (Below.refl w.heap.size w).alloc (Nat.le_refl _) (.cells (key.map (Value.int .u8)).toArray 23 (0, 0))
  have b2 := b1.alloc b1.size (.cells (byteCells 32 []) 23 (0, 0))
  have b3 := b2.alloc b2.size (.cells (byteCells 32 []) 23 (0, 0))
  have K0 := hid (((Blk.new (w := w) (n := w.heap.size) rfl (key.map (Value.int .u8)).toArray 23).old (.cells (byteCells 32 []) 23 (0, 0))).old (.cells (byteCells 32 []) 23 (0, 0)))
  have Kr0 := hid ((Blk.new (w := (w.alloc (.cells (key.map (Value.int .u8)).toArray 23 (0, 0)))) (n := w.heap.size + 1) (by simp only [World.size_alloc]) (byteCells 32 []) 23).old (.cells (byteCells 32 []) 23 (0, 0)))
  have Kr1 := hid (Blk.new (w := ((w.alloc (.cells (key.map (Value.int .u8)).toArray 23 (0, 0))).alloc (.cells (byteCells 32 []) 23 (0, 0)))) (n := w.heap.size + 1 + 1) (by simp only [World.size_alloc]) (byteCells 32 []) 23)
  have Hb := hid b3
  have HzA := hid zsize
  have hbz := b3.size
  have Hbs := hid (show w.heap.size + 1 + 1 + 1 = (((w.alloc (.cells (key.map (Value.int .u8)).toArray 23 (0, 0))).alloc (.cells (byteCells 32 []) 23 (0, 0))).alloc (.cells (byteCells 32 []) 23 (0, 0))).heap.size by simp only [World.size_alloc])
  clear b1 b2 b3
  go_enter Tryd.func56, Tryd.ntmps56
  go_wp2_with fail
  rcases (show (n = 0 ∨ 64 < n) ∨ ((1 ≤ n ∧ n ≤ 64) ∧ v < 1) by omega) with h | ⟨⟨h1, h2⟩, h3⟩
  · clear hbad
    refine (isName_f a n c h _).mono ?_
    rintro e w1 ⟨rfl, rfl⟩
    go_wp2_with (first | (
          refine wpList_store_blk rfl 23 _ _ rfl (w.heap.size + 1) (zD.map (Value.int .u8)).toArray rfl rfl _ 23 Kr0.out 32 size_digest HzA.out Hz32.out H1.out ?_
          intro w7 hb7 hk7
          have HB7 := hid (hb7.below Hb.out Hb.out.size (by omega))
          have Kx7 := hid hk7
          have Ky7 := hid (hb7.blk Kr1.out (by omega))
          clear hb7 hk7) | (
          refine wpList_store_blk rfl 23 _ _ rfl (w.heap.size + 1 + 1) (zD.map (Value.int .u8)).toArray rfl rfl _ 23 Ky7.out 32 size_digest HzA.out Hz32.out H1.out ?_
          intro w8 hb8 hk8
          have HB8 := hid (hb8.below HB7.out HB7.out.size (by omega))
          have Kx8 := hid (hb8.blk Kx7.out (by omega))
          have Ky8 := hid hk8
          clear hb8 hk8))
    exact bodyPost_ret (v := .tuple #[(.agg (zD.map (Value.int .u8)).toArray), (.agg (zD.map (Value.int .u8)).toArray), .int .i64 1]) (results_blk2_tmp Tryd.results56 _ (w.heap.size + 1) (w.heap.size + 1 + 1) rfl rfl _ rfl _ _ 23 Kx8.out Ky8.out _ Tryd.underlying23 rfl 32 size_digest Hz32.out Hz32.out) rfl ⟨rfl, HB8.out⟩
  · refine (isName_t a n c h1 h2 _).mono ?_
    rintro e w1 ⟨rfl, rfl⟩
    go_wp2_with (first | (
          refine wpList_store_blk rfl 23 _ _ rfl (w.heap.size + 1) (zD.map (Value.int .u8)).toArray rfl rfl _ 23 Kr0.out 32 size_digest HzA.out Hz32.out H1.out ?_
          intro w7 hb7 hk7
          have HB7 := hid (hb7.below Hb.out Hb.out.size (by omega))
          have Kx7 := hid hk7
          have Ky7 := hid (hb7.blk Kr1.out (by omega))
          clear hb7 hk7) | (
          refine wpList_store_blk rfl 23 _ _ rfl (w.heap.size + 1 + 1) (zD.map (Value.int .u8)).toArray rfl rfl _ 23 Ky7.out 32 size_digest HzA.out Hz32.out H1.out ?_
          intro w8 hb8 hk8
          have HB8 := hid (hb8.below HB7.out HB7.out.size (by omega))
          have Kx8 := hid (hb8.blk Kx7.out (by omega))
          have Ky8 := hid hk8
          clear hb8 hk8))
    exact bodyPost_ret (v := .tuple #[(.agg (zD.map (Value.int .u8)).toArray), (.agg (zD.map (Value.int .u8)).toArray), .int .i64 1]) (results_blk2_tmp Tryd.results56 _ (w.heap.size + 1) (w.heap.size + 1 + 1) rfl rfl _ rfl _ _ 23 Kx8.out Ky8.out _ Tryd.underlying23 rfl 32 size_digest Hz32.out Hz32.out) rfl ⟨rfl, HB8.out⟩

set_option maxHeartbeats 4000000 in
set_option maxRecDepth 100000 in
theorem cmade_good (salt value : List Int) (a : Option Addr) (n c : Nat) (w : World) (hS : Dg salt) (hT : TextAt w a n c value) (hn : n ≤ 64) (tab : ShaTab w) :
    Calls Tryd.prog 65 #[(.agg (salt.map (Value.int .u8)).toArray), .slice a n c] w fun e w' => e = .returned (.tuple #[(.agg ((madeZ salt value).map (Value.int .u8)).toArray), .int .i64 0]) ∧ Below w.heap.size w w' := by
  have HM : Hid (madeZ salt value = sumZ ([2] ++ (salt ++ value))) := hid (by unfold madeZ; rfl)
  have HD := hid (Dg.made salt value)
  have Hml := hid hT.length
  have HT0 := hid hT
  have hle := hT.le
  have hmx := hT.max
  have b1 := (Below.refl w.heap.size w).alloc (Nat.le_refl _) (.cells (salt.map (Value.int .u8)).toArray 23 (0, 0))
  have b2 := b1.alloc b1.size (.cells (byteCells 32 []) 23 (0, 0))
  have K0 := hid ((Blk.new (w := w) (n := w.heap.size) rfl (salt.map (Value.int .u8)).toArray 23).old (.cells (byteCells 32 []) 23 (0, 0)))
  have Kr0 := hid (Blk.new (w := (w.alloc (.cells (salt.map (Value.int .u8)).toArray 23 (0, 0)))) (n := w.heap.size + 1) (by simp only [World.size_alloc]) (byteCells 32 []) 23)
  have Hb := hid b2
  have hbel := b2
  have HzA := hid zsize
  have hbz := b2.size
  have Hbs := hid (show w.heap.size + 1 + 1 = ((w.alloc (.cells (salt.map (Value.int .u8)).toArray 23 (0, 0))).alloc (.cells (byteCells 32 []) 23 (0, 0))).heap.size by simp only [World.size_alloc])
  have Kt := hid (hT.below b2)
  have Htab := hid tab
  clear b1 b2 tab hT
  go_enter Tryd.func65, Tryd.ntmps65
  go_wp2_with fail
  refine (isValue_t a n c hn _).mono ?_
  rintro e w1 ⟨rfl, rfl⟩
  go_wp2_with fail
  have bA := (hbel).alloc hbel.size (.cells #[.int .u8 2] 5 (0, 0))
  have bB := bA.alloc bA.size (.cells #[.slice (some ⟨w.heap.size + 1 + 1, 0, none⟩) 1 1, .slice (some ⟨w.heap.size, 0, none⟩) 32 32, .slice a n c] 81 (0, 0))
  have k9 := Blk.new (w := (((w.alloc (.cells (salt.map (Value.int .u8)).toArray 23 (0, 0))).alloc (.cells (byteCells 32 []) 23 (0, 0))).alloc (.cells #[.int .u8 2] 5 (0, 0)))) (n := w.heap.size + 1 + 1 + 1) (by simp only [World.size_alloc]) #[.slice (some ⟨w.heap.size + 1 + 1, 0, none⟩) 1 1, .slice (some ⟨w.heap.size, 0, none⟩) 32 32, .slice a n c] 81
  have k1 := (Blk.new (w := ((w.alloc (.cells (salt.map (Value.int .u8)).toArray 23 (0, 0))).alloc (.cells (byteCells 32 []) 23 (0, 0)))) (n := w.heap.size + 1 + 1) (by simp only [World.size_alloc]) (([2] : List Int).map (Value.int .u8)).toArray 5).old (.cells #[.slice (some ⟨w.heap.size + 1 + 1, 0, none⟩) 1 1, .slice (some ⟨w.heap.size, 0, none⟩) 32 32, .slice a n c] 81 (0, 0))
  have k0 := (K0.out.old (.cells #[.int .u8 2] 5 (0, 0))).old (.cells #[.slice (some ⟨w.heap.size + 1 + 1, 0, none⟩) 1 1, .slice (some ⟨w.heap.size, 0, none⟩) 32 32, .slice a n c] 81 (0, 0))
  have kr := (Kr0.out.old (.cells #[.int .u8 2] 5 (0, 0))).old (.cells #[.slice (some ⟨w.heap.size + 1 + 1, 0, none⟩) 1 1, .slice (some ⟨w.heap.size, 0, none⟩) 32 32, .slice a n c] 81 (0, 0))
  have ht := HT0.out.below bB
  have hs := sum_any (some ⟨w.heap.size + 1 + 1 + 1, 0, none⟩) 3 3 [[2], salt, value] _ (TextsAt.of_blk k9 rfl (Nat.le_refl _) (by omega) fun j hj => by
      match j, hj with
      | 0, _ => exact ⟨_, _, _, rfl, TextAt.of_ints k1 rfl (by omega) (by simp)⟩
      | 1, _ => exact ⟨_, _, _, rfl, hS.text k0⟩
      | 2, _ => exact ⟨_, _, _, rfl, ht⟩) (by simp only [sumLen, List.map_cons, List.map_nil, List.sum_cons, List.sum_nil, hS.len, Hml.out, List.length_cons, List.length_nil]; omega) (Htab.out.below bB)
  rw [show ([[2], salt, value] : List (List Int)).flatten = [2] ++ (salt ++ value) by simp, ← HM.out] at hs
  refine hs.mono ?_
  rintro e w6 ⟨rfl, b6⟩
  have HB6 := hid (Below.on bB b6)
  have Kr6 := hid (kr.below b6)
  clear b6 bA bB k9 k1 k0 kr ht hs hbel
  generalize hMZ : madeZ salt value = MZ at *
  go_wp2_with (refine wpList_store_blk rfl 23 _ _ rfl (w.heap.size + 1) _ rfl rfl _ 23 Kr6.out 32 size_digest HzA.out HD.out.size (ints_one _ _) ?_; intro w7 hbut7 hk7)
  exact bodyPost_ret (v := .tuple #[(.agg (MZ.map (Value.int .u8)).toArray), .int .i64 0]) (results_blk_tmp Tryd.results65 _ (w.heap.size + 1) rfl _ rfl _ 23 hk7 _ Tryd.underlying23 rfl 32 size_digest HD.out.size) rfl ⟨by rw [hMZ], hbut7.below HB6.out HB6.out.size (by omega)⟩

set_option maxHeartbeats 4000000 in
set_option maxRecDepth 100000 in
theorem cmade_bad (salt : List Int) (a : Option Addr) (n c : Nat) (w : World) (_hS : Dg salt) (hn : 64 < n) :
    Calls Tryd.prog 65 #[(.agg (salt.map (Value.int .u8)).toArray), .slice a n c] w fun e w' => e = .returned (.tuple #[(.agg (zD.map (Value.int .u8)).toArray), .int .i64 1]) ∧ Below w.heap.size w w' := by
  have Hz32 := hid Dg.zero.size
  have H1 := hid (ints_one .u8 zD)
  have b1 := (Below.refl w.heap.size w).alloc (Nat.le_refl _) (.cells (salt.map (Value.int .u8)).toArray 23 (0, 0))
  have b2 := b1.alloc b1.size (.cells (byteCells 32 []) 23 (0, 0))
  have K0 := hid ((Blk.new (w := w) (n := w.heap.size) rfl (salt.map (Value.int .u8)).toArray 23).old (.cells (byteCells 32 []) 23 (0, 0)))
  have Kr0 := hid (Blk.new (w := (w.alloc (.cells (salt.map (Value.int .u8)).toArray 23 (0, 0)))) (n := w.heap.size + 1) (by simp only [World.size_alloc]) (byteCells 32 []) 23)
  have Hb := hid b2
  have HzA := hid zsize
  have hbz := b2.size
  have Hbs := hid (show w.heap.size + 1 + 1 = ((w.alloc (.cells (salt.map (Value.int .u8)).toArray 23 (0, 0))).alloc (.cells (byteCells 32 []) 23 (0, 0))).heap.size by simp only [World.size_alloc])
  clear b1 b2
  go_enter Tryd.func65, Tryd.ntmps65
  go_wp2_with fail
  refine (isValue_f a n c hn _).mono ?_
  rintro e w1 ⟨rfl, rfl⟩
  go_wp2_with (refine wpList_store_blk rfl 23 _ _ rfl (w.heap.size + 1) (zD.map (Value.int .u8)).toArray rfl rfl _ 23 Kr0.out 32 size_digest HzA.out Hz32.out H1.out ?_; intro w7 hbut7 hk7)
  exact bodyPost_ret (v := .tuple #[(.agg (zD.map (Value.int .u8)).toArray), .int .i64 1]) (results_blk_tmp Tryd.results65 _ (w.heap.size + 1) rfl _ rfl _ 23 hk7 _ Tryd.underlying23 rfl 32 size_digest Hz32.out) rfl ⟨rfl, hbut7.below Hb.out Hb.out.size (by omega)⟩

set_option maxHeartbeats 4000000 in
set_option maxRecDepth 100000 in
theorem cvalue_good (key index value : List Int) (a : Option Addr) (n c : Nat) (w : World) (hK : Dg key) (hI : Dg index) (hT : TextAt w a n c value) (hn : n ≤ 64) (tab : ShaTab w) :
    Calls Tryd.prog 62 #[(.agg (key.map (Value.int .u8)).toArray), (.agg (index.map (Value.int .u8)).toArray), .slice a n c] w fun e w' => e = .returned (.tuple #[(.agg ((madeZ (saltZ key index value) value).map (Value.int .u8)).toArray), (.agg ((saltZ key index value).map (Value.int .u8)).toArray), .int .i64 0]) ∧ Below w.heap.size w w' := by
  have HM : Hid (saltZ key index value = macZ key ([2] ++ (index ++ value))) := hid (by unfold saltZ; rfl)
  have HDn := hid (Dg.salt key index value)
  have HDi := hid (Dg.made (saltZ key index value) value)
  have Hml := hid hT.length
  have HT0 := hid hT
  have hle := hT.le
  have hmx := hT.max
  have b1 := (Below.refl w.heap.size w).alloc (Nat.le_refl _) (.cells (key.map (Value.int .u8)).toArray 23 (0, 0))
  have b2 := b1.alloc b1.size (.cells (index.map (Value.int .u8)).toArray 23 (0, 0))
  have b3 := b2.alloc b2.size (.cells (byteCells 32 []) 23 (0, 0))
  have b4 := b3.alloc b3.size (.cells (byteCells 32 []) 23 (0, 0))
  have K0 := hid ((((Blk.new (w := w) (n := w.heap.size) rfl (key.map (Value.int .u8)).toArray 23).old (.cells (index.map (Value.int .u8)).toArray 23 (0, 0))).old (.cells (byteCells 32 []) 23 (0, 0))).old (.cells (byteCells 32 []) 23 (0, 0)))
  have K1 := hid (((Blk.new (w := (w.alloc (.cells (key.map (Value.int .u8)).toArray 23 (0, 0)))) (n := w.heap.size + 1) (by simp only [World.size_alloc]) (index.map (Value.int .u8)).toArray 23).old (.cells (byteCells 32 []) 23 (0, 0))).old (.cells (byteCells 32 []) 23 (0, 0)))
  have Kr0 := hid ((Blk.new (w := ((w.alloc (.cells (key.map (Value.int .u8)).toArray 23 (0, 0))).alloc (.cells (index.map (Value.int .u8)).toArray 23 (0, 0)))) (n := w.heap.size + 1 + 1) (by simp only [World.size_alloc]) (byteCells 32 []) 23).old (.cells (byteCells 32 []) 23 (0, 0)))
  have Kr1 := hid (Blk.new (w := (((w.alloc (.cells (key.map (Value.int .u8)).toArray 23 (0, 0))).alloc (.cells (index.map (Value.int .u8)).toArray 23 (0, 0))).alloc (.cells (byteCells 32 []) 23 (0, 0)))) (n := w.heap.size + 1 + 1 + 1) (by simp only [World.size_alloc]) (byteCells 32 []) 23)
  have Hb := hid b4
  have HzA := hid zsize
  have hbz := b4.size
  have Hbs := hid (show w.heap.size + 1 + 1 + 1 + 1 = ((((w.alloc (.cells (key.map (Value.int .u8)).toArray 23 (0, 0))).alloc (.cells (index.map (Value.int .u8)).toArray 23 (0, 0))).alloc (.cells (byteCells 32 []) 23 (0, 0))).alloc (.cells (byteCells 32 []) 23 (0, 0))).heap.size by simp only [World.size_alloc])
  have Kt := hid (hT.below b4)
  have Htab := hid tab
  clear b1 b2 b3 b4 tab hT
  go_enter Tryd.func62, Tryd.ntmps62
  go_wp2_with fail
  refine (isValue_t a n c hn _).mono ?_
  rintro e w1 ⟨rfl, rfl⟩
  go_wp2_with fail
  refine wp_region_flow 7 [0, 2, 3] [1, 6] [(.b 1, [], [4]), (.b 4, [5], []), (.b 6, [], [])] (by kernel_rfl) (by kernel_rfl) ?_
  apply Exists.intro
  refine ⟨fun w0 hb0 hF0 => ?_, ?_⟩
  · simp only [pick, List.getElem?_toArray, List.getElem?_cons_succ, List.getElem?_cons_zero, Option.toList_some, List.cons_append, List.nil_append]
    repeat (go_big_quiet_step (fail))
    exact wpQuiet_nil rfl
  refine AlChk.one rfl (fun b => .slice (some ⟨b, 0, none⟩) 1 1) (.cells #[.int .u8 2] 5 (0, 0)) rfl (fun w2 hb2 hF2 => by go_simp) ?_
  refine AlChk.one rfl (fun b => .pointer (some ⟨b, 0, none⟩)) (.cells (byteCells 32 []) 23 (0, 0)) rfl (fun w3 hb3 hF3 => by go_simp; rfl) ?_
  refine AlChk.nil ?_
  refine Walk.blk rfl (fun b => .slice (some ⟨b, 0, none⟩) 1 1) (.cells #[.int .u8 2] 5 (0, 0)) (by simp) ?_
  intro b1 w2 hb2 hF2 hge1 _
  apply Exists.intro
  refine ⟨fun w2 hb2 hF2 => wpQuiet_nil rfl, ?_⟩
  refine AlChk.one rfl (fun b => .slice (some ⟨b, 0, none⟩) 3 3) (.cells #[.slice (some ⟨b1, 0, none⟩) 1 1, .slice (some ⟨w.heap.size + 1, 0, none⟩) 32 32, .slice a n c] 81 (0, 0)) rfl (fun w2 hb2 hF2 => by go_simp) ?_
  refine AlChk.nil ?_
  refine Walk.blk rfl (fun b => .slice (some ⟨b, 0, none⟩) 3 3) (.cells #[.slice (some ⟨b1, 0, none⟩) 1 1, .slice (some ⟨w.heap.size + 1, 0, none⟩) 32 32, .slice a n c] 81 (0, 0)) (by simp) ?_
  intro b9 w2 hb2 hF2 hge9 _
  apply Exists.intro
  refine ⟨fun w3 hb3 hF3 => ?_, ?_⟩
  · have k9 : Blk w3 b9 #[.slice (some ⟨b1, 0, none⟩) 1 1, .slice (some ⟨w.heap.size + 1, 0, none⟩) 32 32, .slice a n c] 81 := hF3.2
    have k1 : Blk w3 b1 (([2] : List Int).map (Value.int .u8)).toArray 5 := hF3.1.2
    have hs := fun e : Ext w3 => code_any _ 32 32 key (some ⟨b9, 0, none⟩) 3 3 [[2], index, value] e.at_ (hK.text ((K0.out.below hb3).below e.same)) (TextsAt.of_blk (k9.below e.same) rfl (Nat.le_refl _) (by omega) fun j hj => by
      match j, hj with
      | 0, _ => exact ⟨_, _, _, rfl, TextAt.of_ints (k1.below e.same) rfl (by omega) (by simp)⟩
      | 1, _ => exact ⟨_, _, _, rfl, hI.text ((K1.out.below hb3).below e.same)⟩
      | 2, _ => exact ⟨_, _, _, rfl, (Kt.out.below hb3).below e.same⟩) (by omega) (by omega) (by simp only [sumLen, List.map_cons, List.map_nil, List.sum_cons, List.sum_nil, hI.len, Hml.out, List.length_cons, List.length_nil]; omega) ((Htab.out.below (Below.on Hb.out hb3)).below e.same)
    rw [show ([[2], index, value] : List (List Int)).flatten = [2] ++ (index ++ value) by simp, ← HM.out] at hs
    simp only [pick, List.getElem?_toArray, List.getElem?_cons_succ, List.getElem?_cons_zero, Option.toList_some, List.cons_append, List.nil_append, Act.put, List.setIfInBounds_toArray, List.set_cons_zero, List.set_cons_succ]
    repeat (go_big_quiet_step (first | (go_at_call 110; exact Calls.ext (hs _))))
    exact wpQuiet_nil rfl
  refine AlChk.nil ?_
  refine Walk.blk rfl (fun b => .pointer (some ⟨b, 0, none⟩)) (.cells (byteCells 32 []) 23 (0, 0)) (by simp) ?_
  intro b3 w3 hb3 hF3 hge3 _
  apply Exists.intro
  refine ⟨fun w4 hb4 hF4 => wpQuiet_nil rfl, ?_⟩
  refine AlChk.nil ?_
  refine Walk.fin fun w4 h4 hF4 _ => ?_
  simp only [List.drop_succ_cons, List.drop_zero]
  have kb3 : Blk w4 b3 (byteCells 32 []) 23 := hF4.2
  have Hk3 := hid kb3
  clear kb3 hF4
  have HBw4 := hid (Below.on Hb.out h4)
  have hsw4 := HBw4.out.size
  have K0w4 := hid (K0.out.below h4)
  have K1w4 := hid (K1.out.below h4)
  have Kr0w4 := hid (Kr0.out.below h4)
  have Kr1w4 := hid (Kr1.out.below h4)
  have Ktw4 := hid (Kt.out.below h4)
  clear h4
  have hge3w : w.heap.size + 1 + 1 + 1 + 1 ≤ b3 := by rw [Hbs.out]; exact hge3
  generalize hNZ : saltZ key index value = NZ at *
  go_wp2_with (first | (refine wpList_load_blk rfl 23 _ rfl b3 rfl _ 23 Kn5.out _ Tryd.underlying23 rfl 32 size_digest HDn.out.size ?_) | (
    refine wpList_store_blk rfl 23 _ _ rfl b3 _ rfl rfl _ 23 Hk3.out 32 size_digest HzA.out HDn.out.size (ints_one _ _) ?_
    intro w5 hb5 hk5
    have HB5 := hid (hb5.below HBw4.out HBw4.out.size (by omega))
    have Kn5 := hid hk5
    have Kr05 := hid (hb5.blk Kr0w4.out (by omega))
    have Kr15 := hid (hb5.blk Kr1w4.out (by omega))
    clear hb5 hk5))
  refine (cmade_good NZ value a n c _ HDn.out (HT0.out.below HB5.out) hn (Htab.out.below HB5.out)).mono ?_
  rintro e w6 ⟨rfl, b6⟩
  have HBw6 := hid (Below.on HB5.out b6)
  have hs6 := HBw6.out.size
  have Knw6 := hid (Kn5.out.below b6)
  have Kr0w6 := hid (Kr05.out.below b6)
  have Kr1w6 := hid (Kr15.out.below b6)
  clear b6
  have hln6 := Knw6.out.lt
  have hlr6 := Kr1w6.out.lt
  generalize hIZ : madeZ NZ value = IZ at *
  go_wp2_with (
        refine wpList_store_blk rfl 23 _ _ rfl (w6.heap.size) (IZ.map (Value.int .u8)).toArray rfl rfl _ 23 (Blk.new rfl (byteCells 32 []) _) 32 size_digest HzA.out HDi.out.size (ints_one _ _) ?_
        intro w7 hbw7 hkw7
        have HBw7 := hid (hbw7.below (HBw6.out.alloc HBw6.out.size _) (by simp only [World.size_alloc]; omega) (by have := HBw6.out.size; omega))
        have hsw7 := HBw7.out.size
        have Kiw7 := hid hkw7
        have Knw7 := hid (hbw7.blk (Knw6.out.old _) (by have := Knw6.out.lt; omega))
        have Kr0w7 := hid (hbw7.blk (Kr0w6.out.old _) (by have := Kr0w6.out.lt; omega))
        have Kr1w7 := hid (hbw7.blk (Kr1w6.out.old _) (by have := Kr1w6.out.lt; omega))
        clear hbw7 hkw7)
  refine FlowB.wp_region_butIn [w.heap.size + 1 + 1, w.heap.size + 1 + 1 + 1] (fun wz => Blk wz (w.heap.size + 1 + 1) (byteCells 32 []) 23 ∧ Blk wz (w.heap.size + 1 + 1 + 1) (byteCells 32 []) 23) 5 [0, 1, 2] [] [(.c 3, [], []), (.c 4, [], [])] (by kernel_rfl) (by kernel_rfl) ⟨Kr0w7.out, Kr1w7.out⟩ (fun _ _ h hb => ⟨h.1.below hb, h.2.below hb⟩) ?_
  apply Exists.intro
  refine ⟨fun w0 hb0 hF0 => ?_, ?_⟩
  · skip
    have x0 : ∀ w', (∃ x : Ext w0, w' = x.at_) → ∃ T, Blk w' (w6.heap.size) (IZ.map (Value.int .u8)).toArray T := fun w' ⟨x, hx⟩ => ⟨_, hx ▸ (hb0.blk Kiw7.out (by simp only [List.mem_cons, List.not_mem_nil, or_false]; omega)).below x.same⟩
    have x1 : ∀ w', (∃ x : Ext w0, w' = x.at_) → ∃ T, Blk w' (b3) (NZ.map (Value.int .u8)).toArray T := fun w' ⟨x, hx⟩ => ⟨_, hx ▸ (hb0.blk Knw7.out (by simp only [List.mem_cons, List.not_mem_nil, or_false]; omega)).below x.same⟩
    simp only [pick, List.getElem?_toArray, List.getElem?_cons_succ, List.getElem?_cons_zero, Option.toList_some, List.cons_append, List.nil_append]
    repeat (first | (go_big_quiet_want; refine quiet_load_blk 23 _ rfl (w6.heap.size) rfl _ x0 _ Tryd.underlying23 rfl 32 size_digest HDi.out.size ?_; go_big_quiet_on; simp only [Act.put, List.setIfInBounds_toArray, List.set_cons_zero, List.set_cons_succ]) | (go_big_quiet_want; refine quiet_load_blk 23 _ rfl (b3) rfl _ x1 _ Tryd.underlying23 rfl 32 size_digest HDn.out.size ?_; go_big_quiet_on; simp only [Act.put, List.setIfInBounds_toArray, List.set_cons_zero, List.set_cons_succ]) | go_big_quiet_step (fail))
    exact wpQuiet_nil rfl
  refine FlowB.AlChk.nil ?_
  refine FlowB.Walk.skips rfl (fun wz => Blk wz (w.heap.size + 1 + 1) (IZ.map (Value.int .u8)).toArray 23 ∧ Blk wz (w.heap.size + 1 + 1 + 1) (byteCells 32 []) 23) (fun _ _ h hb => ⟨h.1.below hb, h.2.below hb⟩) rfl (fun w1 hb1 hF1 hG1 => ?_) ?_
  · exact FlowB.store_skips 23 _ _ rfl (w.heap.size + 1 + 1) (IZ.map (Value.int .u8)).toArray rfl rfl _ 23 hG1.1 32 size_digest HzA.out HDi.out.size (ints_one _ _) (by simp) (fun w2 h2 h3 => ⟨h3, h2.blk hG1.2 (by omega)⟩)
  intro w1 hb1 hF1
  apply Exists.intro
  refine ⟨fun w2 hb2 hF2 => wpQuiet_nil rfl, ?_⟩
  refine FlowB.AlChk.nil ?_
  refine FlowB.Walk.skips rfl (fun wz => Blk wz (w.heap.size + 1 + 1) (IZ.map (Value.int .u8)).toArray 23 ∧ Blk wz (w.heap.size + 1 + 1 + 1) (NZ.map (Value.int .u8)).toArray 23) (fun _ _ h hb => ⟨h.1.below hb, h.2.below hb⟩) rfl (fun w1 hb1 hF1 hG1 => ?_) ?_
  · exact FlowB.store_skips 23 _ _ rfl (w.heap.size + 1 + 1 + 1) (NZ.map (Value.int .u8)).toArray rfl rfl _ 23 hG1.2 32 size_digest HzA.out HDn.out.size (ints_one _ _) (by simp) (fun w2 h2 h3 => ⟨h2.blk hG1.1 (by omega), h3⟩)
  intro w1 hb1 hF1
  apply Exists.intro
  refine ⟨fun w2 hb2 hF2 => wpQuiet_nil rfl, ?_⟩
  refine FlowB.AlChk.nil ?_
  refine FlowB.Walk.fin fun w8 hw8 _ hGw8 => ?_
  simp only [List.drop_succ_cons, List.drop_zero]
  have HBw8 := hid (hw8.below HBw7.out HBw7.out.size (by simp only [List.mem_cons, List.not_mem_nil, or_false, forall_eq_or_imp, forall_eq]; omega))
  have HGw8 := hid hGw8
  clear hw8 hGw8
  go_wp2_with fail
  exact bodyPost_ret (v := .tuple #[(.agg (IZ.map (Value.int .u8)).toArray), (.agg (NZ.map (Value.int .u8)).toArray), .int .i64 0]) (results_blk2_tmp Tryd.results62 _ (w.heap.size + 1 + 1) (w.heap.size + 1 + 1 + 1) rfl rfl _ rfl _ _ 23 HGw8.out.1 HGw8.out.2 _ Tryd.underlying23 rfl 32 size_digest HDi.out.size HDn.out.size) rfl ⟨by rw [hNZ, hIZ], HBw8.out⟩

set_option maxHeartbeats 4000000 in
set_option maxRecDepth 100000 in
theorem cvalue_bad (key index : List Int) (a : Option Addr) (n c : Nat) (w : World) (_hK : Dg key) (_hI : Dg index) (hn : 64 < n) :
    Calls Tryd.prog 62 #[(.agg (key.map (Value.int .u8)).toArray), (.agg (index.map (Value.int .u8)).toArray), .slice a n c] w fun e w' => e = .returned (.tuple #[(.agg (zD.map (Value.int .u8)).toArray), (.agg (zD.map (Value.int .u8)).toArray), .int .i64 1]) ∧ Below w.heap.size w w' := by
  have Hz32 := hid Dg.zero.size
  have H1 := hid (ints_one .u8 zD)
  have b1 := (Below.refl w.heap.size w).alloc (Nat.le_refl _) (.cells (key.map (Value.int .u8)).toArray 23 (0, 0))
  have b2 := b1.alloc b1.size (.cells (index.map (Value.int .u8)).toArray 23 (0, 0))
  have b3 := b2.alloc b2.size (.cells (byteCells 32 []) 23 (0, 0))
  have b4 := b3.alloc b3.size (.cells (byteCells 32 []) 23 (0, 0))
  have K0 := hid ((((Blk.new (w := w) (n := w.heap.size) rfl (key.map (Value.int .u8)).toArray 23).old (.cells (index.map (Value.int .u8)).toArray 23 (0, 0))).old (.cells (byteCells 32 []) 23 (0, 0))).old (.cells (byteCells 32 []) 23 (0, 0)))
  have K1 := hid (((Blk.new (w := (w.alloc (.cells (key.map (Value.int .u8)).toArray 23 (0, 0)))) (n := w.heap.size + 1) (by simp only [World.size_alloc]) (index.map (Value.int .u8)).toArray 23).old (.cells (byteCells 32 []) 23 (0, 0))).old (.cells (byteCells 32 []) 23 (0, 0)))
  have Kr0 := hid ((Blk.new (w := ((w.alloc (.cells (key.map (Value.int .u8)).toArray 23 (0, 0))).alloc (.cells (index.map (Value.int .u8)).toArray 23 (0, 0)))) (n := w.heap.size + 1 + 1) (by simp only [World.size_alloc]) (byteCells 32 []) 23).old (.cells (byteCells 32 []) 23 (0, 0)))
  have Kr1 := hid (Blk.new (w := (((w.alloc (.cells (key.map (Value.int .u8)).toArray 23 (0, 0))).alloc (.cells (index.map (Value.int .u8)).toArray 23 (0, 0))).alloc (.cells (byteCells 32 []) 23 (0, 0)))) (n := w.heap.size + 1 + 1 + 1) (by simp only [World.size_alloc]) (byteCells 32 []) 23)
  have Hb := hid b4
  have HzA := hid zsize
  have hbz := b4.size
  have Hbs := hid (show w.heap.size + 1 + 1 + 1 + 1 = ((((w.alloc (.cells (key.map (Value.int .u8)).toArray 23 (0, 0))).alloc (.cells (index.map (Value.int .u8)).toArray 23 (0, 0))).alloc (.cells (byteCells 32 []) 23 (0, 0))).alloc (.cells (byteCells 32 []) 23 (0, 0))).heap.size by simp only [World.size_alloc])
  clear b1 b2 b3 b4
  go_enter Tryd.func62, Tryd.ntmps62
  go_wp2_with fail
  refine (isValue_f a n c hn _).mono ?_
  rintro e w1 ⟨rfl, rfl⟩
  go_wp2_with (first | (
        refine wpList_store_blk rfl 23 _ _ rfl (w.heap.size + 1 + 1) (zD.map (Value.int .u8)).toArray rfl rfl _ 23 Kr0.out 32 size_digest HzA.out Hz32.out H1.out ?_
        intro w7 hb7 hk7
        have HB7 := hid (hb7.below Hb.out Hb.out.size (by omega))
        have Kx7 := hid hk7
        have Ky7 := hid (hb7.blk Kr1.out (by omega))
        clear hb7 hk7) | (
        refine wpList_store_blk rfl 23 _ _ rfl (w.heap.size + 1 + 1 + 1) (zD.map (Value.int .u8)).toArray rfl rfl _ 23 Ky7.out 32 size_digest HzA.out Hz32.out H1.out ?_
        intro w8 hb8 hk8
        have HB8 := hid (hb8.below HB7.out HB7.out.size (by omega))
        have Kx8 := hid (hb8.blk Kx7.out (by omega))
        have Ky8 := hid hk8
        clear hb8 hk8))
  exact bodyPost_ret (v := .tuple #[(.agg (zD.map (Value.int .u8)).toArray), (.agg (zD.map (Value.int .u8)).toArray), .int .i64 1]) (results_blk2_tmp Tryd.results62 _ (w.heap.size + 1 + 1) (w.heap.size + 1 + 1 + 1) rfl rfl _ rfl _ _ 23 Kx8.out Ky8.out _ Tryd.underlying23 rfl 32 size_digest Hz32.out Hz32.out) rfl ⟨rfl, HB8.out⟩

set_option maxHeartbeats 4000000 in
set_option maxRecDepth 100000 in
theorem cisindex_good (index nonce name : List Int) (v : Int) (a : Option Addr) (n c : Nat) (w : World) (hI : Dg index) (hN : Dg nonce) (hT : TextAt w a n c name) (hn : 1 ≤ n ∧ n ≤ 64) (hv0 : 1 ≤ v) (hv1 : v < 9223372036854775808) (tab : ShaTab w) :
    Calls Tryd.prog 58 #[(.agg (index.map (Value.int .u8)).toArray), (.agg (nonce.map (Value.int .u8)).toArray), .slice a n c, .int .i64 v] w fun e w' => e = .returned (.bool (decide (index = (idxZ nonce v name)))) ∧ Below w.heap.size w w' := by
  have HD := hid (Dg.idx nonce v name)
  have HT0 := hid hT
  have b1 := (Below.refl w.heap.size w).alloc (Nat.le_refl _) (.cells (index.map (Value.int .u8)).toArray 23 (0, 0))
  have b2 := b1.alloc b1.size (.cells (nonce.map (Value.int .u8)).toArray 23 (0, 0))
  have K0 := hid ((Blk.new (w := w) (n := w.heap.size) rfl (index.map (Value.int .u8)).toArray 23).old (.cells (nonce.map (Value.int .u8)).toArray 23 (0, 0)))
  have K1 := hid (Blk.new (w := (w.alloc (.cells (index.map (Value.int .u8)).toArray 23 (0, 0)))) (n := w.heap.size + 1) (by simp only [World.size_alloc]) (nonce.map (Value.int .u8)).toArray 23)
  have Hb := hid b2
  have HzA := hid zsize
  have hbz := b2.size
  have Hbs := hid (show w.heap.size + 1 + 1 = ((w.alloc (.cells (index.map (Value.int .u8)).toArray 23 (0, 0))).alloc (.cells (nonce.map (Value.int .u8)).toArray 23 (0, 0))).heap.size by simp only [World.size_alloc])
  have Htab := hid tab
  clear b1 b2 tab
  go_enter Tryd.func58, Tryd.ntmps58
  go_wp2_with (refine wpList_load_blk rfl 23 _ rfl (w.heap.size + 1) rfl _ 23 K1.out _ Tryd.underlying23 rfl 32 size_digest hN.size ?_)
  refine (cfrom_good nonce name v a n c _ hN (HT0.out.below Hb.out) hn hv0 hv1 (Htab.out.below Hb.out)).mono ?_
  rintro e w1 ⟨rfl, bw1⟩
  have HBw1 := hid (Below.on Hb.out bw1)
  have hsw1 := HBw1.out.size
  have K0w1 := hid (K0.out.below bw1)
  have K1w1 := hid (K1.out.below bw1)
  clear bw1
  generalize hIZ : (idxZ nonce v name) = IZ at *
  have q1 := fun W => eqD index IZ hI.len HD.out.len W
  go_wp2_with (first
     | (
        refine wpList_store_blk rfl 23 _ _ rfl (w1.heap.size) (IZ.map (Value.int .u8)).toArray rfl rfl _ 23 (Blk.new rfl (byteCells 32 []) _) 32 size_digest HzA.out HD.out.size (ints_one _ _) ?_
        intro w2 hbw2 hkw2
        have HBw2 := hid (hbw2.below (HBw1.out.alloc HBw1.out.size _) (by simp only [World.size_alloc]; omega) (by have := HBw1.out.size; omega))
        have hsw2 := HBw2.out.size
        have Kiw2 := hid hkw2
        have K0w2 := hid (hbw2.blk (K0w1.out.old _) (by have := K0w1.out.lt; omega))
        have K1w2 := hid (hbw2.blk (K1w1.out.old _) (by have := K1w1.out.lt; omega))
        clear hbw2 hkw2)
     | (refine wpList_load_blk_if (by first | rfl | go_simp) 23 _ rfl (w.heap.size) rfl _ 23 K0w2.out _ Tryd.underlying23 rfl 32 size_digest hI.size ?_)
     | (refine wpList_load_blk_if (by first | rfl | go_simp) 23 _ rfl (w1.heap.size) rfl _ 23 Kiw2.out _ Tryd.underlying23 rfl 32 size_digest HD.out.size ?_))
  go_returns
  exact ⟨by rw [hIZ]; rfl, HBw2.out⟩

set_option maxHeartbeats 4000000 in
set_option maxRecDepth 100000 in
theorem cisindex_bad (index nonce : List Int) (v : Int) (a : Option Addr) (n c : Nat) (w : World) (_hI : Dg index) (hN : Dg nonce) (hbad : (n = 0 ∨ 64 < n) ∨ v < 1) :
    Calls Tryd.prog 58 #[(.agg (index.map (Value.int .u8)).toArray), (.agg (nonce.map (Value.int .u8)).toArray), .slice a n c, .int .i64 v] w fun e w' => e = .returned (.bool (false)) ∧ Below w.heap.size w w' := by
  have HD := hid (Dg.zero)
  have hz9 := 0
  have b1 := (Below.refl w.heap.size w).alloc (Nat.le_refl _) (.cells (index.map (Value.int .u8)).toArray 23 (0, 0))
  have b2 := b1.alloc b1.size (.cells (nonce.map (Value.int .u8)).toArray 23 (0, 0))
  have K0 := hid ((Blk.new (w := w) (n := w.heap.size) rfl (index.map (Value.int .u8)).toArray 23).old (.cells (nonce.map (Value.int .u8)).toArray 23 (0, 0)))
  have K1 := hid (Blk.new (w := (w.alloc (.cells (index.map (Value.int .u8)).toArray 23 (0, 0)))) (n := w.heap.size + 1) (by simp only [World.size_alloc]) (nonce.map (Value.int .u8)).toArray 23)
  have Hb := hid b2
  have HzA := hid zsize
  have hbz := b2.size
  have Hbs := hid (show w.heap.size + 1 + 1 = ((w.alloc (.cells (index.map (Value.int .u8)).toArray 23 (0, 0))).alloc (.cells (nonce.map (Value.int .u8)).toArray 23 (0, 0))).heap.size by simp only [World.size_alloc])
  clear b1 b2
  go_enter Tryd.func58, Tryd.ntmps58
  go_wp2_with (refine wpList_load_blk rfl 23 _ rfl (w.heap.size + 1) rfl _ 23 K1.out _ Tryd.underlying23 rfl 32 size_digest hN.size ?_)
  refine (cfrom_bad nonce v a n c _ hN hbad).mono ?_
  rintro e w1 ⟨rfl, bw1⟩
  have HBw1 := hid (Below.on Hb.out bw1)
  have hsw1 := HBw1.out.size
  have K0w1 := hid (K0.out.below bw1)
  have K1w1 := hid (K1.out.below bw1)
  clear bw1
  have q9 := 0
  go_wp2_with (
        refine wpList_store_blk rfl 23 _ _ rfl (w1.heap.size) (zD.map (Value.int .u8)).toArray rfl rfl _ 23 (Blk.new rfl (byteCells 32 []) _) 32 size_digest HzA.out HD.out.size (ints_one _ _) ?_
        intro w2 hbw2 hkw2
        have HBw2 := hid (hbw2.below (HBw1.out.alloc HBw1.out.size _) (by simp only [World.size_alloc]; omega) (by have := HBw1.out.size; omega))
        have hsw2 := HBw2.out.size
        have Kiw2 := hid hkw2
        have K0w2 := hid (hbw2.blk (K0w1.out.old _) (by have := K0w1.out.lt; omega))
        have K1w2 := hid (hbw2.blk (K1w1.out.old _) (by have := K1w1.out.lt; omega))
        clear hbw2 hkw2)
  go_returns
  exact ⟨rfl, HBw2.out⟩

set_option maxHeartbeats 4000000 in
set_option maxRecDepth 100000 in
theorem cisvalue_good (index nonce name : List Int) (a : Option Addr) (n c : Nat) (w : World) (hI : Dg index) (hN : Dg nonce) (hT : TextAt w a n c name) (hn : n ≤ 64) (tab : ShaTab w) :
    Calls Tryd.prog 63 #[(.agg (index.map (Value.int .u8)).toArray), (.agg (nonce.map (Value.int .u8)).toArray), .slice a n c] w fun e w' => e = .returned (.bool (decide (index = (madeZ nonce name)))) ∧ Below w.heap.size w w' := by
  have HD := hid (Dg.made nonce name)
  have HT0 := hid hT
  have b1 := (Below.refl w.heap.size w).alloc (Nat.le_refl _) (.cells (index.map (Value.int .u8)).toArray 23 (0, 0))
  have b2 := b1.alloc b1.size (.cells (nonce.map (Value.int .u8)).toArray 23 (0, 0))
  have K0 := hid ((Blk.new (w := w) (n := w.heap.size) rfl (index.map (Value.int .u8)).toArray 23).old (.cells (nonce.map (Value.int .u8)).toArray 23 (0, 0)))
  have K1 := hid (Blk.new (w := (w.alloc (.cells (index.map (Value.int .u8)).toArray 23 (0, 0)))) (n := w.heap.size + 1) (by simp only [World.size_alloc]) (nonce.map (Value.int .u8)).toArray 23)
  have Hb := hid b2
  have HzA := hid zsize
  have hbz := b2.size
  have Hbs := hid (show w.heap.size + 1 + 1 = ((w.alloc (.cells (index.map (Value.int .u8)).toArray 23 (0, 0))).alloc (.cells (nonce.map (Value.int .u8)).toArray 23 (0, 0))).heap.size by simp only [World.size_alloc])
  have Htab := hid tab
  clear b1 b2 tab
  go_enter Tryd.func63, Tryd.ntmps63
  go_wp2_with (refine wpList_load_blk rfl 23 _ rfl (w.heap.size + 1) rfl _ 23 K1.out _ Tryd.underlying23 rfl 32 size_digest hN.size ?_)
  refine (cmade_good nonce name a n c _ hN (HT0.out.below Hb.out) hn (Htab.out.below Hb.out)).mono ?_
  rintro e w1 ⟨rfl, bw1⟩
  have HBw1 := hid (Below.on Hb.out bw1)
  have hsw1 := HBw1.out.size
  have K0w1 := hid (K0.out.below bw1)
  have K1w1 := hid (K1.out.below bw1)
  clear bw1
  generalize hIZ : (madeZ nonce name) = IZ at *
  have q1 := fun W => eqD index IZ hI.len HD.out.len W
  go_wp2_with (first
     | (
        refine wpList_store_blk rfl 23 _ _ rfl (w1.heap.size) (IZ.map (Value.int .u8)).toArray rfl rfl _ 23 (Blk.new rfl (byteCells 32 []) _) 32 size_digest HzA.out HD.out.size (ints_one _ _) ?_
        intro w2 hbw2 hkw2
        have HBw2 := hid (hbw2.below (HBw1.out.alloc HBw1.out.size _) (by simp only [World.size_alloc]; omega) (by have := HBw1.out.size; omega))
        have hsw2 := HBw2.out.size
        have Kiw2 := hid hkw2
        have K0w2 := hid (hbw2.blk (K0w1.out.old _) (by have := K0w1.out.lt; omega))
        have K1w2 := hid (hbw2.blk (K1w1.out.old _) (by have := K1w1.out.lt; omega))
        clear hbw2 hkw2)
     | (refine wpList_load_blk_if (by first | rfl | go_simp) 23 _ rfl (w.heap.size) rfl _ 23 K0w2.out _ Tryd.underlying23 rfl 32 size_digest hI.size ?_)
     | (refine wpList_load_blk_if (by first | rfl | go_simp) 23 _ rfl (w1.heap.size) rfl _ 23 Kiw2.out _ Tryd.underlying23 rfl 32 size_digest HD.out.size ?_))
  go_returns
  exact ⟨by rw [hIZ]; rfl, HBw2.out⟩

set_option maxHeartbeats 4000000 in
set_option maxRecDepth 100000 in
theorem cisvalue_bad (index nonce : List Int) (a : Option Addr) (n c : Nat) (w : World) (_hI : Dg index) (hN : Dg nonce) (hbad : 64 < n) :
    Calls Tryd.prog 63 #[(.agg (index.map (Value.int .u8)).toArray), (.agg (nonce.map (Value.int .u8)).toArray), .slice a n c] w fun e w' => e = .returned (.bool (false)) ∧ Below w.heap.size w w' := by
  have HD := hid (Dg.zero)
  have hz9 := 0
  have b1 := (Below.refl w.heap.size w).alloc (Nat.le_refl _) (.cells (index.map (Value.int .u8)).toArray 23 (0, 0))
  have b2 := b1.alloc b1.size (.cells (nonce.map (Value.int .u8)).toArray 23 (0, 0))
  have K0 := hid ((Blk.new (w := w) (n := w.heap.size) rfl (index.map (Value.int .u8)).toArray 23).old (.cells (nonce.map (Value.int .u8)).toArray 23 (0, 0)))
  have K1 := hid (Blk.new (w := (w.alloc (.cells (index.map (Value.int .u8)).toArray 23 (0, 0)))) (n := w.heap.size + 1) (by simp only [World.size_alloc]) (nonce.map (Value.int .u8)).toArray 23)
  have Hb := hid b2
  have HzA := hid zsize
  have hbz := b2.size
  have Hbs := hid (show w.heap.size + 1 + 1 = ((w.alloc (.cells (index.map (Value.int .u8)).toArray 23 (0, 0))).alloc (.cells (nonce.map (Value.int .u8)).toArray 23 (0, 0))).heap.size by simp only [World.size_alloc])
  clear b1 b2
  go_enter Tryd.func63, Tryd.ntmps63
  go_wp2_with (refine wpList_load_blk rfl 23 _ rfl (w.heap.size + 1) rfl _ 23 K1.out _ Tryd.underlying23 rfl 32 size_digest hN.size ?_)
  refine (cmade_bad nonce a n c _ hN hbad).mono ?_
  rintro e w1 ⟨rfl, bw1⟩
  have HBw1 := hid (Below.on Hb.out bw1)
  have hsw1 := HBw1.out.size
  have K0w1 := hid (K0.out.below bw1)
  have K1w1 := hid (K1.out.below bw1)
  clear bw1
  have q9 := 0
  go_wp2_with (
        refine wpList_store_blk rfl 23 _ _ rfl (w1.heap.size) (zD.map (Value.int .u8)).toArray rfl rfl _ 23 (Blk.new rfl (byteCells 32 []) _) 32 size_digest HzA.out HD.out.size (ints_one _ _) ?_
        intro w2 hbw2 hkw2
        have HBw2 := hid (hbw2.below (HBw1.out.alloc HBw1.out.size _) (by simp only [World.size_alloc]; omega) (by have := HBw1.out.size; omega))
        have hsw2 := HBw2.out.size
        have Kiw2 := hid hkw2
        have K0w2 := hid (hbw2.blk (K0w1.out.old _) (by have := K0w1.out.lt; omega))
        have K1w2 := hid (hbw2.blk (K1w1.out.old _) (by have := K1w1.out.lt; omega))
        clear hbw2 hkw2)
  go_returns
  exact ⟨rfl, HBw2.out⟩
end Go.Proofs.YtjkfbeillmeomaaDoor
