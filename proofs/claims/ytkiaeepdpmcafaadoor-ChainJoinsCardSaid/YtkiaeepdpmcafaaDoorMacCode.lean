/-
  Contracts of mac.Code, mac.Same, planchetref02.Code.
-/
import Derived.Test.YtkiaeepdpmcafaaDoorMac
import Derived.Test.YtkiaeepdpmcafaaDoorShaRefSum
namespace Go.Proofs.YtkiaeepdpmcafaaDoor
open Go.ChangeShapes Go.WideShapes Go.ChangeAt Go.RowKit

theorem info_text : (Tryd.prog.info? 29).map (fun i => (i.zero, i.size, i.bytes)) = some (some (.slice none 0 0), 1, 24) := by kernel_rfl

set_option maxHeartbeats 4000000 in
set_option maxRecDepth 100000 in
theorem code_any (ka : Option Addr) (kn kc : Nat) (key : List Int) (a : Option Addr) (len cap : Nat) (ts : List (List Int)) (w : World) (hK : TextAt w ka kn kc key) (hT : TextsAt w a len cap ts) (hkn : kn < 1152921504606846976) (hln : len ≤ 4000000000000) (hsl : sumLen ts < 1152921504606846000) (tab : ShaTab w) :
    Calls Tryd.prog 21 #[.slice ka kn kc, .slice a len cap] w fun e w' => e = .returned (.agg ((macZ key ts.flatten).map (Value.int .u8)).toArray) ∧ Below w.heap.size w w' := by
  have hks := hK.small
  have hbl := blockZ_length key
  have hbs := blockZ_small hks
  have HM : Hid (macZ key ts.flatten = sumZ (maskZ (blockZ key) 92 ++ sumZ (maskZ (blockZ key) 54 ++ ts.flatten))) := hid (by unfold macZ; rfl)
  have hfl := flatten_length ts
  have Hkr := hid (Blk.new (w := w) rfl (byteCells 32 []) 26)
  have Hb0 := hid ((Below.refl w.heap.size w).alloc (Nat.le_refl _) (.cells (byteCells 32 []) 26 (0, 0)))
  have HK := hid hK
  have HT := hid hT
  have Htab := hid tab
  have hle := hT.le
  have hmx := hT.max
  have Hfl := hid hfl
  have hl1 := hT.length
  have Hl1 := hid hl1
  clear hK hT tab hks hfl hl1
  have HbS := hid (And.intro hbl hbs)
  obtain ⟨i1, hi1, hz1, hs1, hy1⟩ := info_parts info_text
  have hks64 : (((blockZ key).map (Value.int .u8)).toArray).size = 64 := by simp [hbl]
  have Hs64 := hid hks64
  have Hz64 := hid zsize64
  have HzA := hid zsize
  clear hbl hbs hks64
  go_enter Tryd.func21, Tryd.ntmps21
  go_wp2_with fail
  refine (blockOf_any ka kn kc key _ (HK.out.below Hb0.out) hkn (Htab.out.below Hb0.out)).mono ?_
  rintro e w1 ⟨rfl, b1⟩
  have Hb1 := hid (Below.on Hb0.out b1)
  have Hkr1 := hid (Hkr.out.below b1)
  have hz1' := Hb1.out.size
  have hltr := Hkr1.out.lt
  clear b1 Hkr Hb0
  go_wp2_with (
    first
    | (refine wpList_store_blk rfl 61 _ _ rfl w1.heap.size _ rfl rfl _ 61 (Blk.new rfl (byteCells 64 []) _) 64 size_64 Hz64.out Hs64.out (ints_one _ _) ?_
       intro w2 b2 k2
       have Hb2 := hid (b2.below (Hb1.out.alloc hz1' _) (by rw [World.size_alloc]; omega) hz1')
       have Hk2 := hid k2
       have Hkr2 := hid (b2.blk (Hkr1.out.old _) (by omega))
       clear b2 k2 Hkr1)
    | (refine wpList_load_blk rfl 61 _ rfl w1.heap.size rfl _ 61 Hk2.out _ Tryd.underlying61 rfl 64 size_64 Hs64.out ?_))
  refine (masked_any (blockZ key) 54 w2 HbS.out.2 HbS.out.1 (by omega)).mono ?_
  rintro e w3 ⟨g3, rfl, hg3, k3, b3⟩
  have HT3 := hid (TextAt.of_ints k3 (by rw [maskZ_length, HbS.out.1]) (by omega) (maskZ_small HbS.out.2 (by omega)))
  have Hb3 := hid (Below.on Hb2.out b3)
  have Hk3 := hid (Hk2.out.below b3)
  have Hkr3 := hid (Hkr2.out.below b3)
  have hg3l := k3.lt
  have hz3 := Hb3.out.size
  have ba := (Below.refl w3.heap.size w3).alloc (Nat.le_refl _) (.cells #[.slice (some ⟨g3, 0, none⟩) 64 64] 29 (0, 0))
  have own : OwnL (w3.alloc (.cells #[.slice (some ⟨g3, 0, none⟩) 64 64] 29 (0, 0))) w3.heap.size 29 (.slice (some ⟨w3.heap.size, 0, none⟩) 1 1) [maskZ (blockZ key) 54] :=
    OwnL.of_blk (Blk.new rfl [Value.slice (some ⟨g3, 0, none⟩) 64 64].toArray 29) (Nat.le_refl _) rfl rfl (by omega) fun j hj => by
      obtain rfl : j = 0 := by omega
      exact ⟨_, _, _, rfl, HT3.out.below ba, fun _ p hp => by cases hp; exact hg3l⟩
  have Hown := hid own
  have Hb4 := hid (Hb3.out.alloc hz3 (.cells #[.slice (some ⟨g3, 0, none⟩) 64 64] 29 (0, 0)))
  have Hba := hid ba
  clear k3 b3 own ba Hk2 Hkr2 Hb2
  go_wp2_with (at_builtin; refine wpList_append_texts rfl _ _ rfl Tryd.underlying22 hi1 hz1 hs1 hy1 rfl Hown.out rfl HT.out Hb4.out hz3 ?c1 ?c2 ?_)
  case c1 => simp only [List.length_cons, List.length_nil]; omega
  case c2 => rw [World.size_alloc]; omega
  intro v5 w5 own5 b5
  have Hb5w := hid (Hba.out.trans b5)
  obtain ⟨a5, c5, rfl, hT5⟩ := own5.texts
  rw [show (maskZ (blockZ key) 54 :: ts).length = len + 1 by rw [List.length_cons, Hl1.out]] at hT5 ⊢
  have HT5 := hid hT5
  have Hb5 := hid (Below.on Hb3.out Hb5w.out)
  have Hk5 := hid (Hk3.out.below Hb5w.out)
  have Hkr5 := hid (Hkr3.out.below Hb5w.out)
  have hz5 := Hb5.out.size
  clear own5 b5 hT5 Hk3 Hkr3 Hown Hba Hb4
  go_wp2_with fail
  refine (sum_any a5 (len + 1) c5 _ w5 HT5.out (by simp only [sumLen, List.map_cons, List.sum_cons, maskZ_length, HbS.out.1]; unfold sumLen at hsl; omega) (Htab.out.below Hb5.out)).mono ?_
  rintro e w6 ⟨rfl, b6⟩
  rw [show (maskZ (blockZ key) 54 :: ts).flatten = maskZ (blockZ key) 54 ++ ts.flatten by simp]
  have Hb6 := hid (Below.on Hb5.out b6)
  have Hk6 := hid (Hk5.out.below b6)
  have Hkr6 := hid (Hkr5.out.below b6)
  have hz6 := Hb6.out.size
  have Hl2 := hid (sumZ_length (maskZ (blockZ key) 54 ++ ts.flatten))
  have HSs := hid (sumZ_small (maskZ (blockZ key) 54 ++ ts.flatten))
  have hltk := Hk6.out.lt
  have hltr6 := Hkr6.out.lt
  clear b6 Hk5 Hkr5 HT5 Hb5
  generalize sumZ (maskZ (blockZ key) 54 ++ ts.flatten) = S at *
  generalize w1.heap.size = gk at *
  go_wp2_with (
    refine wpList_store_blk rfl 26 _ _ rfl w6.heap.size _ rfl rfl _ 26 (Blk.new rfl (byteCells 32 []) _) 32 size_digest HzA.out (dsize Hl2.out) (ints_one _ _) ?_
    intro w7 b7 k7
    have Hb7 := hid (b7.below (Hb6.out.alloc hz6 _) (by rw [World.size_alloc]; omega) hz6)
    have Hk7 := hid (b7.blk (Hk6.out.old _) (by omega))
    have Hkr7 := hid (b7.blk (Hkr6.out.old _) (by omega))
    have Hkd7 := hid k7
    clear b7 k7 Hk6 Hkr6)
  generalize w6.heap.size = gd at *
  simp only [Act.put]
  refine wp_region_flow 5 [0, 2] [] [(.c 1, [], [3]), (.b 3, [4], [])] (by kernel_rfl) (by kernel_rfl) ?_
  apply Exists.intro
  refine ⟨fun w0 hb0 hF0 => ?_, ?_⟩
  · have xK : ∀ w', (∃ x : Ext w0, w' = x.at_) → ∃ T, Blk w' gk ((blockZ key).map (Value.int .u8)).toArray T := fun w' ⟨x, hx⟩ => ⟨_, hx ▸ (Hk7.out.below hb0).below x.same⟩
    simp only [pick, List.getElem?_toArray, List.getElem?_cons_succ, List.getElem?_cons_zero, Option.toList_some, List.cons_append, List.nil_append]
    repeat (first | (go_big_quiet_want; refine quiet_load_blk 61 _ rfl gk rfl _ xK _ Tryd.underlying61 rfl 64 size_64 Hs64.out ?_; go_big_quiet_on; simp only [Act.put, List.setIfInBounds_toArray, List.set_cons_zero, List.set_cons_succ]) | go_big_quiet_step (fail))
    exact wpQuiet_nil rfl
  refine AlChk.nil ?_
  refine Walk.call rfl 47 #[.agg ((blockZ key).map (Value.int .u8)).toArray, .int .u8 92] (fun v w' => ∃ g, v = .slice (some ⟨g, 0, none⟩) 64 64 ∧ Blk w' g ((maskZ (blockZ key) 92).map (Value.int .u8)).toArray 5) (fun v w' w'' ⟨g, h1, h2⟩ k => ⟨g, h1, h2.below k⟩) rfl (fun w8 hb8 hF8 => ⟨by go_simp, ?_⟩) ?_
  · refine (masked_any (blockZ key) 92 w8 HbS.out.2 HbS.out.1 (by omega)).mono ?_
    rintro e w9 ⟨g, rfl, hg, k9, b9⟩
    exact ⟨_, rfl, b9, g, rfl, k9⟩
  rintro v w8 hb8 hF8 ⟨g9, rfl, _⟩
  apply Exists.intro
  refine ⟨fun w9 hb9 hF9 => ?_, ?_⟩
  · exact wpQuiet_nil rfl
  refine AlChk.one rfl (fun b => .slice (some ⟨b, 0, none⟩) 2 2) (.cells #[.slice (some ⟨g9, 0, none⟩) 64 64, .slice (some ⟨gd, 0, none⟩) 32 32] 29 (0, 0)) rfl (fun w9 hb9 hF9 => by go_simp) ?_
  refine AlChk.nil ?_
  refine Walk.blk rfl (fun b => .slice (some ⟨b, 0, none⟩) 2 2) (.cells #[.slice (some ⟨g9, 0, none⟩) 64 64, .slice (some ⟨gd, 0, none⟩) 32 32] 29 (0, 0)) (by simp) ?_
  intro b9 w9 hb9 hF9 hge9 _
  apply Exists.intro
  refine ⟨fun w10 hb10 hF10 => ?_, ?_⟩
  · have k10 : Blk w10 b9 #[.slice (some ⟨g9, 0, none⟩) 64 64, .slice (some ⟨gd, 0, none⟩) 32 32] 29 := hF10.2
    obtain ⟨g', he, hk'⟩ := hF10.1.2
    have hg' : g' = g9 := by injection he with h1; injection h1 with h2; injection h2 with h3; exact h3.symm
    subst hg'
    have hs := fun e : Ext w10 => sum_any (some ⟨b9, 0, none⟩) 2 2 [maskZ (blockZ key) 92, S] e.at_ (TextsAt.of_blk (k10.below e.same) rfl (Nat.le_refl _) (by omega) fun j hj => by
      match j, hj with
      | 0, _ => exact ⟨_, _, _, rfl, TextAt.of_ints (bs := maskZ (blockZ key) 92) (hk'.below e.same) (by rw [maskZ_length, HbS.out.1]) (by omega) (maskZ_small HbS.out.2 (by omega))⟩
      | 1, _ => exact ⟨_, _, _, rfl, TextAt.of_ints ((Hkd7.out.below hb10).below e.same) Hl2.out (by omega) HSs.out⟩) (by simp only [sumLen, List.map_cons, List.map_nil, List.sum_cons, List.sum_nil, maskZ_length, HbS.out.1, Hl2.out]; omega) ((Htab.out.below (Below.on Hb7.out hb10)).below e.same)
    rw [show ([maskZ (blockZ key) 92, S] : List (List Int)).flatten = maskZ (blockZ key) 92 ++ S by simp, ← HM.out] at hs
    simp only [pick, List.getElem?_toArray, List.getElem?_cons_succ, List.getElem?_cons_zero, Option.toList_some, List.cons_append, List.nil_append, Act.put, List.setIfInBounds_toArray, List.set_cons_zero, List.set_cons_succ]
    repeat (go_big_quiet_step (first | (go_at_call 14; exact Calls.ext (hs _))))
    exact wpQuiet_nil rfl
  refine AlChk.nil ?_
  refine Walk.fin fun w11 h11 _ _ => ?_
  simp only [List.drop_succ_cons, List.drop_zero]
  have Hkr11 := hid (Hkr7.out.below h11)
  have Hb11 := hid (Below.on Hb7.out h11)
  have Hlm := hid (macZ_length key ts.flatten)
  clear h11
  go_wp2_with (refine wpList_store_blk rfl 26 _ _ rfl w.heap.size _ rfl rfl _ 26 Hkr11.out 32 size_digest HzA.out (dsize Hlm.out) (ints_one _ _) ?_; intro w12 hbut12 hk12)
  exact bodyPost_ret (v := .agg ((macZ key ts.flatten).map (Value.int .u8)).toArray) (results_blk Tryd.results21 _ w.heap.size rfl _ 26 hk12 _ Tryd.underlying26 rfl 32 size_digest (dsize Hlm.out)) rfl ⟨rfl, hbut12.below Hb11.out Hb11.out.size (Nat.le_refl _)⟩
end Go.Proofs.YtkiaeepdpmcafaaDoor
