/-
  Contract of keyed.Message.
-/
import Derived.Test.YtkiaeepdpmcafaaDoorKeyed2
import Derived.Test.YtkiaeepdpmcafaaDoorMacCode
import Derived.Test.YtkiaeepdpmcafaaDoorOwnM
namespace Go.Proofs.YtkiaeepdpmcafaaDoor
open Go.ChangeShapes Go.WideShapes Go.ChangeAt Go.RowKit

set_option maxHeartbeats 4000000 in
set_option maxRecDepth 100000 in
theorem Message_any (r root : List Int) (index : Int) (a : Option Addr) (len cap : Nat) (ts : List (List Int)) (w : World) (hr : Dg r) (hroot : Dg root) (hi0 : 0 ≤ index) (hi1 : index < 18446744073709551616) (hT : TextsAt w a len cap ts) (hln : len ≤ 4000000000000) (hsl : sumLen ts < 1000000000000000000) (tab : ShaTab w) :
    Calls Tryd.prog 33 #[.agg (r.map (Value.int .u8)).toArray, .agg (root.map (Value.int .u8)).toArray, .int .u64 index, .slice a len cap] w fun e w' => e = .returned (.agg ((msgZ r root index ts.flatten).map (Value.int .u8)).toArray) ∧ Below w.heap.size w w' := by
  have HM : Hid (msgZ r root index ts.flatten = sumZ (be 32 2 ++ (r ++ (root ++ (be 32 index ++ ts.flatten))))) := hid (by unfold msgZ; rfl)
  have HD := hid (Dg.msg r root index ts.flatten)
  obtain ⟨i1, hi, hz1, hs1, hy1⟩ := info_parts info_text
  have b1 := (Below.refl w.heap.size w).alloc (Nat.le_refl _) (.cells (r.map (Value.int .u8)).toArray 26 (0, 0))
  have b2 := b1.alloc b1.size (.cells (root.map (Value.int .u8)).toArray 26 (0, 0))
  have bz := b2.alloc b2.size (.cells (byteCells 32 []) 26 (0, 0))
  have K0 := hid (((Blk.new (w := w) (n := w.heap.size) rfl (r.map (Value.int .u8)).toArray 26).old (.cells (root.map (Value.int .u8)).toArray 26 (0, 0))).old (.cells (byteCells 32 []) 26 (0, 0)))
  have K1 := hid ((Blk.new (w := (w.alloc (.cells (r.map (Value.int .u8)).toArray 26 (0, 0)))) (n := w.heap.size + 1) (by simp only [World.size_alloc]) (root.map (Value.int .u8)).toArray 26).old (.cells (byteCells 32 []) 26 (0, 0)))
  have Kr := hid (Blk.new (w := ((w.alloc (.cells (r.map (Value.int .u8)).toArray 26 (0, 0))).alloc (.cells (root.map (Value.int .u8)).toArray 26 (0, 0)))) (n := w.heap.size + 1 + 1) (by simp only [World.size_alloc]) (byteCells 32 []) 26)
  have Hb := hid bz
  have Htab := hid tab
  have hbs : w.heap.size + 1 + 1 + 1 = ((((w.alloc (.cells (r.map (Value.int .u8)).toArray 26 (0, 0))).alloc (.cells (root.map (Value.int .u8)).toArray 26 (0, 0)))).alloc (.cells (byteCells 32 []) 26 (0, 0))).heap.size := by simp only [World.size_alloc]
  have Hbs := hid hbs
  have HzA := hid zsize
  have HT := hid hT
  have hle := hT.le
  have hmx := hT.max
  have Hl1 := hid hT.length
  have hbz := bz.size
  clear tab bz b2 b1 hT hbs
  go_enter Tryd.func33, Tryd.ntmps33
  go_wp2_with fail
  refine wp_region_flow 6 [1, 2, 3] [] [(.c 0, [], []), (.c 4, [], [5]), (.b 5, [], [])] (by kernel_rfl) (by kernel_rfl) ?_
  apply Exists.intro
  refine ⟨fun w0 hb0 hF0 => ?_, ?_⟩
  · simp only [pick, List.getElem?_toArray, List.getElem?_cons_succ, List.getElem?_cons_zero, Option.toList_some, List.cons_append, List.nil_append]
    repeat (go_big_quiet_step (fail))
    exact wpQuiet_nil rfl
  refine AlChk.nil ?_
  refine Walk.call rfl 48 #[.int .u64 2] (WideAt 2) (fun v w' w'' h k => h.below k) rfl (fun w1 hb1 hF1 => ⟨by go_simp, ?_⟩) ?_
  · refine (wide_any 2 w1 (by omega) (by omega)).mono ?_
    rintro e w2 ⟨g, hg, rfl, b2, k2⟩
    exact ⟨_, rfl, b2, g, rfl, k2⟩
  rintro v w1 hb1 hF1 ⟨gw, rfl, _⟩
  apply Exists.intro
  refine ⟨fun w2 hb2 hF2 => wpQuiet_nil rfl, ?_⟩
  refine AlChk.nil ?_
  refine Walk.call rfl 48 #[.int .u64 index] (WideAt index) (fun v w' w'' h k => h.below k) rfl (fun w1 hb1 hF1 => ⟨by go_simp, ?_⟩) ?_
  · refine (wide_any index w1 hi0 hi1).mono ?_
    rintro e w2 ⟨g, hg, rfl, b2, k2⟩
    exact ⟨_, rfl, b2, g, rfl, k2⟩
  rintro v w2 hb2 hF2 ⟨gi, rfl, _⟩
  apply Exists.intro
  refine ⟨fun w3 hb3 hF3 => wpQuiet_nil rfl, ?_⟩
  refine AlChk.one rfl (fun b => .slice (some ⟨b, 0, none⟩) 4 4) (.cells #[.slice (some ⟨gw, 0, none⟩) 32 32, .slice (some ⟨w.heap.size, 0, none⟩) 32 32, .slice (some ⟨w.heap.size + 1, 0, none⟩) 32 32, .slice (some ⟨gi, 0, none⟩) 32 32] 29 (0, 0)) rfl (fun w3 hb3 hF3 => by go_simp) ?_
  refine AlChk.nil ?_
  refine Walk.blk rfl (fun b => .slice (some ⟨b, 0, none⟩) 4 4) (.cells #[.slice (some ⟨gw, 0, none⟩) 32 32, .slice (some ⟨w.heap.size, 0, none⟩) 32 32, .slice (some ⟨w.heap.size + 1, 0, none⟩) 32 32, .slice (some ⟨gi, 0, none⟩) 32 32] 29 (0, 0)) (by simp) ?_
  intro b9 w3 hb3 hF3 hge9 _
  apply Exists.intro
  refine ⟨fun w4 hb4 hF4 => wpQuiet_nil rfl, ?_⟩
  refine AlChk.nil ?_
  refine Walk.fin fun w4 h4 hF4 _ => ?_
  simp only [List.drop_succ_cons, List.drop_zero]
  have hW2 := hF4.1.1.2
  have hWi := hF4.1.2
  have k9 : Blk w4 b9 #[.slice (some ⟨gw, 0, none⟩) 32 32, .slice (some ⟨w.heap.size, 0, none⟩) 32 32, .slice (some ⟨w.heap.size + 1, 0, none⟩) 32 32, .slice (some ⟨gi, 0, none⟩) 32 32] 29 := hF4.2
  have kw : Blk w4 gw ((be 32 2).map (Value.int .u8)).toArray 5 := by
    obtain ⟨g', e1, e2⟩ := hW2
    cases e1
    exact e2
  have ki : Blk w4 gi ((be 32 index).map (Value.int .u8)).toArray 5 := by
    obtain ⟨g', e1, e2⟩ := hWi
    cases e1
    exact e2
  have k0 := K0.out.below h4
  have k1 := K1.out.below h4
  have own : OwnM w4 (w.heap.size + 1 + 1 + 1) 29 (.slice (some ⟨b9, 0, none⟩) 4 4) [be 32 2, r, root, be 32 index] :=
    OwnM.of_blk (vs := [_, _, _, _]) k9 (by rw [Hbs.out]; exact hge9) rfl rfl (by omega) fun j hj => by
      match j, hj with
      | 0, _ => exact ⟨_, _, _, rfl, hW2.text, fun _ p hp => by cases hp; exact kw.apart k9 (by decide)⟩
      | 1, _ => exact ⟨_, _, _, rfl, hr.text k0, fun _ p hp => by cases hp; exact k0.apart k9 (by decide)⟩
      | 2, _ => exact ⟨_, _, _, rfl, hroot.text k1, fun _ p hp => by cases hp; exact k1.apart k9 (by decide)⟩
      | 3, _ => exact ⟨_, _, _, rfl, hWi.text, fun _ p hp => by cases hp; exact ki.apart k9 (by decide)⟩
  have Hown := hid own
  have Hr4 := hid (Kr.out.below h4)
  have Hb4 := hid (Below.on Hb.out h4)
  have hsz4 : w.heap.size + 1 + 1 + 1 ≤ w4.heap.size := by rw [Hbs.out]; exact h4.size
  clear h4 hF4 hW2 hWi k9 kw ki k0 k1 own Kr K0 K1
  go_wp2_with (at_builtin; refine wpList_append_texts_m rfl _ _ rfl Tryd.underlying22 hi hz1 hs1 hy1 rfl Hown.out rfl HT.out Hb4.out (by omega) (by simp only [List.length_cons, List.length_nil]; omega) hsz4 ?_)
  intro v5 w5 own5 b5
  obtain ⟨a5, c5, rfl, hT5⟩ := own5.texts
  rw [show (be 32 2 :: r :: root :: be 32 index :: ts).length = len + 4 by simp [Hl1.out]] at hT5 ⊢
  have HT5 := hid hT5
  have Hb5 := hid (Hb4.out.trans (b5.mono (by omega)))
  have Hr5 := hid (Hr4.out.belowB (by omega) b5)
  clear own5 hT5 Hown b5
  go_wp2_with fail
  refine (sum_any a5 (len + 4) c5 _ w5 HT5.out (by simp only [sumLen, List.map_cons, List.sum_cons, be_length, hr.len, hroot.len]; unfold sumLen at hsl; omega) (Htab.out.below Hb5.out)).mono ?_
  rintro e w6 ⟨rfl, b6⟩
  rw [show (be 32 2 :: r :: root :: be 32 index :: ts).flatten = be 32 2 ++ (r ++ (root ++ (be 32 index ++ ts.flatten))) by simp, ← HM.out]
  have Hb6 := hid (Below.on Hb5.out b6)
  have Hr6 := hid (Hr5.out.below b6)
  clear b6 HT5
  go_wp2_with (refine wpList_store_blk rfl 26 _ _ rfl (w.heap.size + 1 + 1) _ rfl rfl _ 26 Hr6.out 32 size_digest HzA.out HD.out.size (ints_one _ _) ?_; intro w7 hbut7 hk7)
  exact bodyPost_ret (v := .agg ((msgZ r root index ts.flatten).map (Value.int .u8)).toArray) (results_blk Tryd.results33 _ (w.heap.size + 1 + 1) rfl _ 26 hk7 _ Tryd.underlying26 rfl 32 size_digest HD.out.size) rfl ⟨rfl, hbut7.below Hb6.out Hb6.out.size (by omega)⟩
end Go.Proofs.YtkiaeepdpmcafaaDoor
