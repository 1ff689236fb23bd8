/-
  Layer 15: the law SignerOnce.
-/
import Derived.Test.YtmpgnpkodapidaaSoY
import Derived.Deep.DeepCutAuto
import Derived.Deep.CutBlock
namespace Go.Proofs.Ytmpgnpkodapidaa
open Go.ChangeShapes Go.WideShapes Go.ChangeAt Go.RowKit

def xs15 (iv av : Value) : List Nat := iv.ownBlock.toList ++ av.ownBlock.toList
theorem owns_at {w : World} {N : Nat} {e : TypeId} {v : Value} {n s : Nat} {xs : List Value} (h : w.ownsRow N e s v n xs) (b : Nat) (hb : b ∈ v.ownBlock.toList) : N ≤ b ∧ b < w.heap.size := by
  obtain ⟨h1, h2 | ⟨g, cap, cur, rfl, hg, hh, -⟩⟩ := h
  · rw [h2.1] at hb; cases hb
  · obtain rfl : b = g := by simpa [Value.ownBlock] using hb
    exact ⟨hg, (Array.getElem?_eq_some_iff.1 hh).1⟩
theorem Rows15.at_ {w : World} {N : Nat} {iv av : Value} {imgs : List (List Int)} {all : List Tri} (h : Rows15 w N iv av imgs all) (b : Nat) (hb : b ∈ xs15 iv av) : N ≤ b ∧ b < w.heap.size := by
  rcases List.mem_append.1 hb with hb | hb
  · exact owns_at h.im b hb
  · exact owns_at h.al b hb
/-- Between two deeds. -/
structure St15 (W w : World) (n b : Int) (f p bb : Nat) (σ : Sg15) (U : List Tri) (all : List Tri) (imgs : List (List Int)) (iv av : Value) (op c i : Nat) : Prop where
  bel : Below W.heap.size W w
  rows : Rows15 w W.heap.size iv av imgs all
  sg : SgW w f p bb σ n b (xs15 iv av)
  inv : Inv n b U σ c all imgs op i
  lo : W.heap.size ≤ σ.s ∧ W.heap.size ≤ σ.q ∧ W.heap.size ≤ f ∧ W.heap.size ≤ p ∧ W.heap.size ≤ bb
theorem St15.below {W w w' : World} {n b : Int} {f p bb : Nat} {σ : Sg15} {U all : List Tri} {imgs : List (List Int)} {iv av : Value} {op c i : Nat} (h : St15 W w n b f p bb σ U all imgs iv av op c i) (hb : Below w.heap.size w w') : St15 W w' n b f p bb σ U all imgs iv av op c i :=
  ⟨Below.on h.bel hb, h.rows.below hb, h.sg.below hb, h.inv, h.lo⟩
/-- Behind a deed. -/
structure Ac15 (W w : World) (n b : Int) (f p bb s q : Nat) (all : List Tri) (imgs : List (List Int)) (iv av : Value) (op : Int) (c i : Nat) (M : List Int) (kv at_ hv : Value) : Prop where
  bel : Below W.heap.size W w
  rows : Rows15 w W.heap.size iv av imgs all
  act : Act15 w n b f p bb s q c all imgs op i (xs15 iv av) M kv at_ hv
  lo : W.heap.size ≤ s ∧ W.heap.size ≤ q ∧ W.heap.size ≤ f ∧ W.heap.size ≤ p ∧ W.heap.size ≤ bb
theorem SgW.fail {w w' : World} {f p bb : Nat} {σ : Sg15} {tt bt : Int} {X : List Nat} {set : Bool} {af : Int} {kv : Value} (h : SgW w f p bb σ tt bt X) (hb : But p w w') (hd : DkAt w' p bb 400 2 σ.B (.slice none 0 0) true set af kv) (hf : FailAt w' (X ++ [p, bb, σ.q, f, σ.s]) set af kv) : SgW w' f p bb σ tt bt X := by
  have h := (show SoAt w σ.s σ.q f p bb σ.T σ.g σ.k σ.r σ.ik σ.ii σ.m σ.nx tt bt σ.B X from h)
  obtain ⟨ma, mc, h1, h2, h7⟩ := h.sg
  obtain ⟨tv, h3⟩ := h.sl
  have hz := hb.size
  exact { h with sg := ⟨ma, mc, hb.blk h1 h.nsp, h2.butIn (ButIn.of_but hb (by simp)), fun x hx => ⟨by have := (h7 x hx).1; omega, (h7 x hx).2⟩⟩, xb := fun b hb => by have := h.xb b hb; omega, sl := ⟨tv, hb.blk h3 h.nqp⟩, fe := hb.blk h.fe h.nfp, dk := ⟨set, af, kv, hd, hf⟩ }
theorem Act15.code {w : World} {n b : Int} {f p bb s q c : Nat} {all : List Tri} {imgs : List (List Int)} {op : Int} {i : Nat} {X : List Nat} {M : List Int} {kv av hv : Value} (h : Act15 w n b f p bb s q c all imgs op i X M kv av hv) : ∃ e : Int, hv = .int .i64 e := by
  rcases h with ⟨rfl, -⟩ | ⟨e, -, -, rfl, -⟩ | ⟨rfl, -⟩ <;> exact ⟨_, rfl⟩
def hasK (k a : Int) (l : List Tri) : Bool := l.any fun x => decide (x.key = k) && decide (x.index = a)
theorem hasK_append (k a : Int) (l l' : List Tri) : hasK k a (l ++ l') = (hasK k a l || hasK k a l') := List.any_append
theorem hasK_one (k a : Int) (t : Tri) : hasK k a [t] = (decide (t.key = k) && decide (t.index = a)) := by simp [hasK]
theorem hasK_mem {k a : Int} {l : List Tri} (h : hasK k a l = true) : ∃ x ∈ l, x.key = k ∧ x.index = a := by
  obtain ⟨x, h1, h2⟩ := List.any_eq_true.1 h
  rw [Bool.and_eq_true] at h2
  exact ⟨x, h1, of_decide_eq_true h2.1, of_decide_eq_true h2.2⟩
theorem Off.img {n b : Int} {U : List Tri} {G K R : Int} {B B' : List Int} {c : Nat} {all : List Tri} {imgs : List (List Int)} {op : Int} {i : Nat} (h : Off n b U G K R B c all imgs op i) (hB : B' ∈ imgs) : Off n b U G K R B' c all imgs op i := ⟨h.core, h.core.im B' hB, h.cnt⟩
/-- All is ready to be opened again. -/
structure Rdy15 (w : World) (n b : Int) (f p bb : Nat) (U : List Tri) (G K R : Int) (B : List Int) (on : Bool) (c : Nat) (all : List Tri) (imgs : List (List Int)) (op : Int) (i : Nat) : Prop where
  fe : Blk w f #[.int .i64 G, .int .i64 K, .int .i64 R] 96
  dk : ∃ set af kv, DkAt w p bb 400 2 B (.slice none 0 0) on set af kv
  off : Off n b U G K R B c all imgs op i
theorem Rdy15.kinds {w : World} {n b : Int} {f p bb : Nat} {U : List Tri} {G K R : Int} {B : List Int} {on : Bool} {c : Nat} {all : List Tri} {imgs : List (List Int)} {op : Int} {i : Nat} (h : Rdy15 w n b f p bb U G K R B on c all imgs op i) : Kinds w [p, bb, f] := by
  obtain ⟨set, af, kv, h5⟩ := h.dk
  intro b hb
  simp only [List.mem_cons, List.not_mem_nil, or_false] at hb
  rcases hb with rfl | rfl | rfl
  · exact ⟨_, _, h5.kp, by decide, by decide⟩
  · exact ⟨_, _, h5.kb, by decide, by decide⟩
  · exact ⟨_, _, h.fe, by decide, by decide⟩
theorem Rdy15.below {w w' : World} {n b : Int} {f p bb : Nat} {U : List Tri} {G K R : Int} {B : List Int} {on : Bool} {c : Nat} {all : List Tri} {imgs : List (List Int)} {op : Int} {i : Nat} (h : Rdy15 w n b f p bb U G K R B on c all imgs op i) (hb : Below w.heap.size w w') : Rdy15 w' n b f p bb U G K R B on c all imgs op i := by
  obtain ⟨h1, ⟨set, af, kv, h2⟩, h3⟩ := h
  exact ⟨h1.below hb, ⟨set, af, kv, h2.below hb⟩, h3⟩
theorem run_str_ne (xs : ByteArray) (W : World) : (binOp .neq 9 (.string xs) (.string xs)).run Try.prog W = .ok (.bool false) W := by
  rw [binOp_string_neq]
  simp [Sem.run_pure]
/-- Behind a deed, and the row. -/
structure Md15 (W w : World) (n b : Int) (f p bb s q : Nat) (all : List Tri) (imgs : List (List Int)) (iv av : Value) (op : Int) (c i : Nat) (hv : Value) : Prop where
  bel : Below W.heap.size W w
  rows : Rows15 w W.heap.size iv av imgs all
  st : (∃ (h : Int) (U : List Tri) (σ : Sg15), hv = .int .i64 h ∧ h ≠ 9 ∧ σ.s = s ∧ σ.q = q ∧ SgW w f p bb σ n b (xs15 iv av) ∧ Inv n b U σ c all imgs op i) ∨ (hv = .int .i64 9 ∧ ∃ (U : List Tri) (G K R : Int) (B : List Int), OffAt w f p bb G K R B ∧ Off n b U G K R B c all imgs op i)
  lo : W.heap.size ≤ s ∧ W.heap.size ≤ q ∧ W.heap.size ≤ f ∧ W.heap.size ≤ p ∧ W.heap.size ≤ bb
theorem rangeAt_base15 {W w : World} {x o : Nat} {l : List Value} (h : W.rangeAt x o l) (hx : x < W.heap.size) (hb : Below W.heap.size W w) : w.rangeAt x o l := fun k v hv => by
  rw [hb.cell (p := ⟨x, o + k, none⟩) hx]
  exact h k v hv
theorem Deeds15.base {W w : World} {a : Option Addr} {len cap : Nat} {ds : List D15} (h : Deeds15 W a len cap ds) (hb : Below W.heap.size W w) : Deeds15 w a len cap ds := by
  obtain ⟨h1, h2, h3 | ⟨x, o, rfl, hx, hc⟩⟩ := h
  · exact ⟨h1, h2, .inl h3⟩
  · refine ⟨h1, h2, .inr ⟨x, o, rfl, Nat.lt_of_lt_of_le hx hb.size, fun j hj => ?_⟩⟩
    obtain ⟨ba, bc, ka, kc, hd⟩ := hc j hj
    exact ⟨ba, bc, ka, kc, rangeAt_base15 hd.cells hx hb, hd.text.below hb, hd.ints.base hb (by simp), hd.none_, hd.wide, hd.num⟩
set_option maxHeartbeats 4000000 in
set_option maxRecDepth 100000 in
theorem signerOnce_any (t0 b0 : Int) (la : Option Addr) (ln lc : Nat) (ds : List D15) (w : World) (ht : 0 ≤ t0 ∧ t0 < 65536) (hb0 : 0 ≤ b0 ∧ b0 < 256) (hD : Deeds15 w la ln lc ds) (hlm : ln ≤ 9223372036854775807) :
    Calls Try.prog 6 #[.int .u16 t0, .int .u8 b0, .slice la ln lc] w fun e w' => e = .returned (.bool true) ∧ Below w.heap.size w w' := by
  have Hb := hid (Below.refl w.heap.size w)
  have HDS := hid hD
  have hle := hD.le
  clear hD
  have e0 : t0.tmod 300 = t0 % 300 := Int.tmod_eq_emod_of_nonneg ht.1
  have e1 : b0.tmod 16 = b0 % 16 := Int.tmod_eq_emod_of_nonneg hb0.1
  have hn2 : 2 ≤ t0 % 300 + 2 ∧ t0 % 300 + 2 ≤ 301 := by omega
  have hb2 : 1 ≤ b0 % 16 + 1 ∧ b0 % 16 + 1 ≤ 16 := by omega
  have m0 : 0 ≤ t0.tmod 300 ∧ t0.tmod 300 < 300 := by omega
  have m1 : 0 ≤ b0.tmod 16 ∧ b0.tmod 16 < 16 := by omega
  go_enter Try.func6, Try.ntmps6
  go_wp2_with fail
  clear e0 e1 m0 m1
  generalize t0 % 300 + 2 = n at *
  generalize b0 % 16 + 1 = b at *
  refine (new_good w 2 400 (by omega) (by omega) (by omega) (by omega)).mono ?_
  rintro e w1 ⟨p, bb, rfl, hp, hbb, b1, d1⟩
  have HB1 := hid b1
  have HD1 := hid d1
  have hs1 := b1.size
  have hpl := d1.kp.lt
  have hbl := d1.kb.lt
  clear b1 d1
  go_wp2_with fail
  refine (new_any w1).mono ?_
  rintro e w2 ⟨rfl, b2, f2⟩
  have HB2 := hid (Below.on HB1.out b2)
  have HD2 := hid (HD1.out.below b2)
  have HF2 := hid f2
  have hs2 := b2.size
  have hfl := f2.lt
  clear b2 f2
  obtain ⟨f, hf⟩ : ∃ f, w1.heap.size = f := ⟨_, rfl⟩
  rw [hf] at HF2 hfl
  rw [hf]
  have hfg : w.heap.size ≤ f ∧ f ≠ p ∧ f ≠ bb := by omega
  clear hf
  go_wp2_with fail
  refine (few15_any la ln lc ds w2 (HDS.out.base HB2.out) hlm).mono ?_
  rintro e w3 ⟨rfl, b3⟩
  have HB3 := hid (Below.on HB2.out b3)
  have HD3 := hid (HD2.out.below b3)
  have HF3 := hid (HF2.out.below b3)
  have hs3 := b3.size
  clear b3
  by_cases hfew : fewP ln ds = true
  rotate_left
  · have hfv : fewP ln ds = false := by simpa using hfew
    rw [hfv]
    go_wp2_with fail
    refine (knows15 _).mono ?_
    rintro e w4 ⟨rfl, b4⟩
    have HB4 := hid (Below.on HB3.out b4)
    clear b4
    go_wp2_with fail
    go_returns
    exact ⟨rfl, HB4.out⟩
  obtain ⟨hl60, hdeeds⟩ := of_decide_eq_true hfew
  have HDE := hid hdeeds
  rw [hfew]
  clear hfew hdeeds
  go_wp2_with fail
  refine (sopens_fresh w3 f p bb _ n b HD3.out HF3.out hfg.2.1 hfg.2.2 (by omega) (by omega) [] (by simp)).mono ?_
  rintro e w4 ⟨s, q, rfl, hs, hq, hsz, b4, g4⟩
  have HB4 := hid (b4.below HB3.out (by omega) (by simp only [List.mem_cons, List.not_mem_nil, or_false, forall_eq_or_imp, forall_eq]; omega))
  have HS4 := hid (show St15 w w4 n b f p bb ⟨s, q, 1, 1, 0, 0, 0, 0, [], 0, putS 400 ((0 + 1) % 2) (slotB 400 (0 + 1) (stB (0 + 1) 0 0 0 0 [])) 400 zerosD⟩ [] [] [] (.slice none 0 0) (.slice none 0 0) 0 1 0 from ⟨HB4.out, Rows15.nil _ _, g4, Inv.start n b (by omega) (by omega) s q, by show _ ≤ s ∧ _ ≤ q ∧ _; omega⟩)
  clear b4 g4
  go_wp2_with fail
  go_loopw [12, 13, 14, 15, 16, 17] (fun sv _ iv av ov jv wr => ∃ (j op : Nat) (σ : Sg15) (U all : List Tri) (imgs : List (List Int)), j ≤ ln ∧ op ≤ j ∧ imgs.length ≤ j ∧ all.length ≤ j ∧ sv = .pointer (some ⟨σ.s, 0, none⟩) ∧ ov = .int .i64 op ∧ jv = .int .i64 j ∧ St15 w wr n b f p bb σ U all imgs iv av op (1 + 2 * j) (2 * j)) (fun _ _ _ _ _ jv _ => ln - (intOf jv).toNat)
  case atStart => exact ⟨0, 0, _, [], [], [], Nat.zero_le _, Nat.le_refl _, Nat.le_refl _, Nat.le_refl _, rfl, rfl, rfl, HS4.out⟩
  case round =>
    clear HS4 HB4 HF3 HD3 HB3 HB2 HD2 HF2 HB1 HD1
    obtain ⟨j, op, σ, U, all, imgs, hj, hop, him, hal, rfl, rfl, rfl, hst⟩ := hrel
    have HS := hid hst
    have hlo := hst.lo
    have hwr := hst.bel.size
    clear hst
    by_cases hlt : j < ln
    rotate_left
    · have hjI : ¬ (j : Int) < (ln : Int) := by omega
      go_wp2_with fail
      refine (knows15 _).mono ?_
      rintro e w11 ⟨rfl, b11⟩
      have HB11 := hid (Below.on HS.out.bel b11)
      clear b11
      go_wp2_with fail
      go_returns
      exact ⟨rfl, HB11.out⟩
    have hjI : (j : Int) < (ln : Int) := by omega
    obtain ⟨hdl, hdle, h0 | ⟨x, o, rfl, hx, hcell⟩⟩ := HDS.out
    · omega
    obtain ⟨ba, bc, ka, kc, hdd⟩ := hcell j hlt
    clear hcell
    obtain ⟨d, hE⟩ : ∃ d, ds.getD j z15 = d := ⟨_, rfl⟩
    rw [hE] at hdd
    have hdm : d ∈ ds := by
      rw [← hE, List.getD_eq_getElem?_getD, List.getElem?_eq_getElem (by omega)]
      exact List.getElem_mem _
    obtain ⟨hd3, hd4⟩ := HDE.out d hdm
    have HDD := hid hdd
    obtain ⟨what, k, m, ks⟩ := d
    have RG := hid (rangeAt_base15 hdd.cells hx HS.out.bel)
    clear hdd hE
    go_upto_block 2 with (first
      | (
        refine wpList_load_mid rfl 66 _ rfl x (o + j * 4) rfl _ _ RG.out Try.underlying66 rfl size_deed15 ?_)
      | (
        refine wpList_store_blk rfl 66 _ _ rfl wr.heap.size #[.int .i64 what, .slice ba m.length bc, .int .i64 k, .slice ka ks.length kc] rfl rfl _ 66 (Blk.new rfl #[.int .i64 0, .slice none 0 0, .int .i64 0, .slice none 0 0] _) 4 size_deed15 rfl rfl (by simp [Value.oneCell']) ?_
        intro wv hbv hkv
        have Hv := hid (hbv.below ((Below.refl wr.heap.size wr).alloc (Nat.le_refl _) _) (by simp only [World.size_alloc]; omega) (Nat.le_refl _))
        have Kv := hid hkv
        have hsv := Hv.out.size
        have hlv := hkv.lt
        have cv0 : wv.cell? ⟨wr.heap.size, 0, none⟩ = some (.int .i64 what) := by rw [Kv.out.cell]; rfl
        clear hbv hkv))
    obtain ⟨yb, hYB⟩ : ∃ yb, wr.heap.size = yb := ⟨_, rfl⟩
    rw [hYB] at Kv cv0 hlv ⊢
    have HSv := hid (HS.out.below Hv.out)
    have hLT := hid (SoAt.lts HS.out.sg)
    have hxb := hid HSv.out.rows.at_
    have hltv := hLT.out
    have HTX := hid (HDD.out.text.base HSv.out.bel (S := [p, bb, σ.q, f, σ.s]) (by simp only [List.mem_cons, List.not_mem_nil, or_false, forall_eq_or_imp, forall_eq]; omega))
    have HIN := hid (HDD.out.ints.base HSv.out.bel (S := xs15 u14 u15 ++ [p, bb, σ.q, f, σ.s]) (fun c hc => by
      rcases List.mem_append.1 hc with hc | hc
      · exact (hxb.out c hc).1
      · simp only [List.mem_cons, List.not_mem_nil, or_false] at hc; omega))
    go_cut [14, 19, 20, 21] from 78 to 81 (fun iv kv at_ hv wx => ∃ (imgs' : List (List Int)) (h : Int), hv = .int .i64 h ∧ imgs'.length ≤ j + 1 ∧ Ac15 w wx n b f p bb σ.s σ.q all imgs' iv u15 op (1 + 2 * j + 1) (2 * j + 1) m kv at_ hv ∧ Blk wx yb #[.int .i64 what, .slice ba m.length bc, .int .i64 k, .slice ka ks.length kc] 66)
    case first =>
      have cv1 : wv.cell? ⟨yb, 1, none⟩ = some (.slice ba m.length bc) := by rw [Kv.out.cell]; rfl
      have cv2 : wv.cell? ⟨yb, 2, none⟩ = some (.int .i64 k) := by rw [Kv.out.cell]; rfl
      have cv3 : wv.cell? ⟨yb, 3, none⟩ = some (.slice ka ks.length kc) := by rw [Kv.out.cell]; rfl
      by_cases q0 : what = 0
      · obtain rfl := q0
        go_wp2_with fail
        refine (deal_inv wv n b f p bb σ U (1 + 2 * j) all imgs op (2 * j) (xs15 u14 u15) HSv.out.sg HSv.out.inv (by omega) (by omega) ba m.length bc m HTX.out).mono ?_
        rintro e wA ⟨kv, at_, hv, rfl, hbA, hA⟩
        have HA := hid (show Ac15 w wA n b f p bb σ.s σ.q all imgs u14 u15 op (1 + 2 * j + 1) (2 * j + 1) m kv at_ hv from ⟨hbA.below HSv.out.bel HSv.out.bel.size (by simp only [List.mem_cons, List.not_mem_nil, or_false, forall_eq_or_imp, forall_eq]; omega), HSv.out.rows.in_ hbA HSv.out.sg.kinds, hA, hlo⟩)
        have KA := hid (hbA.blk Kv.out (by simp only [List.mem_cons, List.not_mem_nil, or_false]; omega))
        clear hbA hA cv0 cv1 cv2 cv3
        go_wp2_with fail
        go_meet
        case rel => exact ⟨imgs, _, HA.out.act.code.choose_spec, by omega, HA.out, KA.out⟩
      by_cases q1 : what = 1
      · obtain rfl := q1
        go_wp2_with fail
        refine (roll_inv wv n b f p bb σ U (1 + 2 * j) all imgs op (2 * j) (xs15 u14 u15) HSv.out.sg HSv.out.inv (by omega) (by omega) (by omega) ba m.length bc m HTX.out).mono ?_
        rintro e wA ⟨kv, at_, hv, rfl, hbA, hA⟩
        have HA := hid (show Ac15 w wA n b f p bb σ.s σ.q all imgs u14 u15 op (1 + 2 * j + 1) (2 * j + 1) m kv at_ hv from ⟨hbA.below HSv.out.bel HSv.out.bel.size (by simp only [List.mem_cons, List.not_mem_nil, or_false, forall_eq_or_imp, forall_eq]; omega), HSv.out.rows.in_ hbA HSv.out.sg.kinds, hA, hlo⟩)
        have KA := hid (hbA.blk Kv.out (by simp only [List.mem_cons, List.not_mem_nil, or_false]; omega))
        clear hbA hA cv0 cv1 cv2 cv3
        go_wp2_with fail
        go_meet
        case rel => exact ⟨imgs, _, HA.out.act.code.choose_spec, by omega, HA.out, KA.out⟩
      by_cases q2 : what = 2
      · obtain rfl := q2
        go_wp2_with fail
        obtain ⟨set, af, kv, hdk, hfa⟩ := SoAt.dk HSv.out.sg
        refine (fail_all wv (xs15 u14 u15 ++ [p, bb, σ.q, f, σ.s]) p bb 400 2 σ.B _ true set af kv hdk k (by have := HDD.out.num; exact this.2) ka kc ks (by simp) (fun c hc => by
          rcases List.mem_append.1 hc with hc | hc
          · exact (hxb.out c hc).2
          · simp only [List.mem_cons, List.not_mem_nil, or_false] at hc; omega) HIN.out (by omega) HDD.out.none_ HDD.out.wide).mono ?_
        rintro e wA ⟨rfl, hbA, set', af', kv', hdk', hfa'⟩
        have hbS := ButIn.of_but (S := [p]) hbA (by simp)
        have HA := hid (show Ac15 w wA n b f p bb σ.s σ.q all imgs u14 u15 op (1 + 2 * j + 1) (2 * j + 1) m (.int .i64 0) (.int .i64 0) (.int .i64 1) from ⟨hbS.below HSv.out.bel HSv.out.bel.size (by simp only [List.mem_cons, List.not_mem_nil, or_false, forall_eq]; omega), HSv.out.rows.in_ (S := [p, bb, σ.q, f, σ.s]) (ButIn.of_but hbA (by simp)) HSv.out.sg.kinds, .inr (.inl ⟨1, U, σ, rfl, by omega, by omega, rfl, rfl, SgW.fail HSv.out.sg hbA hdk' hfa', HSv.out.inv.mono (by omega) (by omega)⟩), hlo⟩)
        have KA := hid (hbA.blk Kv.out (by omega))
        clear hbA hbS cv0 cv1 cv2 cv3 hdk hfa hdk' hfa'
        go_wp2_with fail
        go_meet
        case rel => exact ⟨imgs, _, HA.out.act.code.choose_spec, by omega, HA.out, KA.out⟩
      by_cases q4 : what = 4
      · obtain rfl := q4
        obtain ⟨set, af, kv, hdk, hfa⟩ := SoAt.dk HSv.out.sg
        have HDK := hid hdk
        clear hdk hfa
        go_wp2_with fail
        refine (image_any wv p bb 400 2 σ.B _ true set af kv HDK.out).mono ?_
        rintro e wB ⟨ia, ic, rfl, hbB, htB⟩
        have hcv := htB.string (src := 31) (dst := 9) Try.underlying31 Try.underlying5 Try.underlying9
        have HSB := hid (HSv.out.below hbB)
        have KB := hid (Kv.out.below hbB)
        have hsB := hbB.size
        have KIm := hid (Blk.new (w := wB) (n := wB.heap.size) rfl #[strV σ.B] 9)
        have HSC := hid (HSB.out.below ((Below.refl wB.heap.size wB).alloc (Nat.le_refl _) (.cells #[strV σ.B] 9 (0, 0))))
        have KC := hid (KB.out.below ((Below.refl wB.heap.size wB).alloc (Nat.le_refl _) (.cells #[strV σ.B] 9 (0, 0))))
        have hszC : (wB.alloc (.cells #[strV σ.B] 9 (0, 0))).heap.size = wB.heap.size + 1 := by simp only [World.size_alloc]
        obtain ⟨ti, hti, htz, hts, htb⟩ := info_rstr
        clear hbB htB
        go_wp2_with (at_builtin; refine wpList_append_u rfl _ _ rfl Try.underlying63 hti htz rfl hts htb (by omega) rfl HSC.out.rows.im rfl KIm.out rfl (by omega) HSC.out.bel.size ?_)
        intro iv' wD hownD hbutD hatD
        have hRD : Rows15 wD w.heap.size iv' u15 (imgs ++ [σ.B]) all := ⟨by simpa using hownD, owns_in HSC.out.rows.al hbutD (fun c hc hm => owns_two HSC.out.rows.im HSC.out.rows.al (by decide) c hc (by simpa using hm)), fun B hB => by
          rcases List.mem_append.1 hB with hB | hB
          · exact HSC.out.rows.sm B hB
          · rw [List.mem_singleton.1 hB]
            exact HDK.out.small⟩
        have hSD := HSC.out.sg.grow (X' := xs15 iv' u15) hbutD (fun c hc => ⟨List.mem_append_left _ hc, fun hm => by
          obtain ⟨cs, T, k1, k2, -⟩ := HSC.out.sg.kinds c hm
          exact owns_ne k1 HSC.out.rows.im k2 c (by simpa using hc) rfl⟩) (fun c hc => by
          rcases List.mem_append.1 hc with hc | hc
          · rcases hatD with e | e
            · exact .inl (List.mem_append_left _ (e ▸ hc))
            · rw [e] at hc
              exact .inr (by rw [Option.toList_some, List.mem_singleton] at hc; omega)
          · exact .inl (List.mem_append_right _ hc)) (fun c hc => (hRD.at_ c hc).2)
        have HA := hid (show Ac15 w wD n b f p bb σ.s σ.q all (imgs ++ [σ.B]) iv' u15 op (1 + 2 * j + 1) (2 * j + 1) m (.int .i64 0) (.int .i64 0) (.int .i64 1) from ⟨hbutD.below HSC.out.bel HSC.out.bel.size (fun c hc => (owns_at HSC.out.rows.im c hc).1), hRD, .inr (.inl ⟨1, U, σ, rfl, by omega, by omega, rfl, rfl, hSD, (HSv.out.inv.image).mono (by omega) (by omega)⟩), hlo⟩)
        have KA := hid (hbutD.blk KC.out (fun hm => owns_ne KC.out HSC.out.rows.im (by decide) yb (by simpa using hm) rfl))
        clear hownD hbutD hRD hSD cv0 cv1 cv2 cv3
        go_wp2_with fail
        go_meet
        case rel => exact ⟨imgs ++ [σ.B], _, rfl, by rw [List.length_append, List.length_singleton]; omega, HA.out, KA.out⟩
      go_wp2_with fail
      go_meet
      case rel => exact ⟨imgs, _, rfl, by omega, ⟨HSv.out.bel, HSv.out.rows, .inr (.inl ⟨1, U, σ, rfl, by omega, by omega, rfl, rfl, HSv.out.sg, HSv.out.inv.mono (by omega) (by omega)⟩), hlo⟩, Kv.out⟩
    case rest =>
      obtain ⟨imgs', hh, rfl, him', hac, hyb⟩ := hcut
      have HAc := hid hac
      have HY := hid hyb
      have hlw := HAc.out.bel.size
      clear hac hyb HSv HTX HIN hxb hLT cv0
      go_upto_if 118 with fail
      go_cut [15] from 117 to 119 (fun av wx => ∃ (all' : List Tri), all'.length ≤ j + 1 ∧ Md15 w wx n b f p bb σ.s σ.q all' imgs' u14 av op (1 + 2 * j + 1) (2 * j + 1) (.int .i64 hh) ∧ Blk wx yb #[.int .i64 what, .slice ba m.length bc, .int .i64 k, .slice ka ks.length kc] 66)
      case first =>
        rcases HAc.out.act with ⟨hv, kk, aa, U', σ', hk, ha, hs', hq', hsg', htd'⟩ | hac | hac
        rotate_left
        · obtain ⟨h', U', σ', hv, hn0, hn9, hs', hq', hsg', hin'⟩ := hac
          injection hv with _ hv
          subst hv
          go_wp2_with fail
          go_meet
          case rel => exact ⟨all, by omega, ⟨HAc.out.bel, HAc.out.rows, .inl ⟨hh, U', σ', rfl, hn9, hs', hq', hsg', hin'⟩, HAc.out.lo⟩, HY.out⟩
        · obtain ⟨hv, U', G', K', R', B', hoff, hof'⟩ := hac
          injection hv with _ hv
          subst hv
          go_wp2_with fail
          go_meet
          case rel => exact ⟨all, by omega, ⟨HAc.out.bel, HAc.out.rows, .inr ⟨rfl, U', G', K', R', B', hoff, hof'⟩, HAc.out.lo⟩, HY.out⟩
        injection hv with _ hv
        subst hv hk ha
        have HSG := hid hsg'
        have HTD := hid htd'
        clear hsg' htd'
        obtain ⟨h1, h2, h3, -⟩ := HTD.out.core.rg _ HTD.out.mem
        have h1 : ¬ kk < 0 := by have : 0 ≤ kk := h1; omega
        have h2 : ¬ aa < 0 := by have : 0 ≤ aa := h2; omega
        have h3 : ¬ n ≤ aa := by have : aa < n := h3; omega
        go_upto_block 3 with fail
        obtain ⟨aa0, ac, hav⟩ := owns_sliceM HAc.out.rows.al
        subst hav
        have HRW := hid HAc.out.rows
        have HLO := hid HAc.out.lo
        have HBE := hid HAc.out.bel
        clear HAc
        go_wp2_with fail
        go_loopw [22, 23] (fun ov iv wi => ∃ i : Nat, i ≤ all.length ∧ ov = .bool (hasK kk aa (all.take i)) ∧ iv = .int .i64 i ∧ Below wc.heap.size wc wi) (fun _ iv _ => all.length - (intOf iv).toNat)
        case atStart => exact ⟨0, Nat.zero_le _, rfl, rfl, Below.refl _ _⟩
        case round =>
          obtain ⟨i, hi, rfl, rfl, hbi⟩ := hrel

          have HBI := hid hbi
          clear hbi
          by_cases hli : i < all.length
          · have hliI : (i : Int) < (all.length : Int) := by omega
            obtain ⟨g, cap, hq, hgl, k0, k1, k2⟩ := HRW.out.tri i hli
            cases hq
            have k0 := (HBI.out.cell (p := ⟨g, 0 + i * 3, none⟩) hgl).trans k0
            have k1 := (HBI.out.cell (p := ⟨g, 0 + i * 3 + 1, none⟩) hgl).trans k1
            have k2 := (HBI.out.cell (p := ⟨g, 0 + i * 3 + 2, none⟩) hgl).trans k2
            obtain ⟨t, hte⟩ : ∃ t, all[i] = t := ⟨_, rfl⟩
            rw [hte] at k0 k1 k2
            rw [Nat.zero_add] at k0 k1 k2
            have htm : t ∈ all := hte ▸ List.getElem_mem _
            have hsame := hid (HTD.out.same t htm)
            have hstep : hasK kk aa (all.take (i + 1)) = (hasK kk aa (all.take i) || (decide (t.key = kk) && decide (t.index = aa))) := by
              rw [List.take_succ_eq_append_getElem hli, hte, hasK_append, hasK_one]
            have HSTEP := hid hstep
            have cy1 : wr.cell? ⟨yb, 1, none⟩ = some (.slice ba m.length bc) := by rw [(HY.out.below HBI.out).cell]; rfl
            clear hstep hte htm
            obtain ⟨tk, ti, tm⟩ := t
            have k0 : wr.cell? ⟨g, i * 3, none⟩ = some (.int .i64 tk) := k0
            have k1 : wr.cell? ⟨g, i * 3 + 1, none⟩ = some (.int .i64 ti) := k1
            have k2 : wr.cell? ⟨g, i * 3 + 2, none⟩ = some (strV tm) := k2
            by_cases e1 : tk = kk
            · by_cases e2 : ti = aa
              · have e3 : tm = m := hsame.out e1 e2
                have hold : hasK kk aa (all.take (i + 1)) = true := by rw [HSTEP.out]; simp [e1, e2]
                have Hold := hid hold
                clear hold
                rw [e3] at k2
                clear e3
                have HMT := hid (HDD.out.text.below (Below.on HBE.out HBI.out))
                go_upto_region 36 with fail
                refine wp_region_flow 9 (List.range 9) [] [] (by kernel_rfl) (by kernel_rfl) ?_
                apply Exists.intro
                refine ⟨fun w0 hb0 hF0 => ?_, ?_⟩
                · skip
                  have y1 : ∀ w', (∃ x : Ext w0, w' = x.at_) → w'.cell? ⟨g, i * 3 + 2, none⟩ = some (strV m) := fun w' ⟨x, hx⟩ => by rw [hx, (Below.on hb0 x.same).cell (p := ⟨g, i * 3 + 2, none⟩) (by show g < _; have := HBI.out.size; omega)]; exact k2
                  have y2 : ∀ w', (∃ x : Ext w0, w' = x.at_) → w'.cell? ⟨yb, 1, none⟩ = some (.slice ba m.length bc) := fun w' ⟨x, hx⟩ => by rw [hx, (((HY.out.below HBI.out).below hb0).below x.same).cell]; rfl
                  have v0 := conv_str (HMT.out.below hb0)
                  simp only [pick, List.range, List.range.loop, List.getElem?_toArray, List.getElem?_cons_succ, List.getElem?_cons_zero, Option.toList_some, List.cons_append, List.nil_append]
                  repeat go_big_quiet_step (fail)
                  (go_big_quiet_want; refine quiet_load_one 9 _ rfl ⟨g, i * 3 + 2, none⟩ rfl _ y1 _ Try.underlying9 rfl ?_; go_big_quiet_on; simp only [Act.put, List.setIfInBounds_toArray, List.set_cons_zero, List.set_cons_succ])
                  repeat go_big_quiet_step (fail)
                  (go_big_quiet_want; refine quiet_load_one 31 _ rfl ⟨yb, 1, none⟩ rfl _ y2 _ Try.underlying31 rfl ?_; go_big_quiet_on; simp only [Act.put, List.setIfInBounds_toArray, List.set_cons_zero, List.set_cons_succ])
                  repeat go_big_quiet_step (fail)
                  (go_big_quiet_want; refine quiet_str_add _ _ rfl (strOfNums m) (strOfNums m) (.bool false) rfl rfl (fun W => run_str_ne _ W) ?_; go_big_quiet_on; simp only [Act.put, List.setIfInBounds_toArray, List.set_cons_zero, List.set_cons_succ])
                  repeat go_big_quiet_step (fail)
                  exact wpQuiet_nil rfl
                refine AlChk.nil ?_
                refine Walk.fin fun wz hz _ _ => ?_
                simp only [List.drop_succ_cons, List.drop_zero]
                have HZ := hid hz
                clear hz
                go_wp2_with fail
                exact ⟨⟨i + 1, by omega, by rw [Hold.out], by first | rfl | simp, Below.on HBI.out HZ.out⟩, by simp [intOf]; omega⟩
              · have b2 : (ti == aa) = false := by simp [e2]
                have hold : hasK kk aa (all.take (i + 1)) = hasK kk aa (all.take i) := by rw [HSTEP.out]; simp [e2]
                have Hold := hid hold
                clear hold
                go_wp2_with fail
                exact ⟨⟨i + 1, by omega, by rw [Hold.out], by first | rfl | simp, HBI.out⟩, by simp [intOf]; omega⟩
            · have b1 : (tk == kk) = false := by simp [e1]
              have hold : hasK kk aa (all.take (i + 1)) = hasK kk aa (all.take i) := by rw [HSTEP.out]; simp [e1]
              have Hold := hid hold
              clear hold
              go_wp2_with fail
              exact ⟨⟨i + 1, by omega, by rw [Hold.out], by first | rfl | simp, HBI.out⟩, by simp [intOf]; omega⟩
          · have hliI : ¬ (i : Int) < (all.length : Int) := by omega
            rw [List.take_of_length_le (by omega)]
            have HSI := hid (HSG.out.below HBI.out)
            have HRI := hid (HRW.out.below HBI.out)
            have HYI := hid (HY.out.below HBI.out)
            by_cases hold : hasK kk aa all = true
            · have Hold := hid (hasK_mem hold)
              rw [hold]
              clear hold
              go_wp2_with fail
              go_meet
              case rel => exact ⟨all, by omega, ⟨Below.on HBE.out HBI.out, HRI.out, .inl ⟨0, U', σ', rfl, by omega, hs', hq', HSI.out, HTD.out.old Hold.out⟩, HLO.out⟩, HYI.out⟩
            · rw [show hasK kk aa all = false from by simpa using hold]
              clear hold
              have hcm := (HDD.out.text.below (Below.on HBE.out HBI.out)).string (src := 31) (dst := 9) Try.underlying31 Try.underlying5 Try.underlying9
              have cy1 : wr.cell? ⟨yb, 1, none⟩ = some (.slice ba m.length bc) := by rw [HYI.out.cell]; rfl
              have HBG := hid (fun W : World => build_got kk aa (strOfNums m) W)
              have KT := hid (Blk.new (w := wr) (n := wr.heap.size) rfl (triC ⟨kk, aa, m⟩).toArray 70)
              have BT := hid ((Below.refl wr.heap.size wr).alloc (Nat.le_refl _) (.cells (triC ⟨kk, aa, m⟩).toArray 70 (0, 0)))
              have hszT : (wr.alloc (.cells (triC ⟨kk, aa, m⟩).toArray 70 (0, 0))).heap.size = wr.heap.size + 1 := by simp only [World.size_alloc]
              have HST := hid (HSI.out.below BT.out)
              have HRT := hid (HRI.out.below BT.out)
              have HYT := hid (HYI.out.below BT.out)
              have hNT : w.heap.size ≤ (wr.alloc (.cells (triC ⟨kk, aa, m⟩).toArray 70 (0, 0))).heap.size := by have := (Below.on HBE.out HBI.out).size; omega
              go_wp2_with (first
                | (refine wpList_buildv rfl 70 _ rfl [(0, .int .i64 kk), (1, .int .i64 aa), (2, .string (strOfNums m))] rfl _ HBG.out ?_)
                | (at_builtin; refine wpList_append_got rfl _ _ rfl rfl HRT.out.al rfl KT.out (by omega) hNT ?_))
              intro av' wD hownD hbutD hatD
              have hRD : Rows15 wD w.heap.size u14 av' imgs' (all ++ [⟨kk, aa, m⟩]) := ⟨owns_in HRT.out.im hbutD (fun c hc hm => owns_two HRT.out.al HRT.out.im (by decide) c hc (by simpa using hm)), by rw [← triCs_append, List.length_append]; exact hownD, HRT.out.sm⟩
              have hSD := HST.out.grow (X' := xs15 u14 av') hbutD (fun c hc => ⟨List.mem_append_right _ hc, fun hm => by
                obtain ⟨cs, T, k1, -, k2⟩ := HST.out.kinds c hm
                exact owns_ne k1 HRT.out.al k2 c (by simpa using hc) rfl⟩) (fun c hc => by
                rcases List.mem_append.1 hc with hc | hc
                · exact .inl (List.mem_append_left _ hc)
                · rcases hatD with e | e
                  · exact .inl (List.mem_append_right _ (e ▸ hc))
                  · rw [e] at hc
                    exact .inr (by rw [Option.toList_some, List.mem_singleton] at hc; omega)) (fun c hc => (hRD.at_ c hc).2)
              have HRD := hid hRD
              have HSD := hid hSD
              have HBD := hid (hbutD.below (Below.on (Below.on HBE.out HBI.out) BT.out) hNT (fun c hc => (owns_at HRT.out.al c hc).1))
              have HYD := hid (hbutD.blk HYT.out (fun hm => owns_ne HYT.out HRT.out.al (by decide) yb (by simpa using hm) rfl))
              clear hownD hbutD hatD hRD hSD
              go_wp2_with fail
              go_meet
              case rel => exact ⟨all ++ [⟨kk, aa, m⟩], by rw [List.length_append, List.length_singleton]; omega, ⟨HBD.out, HRD.out, .inl ⟨0, U', σ', rfl, by omega, hs', hq', HSD.out, HTD.out.new⟩, HLO.out⟩, HYD.out⟩
      case rest =>
        obtain ⟨all', hal', hmd, hyb⟩ := hcut
        have HMd := hid hmd
        have HY := hid hyb
        have hlw := HMd.out.bel.size
        clear hmd hyb
        go_upto_region 40 with fail
        go_cut [183] from 172 to 172 (fun cv wx => cv = .bool (decide (what = 3 ∨ what = 5 ∨ hh = 9)) ∧ wx = wc)
        case first =>
          have cy0 : wc.cell? ⟨yb, 0, none⟩ = some (.int .i64 what) := by rw [HY.out.cell]; rfl
          rcases q3 : (what == 3) with _ | _
          rotate_left
          · have hv : decide (what = 3 ∨ what = 5 ∨ hh = 9) = true := decide_eq_true (.inl (by simpa using q3))
            have HV := hid hv
            clear hv
            go_wp2_with fail
            go_meet
            case rel => exact ⟨by rw [HV.out], rfl⟩
          rcases q5 : (what == 5) with _ | _
          rotate_left
          · have hv : decide (what = 3 ∨ what = 5 ∨ hh = 9) = true := decide_eq_true (.inr (.inl (by simpa using q5)))
            have HV := hid hv
            clear hv
            go_wp2_with fail
            go_meet
            case rel => exact ⟨by rw [HV.out], rfl⟩
          rcases q9 : (hh == 9) with _ | _
          rotate_left
          · have hv : decide (what = 3 ∨ what = 5 ∨ hh = 9) = true := decide_eq_true (.inr (.inr (by simpa using q9)))
            have HV := hid hv
            clear hv
            go_wp2_with fail
            go_meet
            case rel => exact ⟨by rw [HV.out], rfl⟩
          have hv : decide (what = 3 ∨ what = 5 ∨ hh = 9) = false := decide_eq_false (by
            rintro (h | h | h)
            · rw [h] at q3; exact absurd q3 (by decide)
            · rw [h] at q5; exact absurd q5 (by decide)
            · rw [h] at q9; exact absurd q9 (by decide))
          have HV := hid hv
          clear hv
          go_wp2_with fail
          go_meet
          case rel => exact ⟨by rw [HV.out], rfl⟩
        case rest =>
          obtain ⟨rfl, rfl⟩ := hcut
          go_upto_if 183 with fail
          go_cut [12, 13, 16] from 183 to 184 (fun sv gv ov wx => ∃ (op' : Nat) (σ' : Sg15) (U' : List Tri), op' ≤ j + 1 ∧ sv = .pointer (some ⟨σ'.s, 0, none⟩) ∧ ov = .int .i64 op' ∧ St15 w wx n b f p bb σ' U' all' imgs' u14 u15 op' (1 + 2 * (j + 1)) (2 * (j + 1)))
          case first =>
            by_cases hc : what = 3 ∨ what = 5 ∨ hh = 9
            rotate_left
            · have h9 : hh ≠ 9 := fun h => hc (.inr (.inr h))
              rw [decide_eq_false hc]
              clear hc
              go_wp2_with fail
              rcases HMd.out.st with ⟨h', U', σ', hv, hn9, hs', hq', hsg', hin'⟩ | ⟨hv, -⟩
              · go_meet
                case rel => exact ⟨op, σ', U', by omega, by rw [hs'], rfl, ⟨HMd.out.bel, HMd.out.rows, hsg', hin'.mono (by omega) (by omega), by rw [hs', hq']; exact HMd.out.lo⟩⟩
              · injection hv with _ hv
                exact absurd hv h9
            rw [decide_eq_true hc]
            clear hc
            obtain ⟨U', G', K', R', B', on', hrd⟩ : ∃ U' G' K' R' B' on', Rdy15 wc n b f p bb U' G' K' R' B' on' (1 + 2 * j + 1) all' imgs' op (2 * j + 1) := by
              rcases HMd.out.st with ⟨h', U', σ', hv, hn9, hs', hq', hsg', hin'⟩ | ⟨hv, U', G', K', R', B', hoff, hof'⟩
              · obtain ⟨set, af, kv, h5, -⟩ := SoAt.dk hsg'
                exact ⟨U', σ'.g, σ'.k, σ'.r, σ'.B, true, SoAt.fe hsg', ⟨set, af, kv, h5⟩, hin'.off (by omega) (.inl rfl)⟩
              · exact ⟨U', G', K', R', B', false, hoff.fe, hoff.dk, hof'⟩
            have HRW := hid HMd.out.rows
            have HLO := hid HMd.out.lo
            have HBE := hid HMd.out.bel
            have hlo' := HLO.out
            clear HMd
            obtain ⟨ia, ic, hiv⟩ := owns_sliceM HRW.out.im
            subst hiv
            have HK := hid hrd.kinds
            have HFE := hid hrd.fe
            have HOF := hid hrd.off
            obtain ⟨set, af, kv, hdk⟩ := hrd.dk
            have HDK := hid hdk
            clear hdk hrd
            have cy0 : wc.cell? ⟨yb, 0, none⟩ = some (.int .i64 what) := by rw [HY.out.cell]; rfl
            have cy3 : wc.cell? ⟨yb, 3, none⟩ = some (.slice ka ks.length kc) := by rw [HY.out.cell]; rfl
            have HIN := hid (HDD.out.ints.base HBE.out (S := [p, bb]) (by simp only [List.mem_cons, List.not_mem_nil, or_false, forall_eq_or_imp, forall_eq]; omega))
            have hny : yb ≠ p ∧ yb ≠ bb ∧ yb ≠ f := by omega
            go_wp2_with fail
            refine (crash_all wc p bb 400 2 B' on' set af kv ka kc ks HIN.out HDD.out.wide HDK.out).mono ?_
            rintro e wC ⟨rfl, bC, dC⟩
            have HBC := hid (bC.below HBE.out HBE.out.size (by simp only [List.mem_cons, List.not_mem_nil, or_false, forall_eq_or_imp, forall_eq]; omega))
            have HYC := hid (bC.blk HY.out (by simp only [List.mem_cons, List.not_mem_nil, or_false]; omega))
            have HRC := hid (HRW.out.in_ bC (fun c hc => HK.out c (by simp only [List.mem_cons, List.not_mem_nil, or_false] at hc ⊢; omega)))
            have HFC := hid (bC.blk HFE.out (by simp only [List.mem_cons, List.not_mem_nil, or_false]; omega))
            have HDC := hid dC
            have hsC := bC.size
            clear bC dC cy0 cy3 HIN
            go_upto_region 42 with fail
            go_cut [213] from 188 to 188 (fun cv wx => cv = .bool false ∧ ∃ B2, Rdy15 wx n b f p bb U' G' K' R' B2 false (1 + 2 * j + 1) all' imgs' op (2 * j + 1) ∧ Rows15 wx w.heap.size (.slice ia imgs'.length ic) u15 imgs' all' ∧ Below w.heap.size w wx)
            case first =>
              have cy0 : wC.cell? ⟨yb, 0, none⟩ = some (.int .i64 what) := by rw [HYC.out.cell]; rfl
              have cy2 : wC.cell? ⟨yb, 2, none⟩ = some (.int .i64 k) := by rw [HYC.out.cell]; rfl
              have hstay : Rdy15 wC n b f p bb U' G' K' R' B' false (1 + 2 * j + 1) all' imgs' op (2 * j + 1) := ⟨HFC.out, ⟨_, _, _, HDC.out⟩, HOF.out⟩
              have HST := hid hstay
              clear hstay
              by_cases q5 : what = 5
              rotate_left
              · have b5 : (what == 5) = false := by simp [q5]
                go_wp2_with fail
                go_meet
                case rel => exact ⟨rfl, B', HST.out, HRC.out, HBC.out⟩
              by_cases qk : k < 0
              · have qk' : ¬ 0 ≤ k := by omega
                go_wp2_with fail
                go_meet
                case rel => exact ⟨rfl, B', HST.out, HRC.out, HBC.out⟩
              by_cases ql : (imgs'.length : Int) ≤ k
              · have ql' : ¬ k < (imgs'.length : Int) := by omega
                go_wp2_with fail
                go_meet
                case rel => exact ⟨rfl, B', HST.out, HRC.out, HBC.out⟩
              obtain ⟨kn, rfl⟩ : ∃ kn : Nat, k = kn := ⟨k.toNat, by omega⟩
              have hkn : kn < imgs'.length := by omega
              have hkI : (kn : Int) < (imgs'.length : Int) := by omega
              obtain ⟨g, cap, hq, hgl, k0⟩ := HRC.out.img kn hkn
              cases hq
              rw [Nat.zero_add] at k0
              change wC.cell? ⟨g, kn, none⟩ = some (.string (strOfNums imgs'[kn])) at k0
              obtain ⟨B2, hB2⟩ : ∃ B2, imgs'[kn] = B2 := ⟨_, rfl⟩
              rw [hB2] at k0
              have hBm : B2 ∈ imgs' := hB2 ▸ List.getElem_mem _
              have hBs := HRC.out.sm B2 hBm
              have HBO := hid (HOF.out.img hBm)
              have hBl : B2.length = 2 * 400 := by
                obtain ⟨_, _, _, _, _, _, _, _, _, hkp, -⟩ := HBO.out.fo
                exact hkp.length
              clear hB2
              obtain ⟨cc, wV, hcb, bV, tV⟩ := conv_bytes wC B2 hBs (by omega)
              have HDV := hid (HDC.out.below bV)
              have HBV := hid (Below.on HBC.out bV)
              have HFV := hid (HFC.out.below bV)
              have HRV := hid (HRC.out.below bV)
              have HTV := hid tV
              have Hbl := hid hBl
              have hsV := bV.size
              clear bV tV hBl hBs hBm
              go_wp2_with fail
              refine (restore_ok wV p bb 400 2 B2.length B' _ _ _ _ _ HDV.out Hbl.out _ cc B2 HTV.out).mono ?_
              rintro e wR ⟨rfl, bR, dR⟩
              have HDR := hid dR
              have HBR := hid (bR.below HBV.out HBV.out.size (by simp only [List.mem_cons, List.not_mem_nil, or_false, forall_eq_or_imp, forall_eq]; omega))
              have HFR := hid (bR.blk HFV.out (by simp only [List.mem_cons, List.not_mem_nil, or_false]; omega))
              have HRR := hid (HRV.out.in_ bR (fun c hc => by
                simp only [List.mem_cons, List.not_mem_nil, or_false] at hc
                rcases hc with rfl | rfl
                · exact ⟨_, _, HDV.out.kp, by decide, by decide⟩
                · exact ⟨_, _, HDV.out.kb, by decide, by decide⟩))
              clear bR dR
              go_wp2_with fail
              go_meet
              case rel => exact ⟨rfl, B2, ⟨HFR.out, ⟨_, _, _, HDR.out⟩, HBO.out⟩, HRR.out, HBR.out⟩
            case rest =>
              obtain ⟨rfl, B2, hrd, hrr, hbb2⟩ := hcut
              have HRd := hid hrd
              have HRr := hid hrr
              have HBb := hid hbb2
              have hsz2 := hbb2.size
              obtain ⟨set2, af2, kv2, hdk2⟩ := hrd.dk
              have HD2 := hid hdk2
              clear hrd hrr hbb2 hdk2 HDC HFC HRC HYC HBC HRW HBE
              go_wp2_with fail
              refine (boot_any wc p bb 400 2 B2 _ _ _ _ _ HD2.out).mono ?_
              rintro e wB ⟨rfl, bB, dB⟩
              have HBB := hid ((ButIn.of_but (S := [p]) bB (by simp)).below HBb.out HBb.out.size (by simp only [List.mem_cons, List.not_mem_nil, or_false, forall_eq]; omega))
              have HFB := hid (bB.blk HRd.out.fe (by omega))
              have HRB := hid (HRr.out.in_ (ButIn.of_but (S := [p]) bB (by simp)) (fun c hc => HRd.out.kinds c (by simp only [List.mem_cons, List.not_mem_nil, or_false] at hc ⊢; omega)))
              have HDB := hid dB
              have hszB := HBB.out.size
              have HOF2 := hid HRd.out.off
              clear bB dB HRd HRr
              obtain ⟨T, g, kk, r, ik, ii, mm, hO, hT1, hT2, hml, hg, hr, hl, hi, hinv⟩ := HOF2.out.again (by omega)
              have HINV := hid hinv
              have HOO := hid hO
              have hbG := HOF2.out.core.bG
              have hbK := HOF2.out.core.bK
              have hbR := HOF2.out.core.bR
              clear hinv hO HOF2 HOF
              go_wp2_with fail
              refine (sopens_state wB f p bb T B2 0 _ G' K' R' g kk r ik ii mm n b HDB.out HFB.out (by omega) (by omega) (by omega) (by omega) HOO.out hT1 (by omega) hml hg (by omega) hl (by omega) (by omega) (by omega) (by omega) (by omega) (xs15 (.slice ia imgs'.length ic) u15) (fun c hc => (HRB.out.at_ c hc).2)).mono ?_
              rintro e wO ⟨s2, q2, rfl, hs2', hq2', hszO, bO, gO⟩
              have HBO := hid (bO.below HBB.out HBB.out.size (by simp only [List.mem_cons, List.not_mem_nil, or_false, forall_eq_or_imp, forall_eq]; omega))
              have HRO := hid (HRB.out.in_ bO (fun c hc => by
                simp only [List.mem_cons, List.not_mem_nil, or_false] at hc
                rcases hc with rfl | rfl | rfl
                · exact ⟨_, _, HDB.out.kp, by decide, by decide⟩
                · exact ⟨_, _, HDB.out.kb, by decide, by decide⟩
                · exact ⟨_, _, HFB.out, by decide, by decide⟩))
              have HSO := hid (show SgW wO f p bb ⟨s2, q2, T + 1, G' + 1, K', R', ik, ii, mm, R', putS 400 ((T + 1) % 2) (slotB 400 (T + 1) (stB (G' + 1) K' R' ik ii mm)) 400 B2⟩ n b (xs15 (.slice ia imgs'.length ic) u15) from gO)
              have hIO := (HINV.out s2 q2).mono (c' := 1 + 2 * (j + 1)) (i' := 2 * (j + 1)) (by omega) (by omega)
              rw [show (op : Int) + 1 = ((op + 1 : Nat) : Int) by omega] at hIO
              have HIO := hid hIO
              clear bO gO hIO
              go_wp2_with fail
              go_meet
              case rel => exact ⟨op + 1, _, _, by omega, rfl, by first | rfl | simp, ⟨HBO.out, HRO.out, HSO.out, HIO.out, by show _ ≤ s2 ∧ _ ≤ q2 ∧ _; omega⟩⟩
          case rest =>
            obtain ⟨op', σ', U', hop', rfl, rfl, hst⟩ := hcut
            have HS2 := hid hst
            have hlw2 := hst.bel.size
            clear hst HMd HY HS
            obtain ⟨aa0, ac, hav⟩ := owns_sliceM HS2.out.rows.al
            subst hav
            go_wp2_with fail
            go_loopw [24, 25] (fun uv iv wi => ∃ i : Nat, i ≤ all'.length ∧ uv = .int .i64 (cntK σ'.k (all'.take i) : Nat) ∧ iv = .int .i64 i ∧ Below wc.heap.size wc wi) (fun _ iv _ => all'.length - (intOf iv).toNat)
            case atStart => exact ⟨0, Nat.zero_le _, rfl, rfl, Below.refl _ _⟩
            case round =>
              obtain ⟨i, hi, rfl, rfl, hbi⟩ := hrel
              have HBI := hid hbi
              clear hbi
              obtain ⟨ma, mc, hkk, -⟩ := SoAt.sg HS2.out.sg
              have HK := hid (hkk.below HBI.out)
              clear hkk
              by_cases hli : i < all'.length
              · have hliI : (i : Int) < (all'.length : Int) := by omega
                obtain ⟨g, cap, hq, hgl, k0, -, -⟩ := HS2.out.rows.tri i hli
                cases hq
                rw [Nat.zero_add] at k0
                have k0 := (HBI.out.cell (p := ⟨g, i * 3, none⟩) hgl).trans k0
                have hct := cntK_take σ'.k all' i hli
                obtain ⟨tk, htk⟩ : ∃ tk, (all'[i]).key = tk := ⟨_, rfl⟩
                rw [htk] at k0 hct
                have HCT := hid hct
                have hcl : cntK σ'.k (all'.take i) ≤ 61 := by have := cntK_le σ'.k (all'.take i); rw [List.length_take] at this; omega
                clear hct htk
                go_upto_region 53 with fail
                refine wp_region_flow 8 [0, 1, 2, 3, 4, 5] [] [(.c 6, [7], [])] (by kernel_rfl) (by kernel_rfl) ?_
                apply Exists.intro
                refine ⟨fun w0 hb0 hF0 => ?_, ?_⟩
                · skip
                  have y0 : ∀ w', (∃ x : Ext w0, w' = x.at_) → w'.cell? ⟨g, i * 3, none⟩ = some (.int .i64 tk) := fun w' ⟨x, hx⟩ => by rw [hx, (Below.on hb0 x.same).cell (p := ⟨g, i * 3, none⟩) (by show g < _; have := HBI.out.size; omega)]; exact k0
                  simp only [pick, List.getElem?_toArray, List.getElem?_cons_succ, List.getElem?_cons_zero, Option.toList_some, List.cons_append, List.nil_append]
                  repeat go_big_quiet_step (fail)
                  (go_big_quiet_want; refine quiet_load_one 3 _ rfl ⟨g, i * 3, none⟩ rfl _ y0 _ Try.underlying3 rfl ?_; go_big_quiet_on; simp only [Act.put, List.setIfInBounds_toArray, List.set_cons_zero, List.set_cons_succ])
                  repeat go_big_quiet_step (fail)
                  exact wpQuiet_nil rfl
                refine AlChk.nil ?_
                refine Walk.call rfl 33 #[.pointer (some ⟨σ'.s, 0, none⟩)] (fun v _ => v = .int .i64 σ'.k) (fun _ _ _ h _ => h) rfl (fun y1 hy1 hF1 => ⟨by go_simp, ?_⟩) ?_
                · refine (skey_any y1 σ'.s _ _ _ _ _ _ _ _ _ _ _ _ (HK.out.below hy1)).mono ?_
                  rintro e y2 ⟨rfl, b2⟩
                  exact ⟨_, rfl, b2, rfl⟩
                rintro v1 y1 hy1 hF1 rfl
                apply Exists.intro
                refine ⟨fun w4 hb4 hF4 => ?_, ?_⟩
                · skip
                  simp only [pick, List.getElem?_toArray, List.getElem?_cons_succ, List.getElem?_cons_zero, Option.toList_some, List.cons_append, List.nil_append, Act.put, List.setIfInBounds_toArray, List.set_cons_zero, List.set_cons_succ]
                  repeat go_big_quiet_step (fail)
                  exact wpQuiet_nil rfl
                refine AlChk.nil ?_
                refine Walk.fin fun wz hz _ _ => ?_
                simp only [List.drop_succ_cons, List.drop_zero]
                have HZ := hid hz
                clear hz
                rcases e1 : (tk == σ'.k) with _ | _
                · have hc1 : cntK σ'.k (all'.take (i + 1)) = cntK σ'.k (all'.take i) := by rw [HCT.out, if_neg (by simpa using e1)]; omega
                  have HC1 := hid hc1
                  clear hc1
                  go_wp2_with fail
                  exact ⟨⟨i + 1, by omega, by rw [HC1.out], by first | rfl | simp, Below.on HBI.out HZ.out⟩, by simp [intOf]; omega⟩
                · have hc1 : ((cntK σ'.k (all'.take (i + 1)) : Nat) : Int) = (cntK σ'.k (all'.take i) : Nat) + 1 := by rw [HCT.out, if_pos (by simpa using e1)]; omega
                  have HC1 := hid hc1
                  clear hc1
                  go_wp2_with fail
                  exact ⟨⟨i + 1, by omega, by rw [HC1.out], by first | rfl | simp, Below.on HBI.out HZ.out⟩, by simp [intOf]; omega⟩
              · have hliI : ¬ (i : Int) < (all'.length : Int) := by omega
                rw [List.take_of_length_le (by omega)]
                have HSI := hid (HS2.out.below HBI.out)
                have hcnt := HS2.out.inv.cnt
                have hcl := cntK_le σ'.k all'
                have hbn := HS2.out.inv.core.bn
                have hbr := HS2.out.inv.core.bR
                have hm1 : b * (op' : Int) ≤ 16 * 61 := Int.mul_le_mul hb2.2 (by omega) (by omega) (by omega)
                have hm0 : 0 ≤ b * (op' : Int) := Int.mul_nonneg (by omega) (by omega)
                have hnn : ¬ ((cntK σ'.k all' : Nat) : Int) + b * (op' : Int) < σ'.nx := by omega
                go_wp2_with fail
                refine (snext_any wr σ'.s _ _ _ _ _ _ _ _ _ _ _ _ HK.out).mono ?_
                rintro e wN ⟨rfl, bN⟩
                have HSN := hid (HSI.out.below bN)
                clear bN
                go_wp2_with fail
                exact ⟨⟨j + 1, op', σ', U', all', imgs', by omega, by omega, him', hal', rfl, rfl, by first | rfl | simp, HSN.out⟩, by simp [intOf]; omega⟩
end Go.Proofs.Ytmpgnpkodapidaa
