/-
  Layer 12: the document's Write.
-/
import Derived.Test.YtmpgnpkodapidaaSpG
namespace Go.Proofs.Ytmpgnpkodapidaa
open Go.ChangeShapes Go.WideShapes Go.ChangeAt Go.RowKit

theorem rfS_a {b r : Nat} {ov av wv : Value} (h : b ∈ av.ownBlock.toList) : b ∈ rfS r ov av wv := List.mem_cons_of_mem _ (List.mem_append_right _ (List.mem_append_left _ h))
theorem rfS_w {b r : Nat} {ov av wv : Value} (h : b ∈ wv.ownBlock.toList) : b ∈ rfS r ov av wv := List.mem_cons_of_mem _ (List.mem_append_right _ (List.mem_append_right _ h))
theorem info_rint : ∃ i, Try.prog.info? 3 = some i ∧ i.zero = some (.int .i64 0) ∧ i.size = 1 ∧ i.bytes = 8 := by
  obtain ⟨i0, hi, h⟩ := Option.map_eq_some_iff.1 (show (Try.prog.info? 3).map (fun i => (i.zero, i.size, i.bytes)) = some (some (.int .i64 0), 1, 8) by kernel_rfl)
  simp only [Prod.mk.injEq] at h
  exact ⟨i0, hi, h.1, h.2.1, h.2.2⟩
theorem info_rstr : ∃ i, Try.prog.info? 9 = some i ∧ i.zero = some (.string { data := #[] }) ∧ i.size = 1 ∧ i.bytes = 16 := by
  obtain ⟨i0, hi, h⟩ := Option.map_eq_some_iff.1 (show (Try.prog.info? 9).map (fun i => (i.zero, i.size, i.bytes)) = some (some (.string { data := #[] }), 1, 16) by kernel_rfl)
  simp only [Prod.mk.injEq] at h
  exact ⟨i0, hi, h.1, h.2.1, h.2.2⟩
/-- One value more in a row. -/
theorem run_append_u {P : Program} {w : World} {N b n bytes : Nat} {t e T : TypeId} {u v zv : Value} {xs : List Value} {i : TypeInfo} (ty : TypeId) (ht : P.underlying t = some (.slice e)) (hi : P.info? e = some i) (hz : i.zero = some zv) (hz1 : zv.cells.size = 1) (hsize : i.size = 1) (hby : i.bytes = bytes) (hb16 : bytes ≤ 32) (hown : w.ownsRow N e 1 v n xs) (hk : Blk w b #[u] T) (hu : u.oneCell' = true) (hn : n ≤ 1000) (hN : N ≤ w.heap.size) :
    ∃ v' w', (Builtin.append_ #[t, t] ty #[v, .slice (some ⟨b, 0, none⟩) 1 1]).run P w = .ok v' w' ∧ FlowB.ButIn v.ownBlock.toList w w' ∧ w'.ownsRow N e 1 v' (n + 1) (xs ++ [u]) ∧ (v'.ownBlock = v.ownBlock ∨ v'.ownBlock = some w.heap.size) := by
  obtain ⟨v', w', h1, h2, h3, _, h5⟩ := run_append_own_at (P := P) w N t ty e i zv 1 bytes ht hi hz hsize hby hz1 (by omega) v n xs hown ⟨b, 0, none⟩ 1 1 [u] rfl (news_blk (cs := [u]) hk) (fun x hx => by
    simp only [List.mem_cons, List.not_mem_nil, or_false] at hx
    rw [hx]; exact hu) (by unfold maxLen; omega) (by
      have : (n + 1) * bytes ≤ 1001 * 32 := Nat.mul_le_mul (by omega) hb16
      omega) hN
  exact ⟨v', w', h1, grown_in h3, h2, h5⟩
theorem wpList_append_u {P : Program} {w : World} {N b n bytes : Nat} {t e T : TypeId} {u v zv : Value} {xs : List Value} {i : TypeInfo} {ops : Array Oper} {rest : List Oper} {o : Oper} {A : Act} {Q : Exit → Act → World → Prop} (hgd : o.guard = none) (s x : Operand) (ho : o.op = .call { callee := .builtin .append, args := #[s, x], argTypes := #[t, t] })
    (ht : P.underlying t = some (.slice e)) (hi : P.info? e = some i) (hz : i.zero = some zv) (hz1 : zv.cells.size = 1) (hsize : i.size = 1) (hby : i.bytes = bytes) (hb16 : bytes ≤ 32) (hs : A.eval s = v) (hown : w.ownsRow N e 1 v n xs) (hx : A.eval x = .slice (some ⟨b, 0, none⟩) 1 1) (hk : Blk w b #[u] T) (hu : u.oneCell' = true) (hn : n ≤ 1000) (hN : N ≤ w.heap.size)
    (h : ∀ v' w', w'.ownsRow N e 1 v' (n + 1) (xs ++ [u]) → FlowB.ButIn v.ownBlock.toList w w' → (v'.ownBlock = v.ownBlock ∨ v'.ownBlock = some w.heap.size) → wpList P ops Q rest (A.put o.dst v') w') : wpList P ops Q (o :: rest) A w :=
  wpList_plain hgd fun K hK => by
    obtain ⟨v', w', hr, h2, h3, h4⟩ := run_append_u o.type ht hi hz hz1 hsize hby hb16 hown hk hu hn hN
    unfold Oper.wp execOp
    simp only [ho, resolve, invoke, builtin, Sem.run_bind, Sem.run_pure, Result.andThen_ok, List.map_toArray, List.map_cons, List.map_nil, hs, hx, hr, Oper.upon_value]
    exact hK _ _ (h v' w' h3 h2 h4)
set_option maxHeartbeats 4000000 in
set_option maxRecDepth 100000 in
theorem refwrite_off (w : World) (N r z : Nat) (ov av wv : Value) (On : List (List Int)) (ws : List (Nat × List Int)) (left : Int) (kv : Value) (h : RfAt w N r z ov av wv On ws true left kv) (i : Int) (v : Value) :
    Calls Try.prog 35 #[.pointer (some ⟨r, 0, none⟩), .int .i64 i, v] w fun e w' => e = .returned (.int .i64 9) ∧ Below w.heap.size w w' := by
  have Hb := hid (Below.refl w.heap.size w)
  have c4 : w.cell? ⟨r, 4, none⟩ = some (.bool true) := by rw [h.kr.cell]; rfl
  go_enter Try.func35, Try.ntmps35
  go_wp2_with fail
  go_returns
  exact ⟨by first | rfl | simp, Hb.out⟩
set_option maxHeartbeats 4000000 in
set_option maxRecDepth 100000 in
theorem refwrite_bad (w : World) (N r z : Nat) (ov av wv : Value) (On : List (List Int)) (ws : List (Nat × List Int)) (left : Int) (kv : Value) (h : RfAt w N r z ov av wv On ws false left kv) (hn1 : 1 ≤ On.length) (i : Int) (ta : Option Addr) (tn tc : Nat) (hi : i < 0 ∨ (On.length : Int) ≤ i ∨ tn ≠ z) :
    Calls Try.prog 35 #[.pointer (some ⟨r, 0, none⟩), .int .i64 i, .slice ta tn tc] w fun e w' => e = .returned (.int .i64 1) ∧ Below w.heap.size w w' := by
  have Hb := hid (Below.refl w.heap.size w)
  have c4 : w.cell? ⟨r, 4, none⟩ = some (.bool false) := by rw [h.kr.cell]; rfl
  have c1 : w.cell? ⟨r, 1, none⟩ = some ov := by rw [h.kr.cell]; rfl
  have c0 : w.cell? ⟨r, 0, none⟩ = some (.int .i64 z) := by rw [h.kr.cell]; rfl
  obtain ⟨g, cap, cur, rfl, hg, k, hcap, hmx, hsz, htk⟩ := owns_form h.on (by omega)
  clear h k hsz htk hmx
  go_enter Try.func35, Try.ntmps35
  by_cases h0 : i < 0
  · go_wp2_with fail
    go_returns
    exact ⟨by first | rfl | simp, Hb.out⟩
  by_cases h1 : (On.length : Int) ≤ i
  · go_wp2_with fail
    go_returns
    exact ⟨by first | rfl | simp, Hb.out⟩
  · have hzI : ¬ (tn : Int) = (z : Int) := by omega
    have hzB : ((tn : Int) == (z : Int)) = false := by simp; omega
    go_wp2_with fail
    go_returns
    exact ⟨by first | rfl | simp, Hb.out⟩
theorem IntsAt.grow {w w' : World} {S S' : List Nat} {ka : Option Addr} {ks : List Int} (h : IntsAt w S ka ks) (hb : FlowB.ButIn S w w') (hs : ∀ b ∈ S', b ∈ S ∨ w.heap.size ≤ b) : IntsAt w' S' ka ks := by
  obtain ⟨h2 | ⟨x, o, rfl, hx, hlt, hc⟩⟩ := h.butIn hb
  · exact ⟨.inl h2⟩
  · obtain ⟨h3 | ⟨x', o', he, hx', hlt', _⟩⟩ := h
    · exact ⟨.inl h3⟩
    · cases he
      exact ⟨.inr ⟨x, o, rfl, fun hm => by
        rcases hs x hm with h | h
        · exact hx h
        · omega, hlt, hc⟩⟩
set_option maxHeartbeats 4000000 in
set_option maxRecDepth 100000 in
theorem refwrite_no (w : World) (N r z : Nat) (ov av wv : Value) (On : List (List Int)) (ws : List (Nat × List Int)) (left : Int) (kv : Value) (h : RfAt w N r z ov av wv On ws false left kv) (hl : left ≠ 0) (hl2 : left < 9223372036854775808) (hlw : ws.length ≤ 900) (i : Nat) (hi : i < On.length) (ta : Option Addr) (tc : Nat) (t : List Int) (hT : TextO w (rfS r ov av wv) ta z tc t) :
    Calls Try.prog 35 #[.pointer (some ⟨r, 0, none⟩), .int .i64 i, .slice ta z tc] w fun e w' => e = .returned (.int .i64 0) ∧ FlowB.ButIn (rfS r ov av wv) w w' ∧ ∃ av2 wv2, RfAt w' N r z ov av2 wv2 On (ws ++ [(i, t)]) false (if 0 < left then left - 1 else left) kv ∧ (av2.ownBlock = av.ownBlock ∨ ∃ g, av2.ownBlock = some g ∧ w.heap.size ≤ g) ∧ (wv2.ownBlock = wv.ownBlock ∨ ∃ g, wv2.ownBlock = some g ∧ w.heap.size ≤ g) := by
  have hlw' := hlw
  have hlw : ws.length ≤ 1000 := by omega
  obtain ⟨lf, hlf⟩ : ∃ lf, (if 0 < left then left - 1 else left) = lf := ⟨_, rfl⟩
  rw [hlf]
  obtain ⟨i1, hi1, hz1, hsz1, hby1⟩ := info_rint
  obtain ⟨i2, hi2, hz2, hsz2, hby2⟩ := info_rstr
  have H := hid h
  have HT := hid hT.text
  have hTp : ∀ q : Addr, ta = some q → q.block ∉ rfS r ov av wv := hT.out
  have hnr := owns_ne h.kr h.at_ (by decide)
  have hnw := owns_ne h.kr h.wt (by decide)
  have hno := owns_ne h.kr h.on (by decide)
  have haw := owns_two h.at_ h.wt (by decide)
  have hao := owns_two h.at_ h.on (by decide)
  have halt := h.at_.lt
  have hwlt := h.wt.lt
  have holt := h.on.lt
  have hon := h.ne
  have hrl := h.kr.lt
  have c4 : w.cell? ⟨r, 4, none⟩ = some (.bool false) := by rw [h.kr.cell]; rfl
  have c1 : w.cell? ⟨r, 1, none⟩ = some ov := by rw [h.kr.cell]; rfl
  have c0 : w.cell? ⟨r, 0, none⟩ = some (.int .i64 z) := by rw [h.kr.cell]; rfl
  have c2 : w.cell? ⟨r, 2, none⟩ = some av := by rw [h.kr.cell]; rfl
  obtain ⟨ga, gc, hov⟩ := owns_slice h.on
  have qi0 : ¬ (i : Int) < 0 := by omega
  have qi1 : ¬ (On.length : Int) ≤ (i : Int) := by omega
  clear h hT
  rw [hov] at c1
  have HOV := hid hov
  clear hov
  have b1 := (Below.refl w.heap.size w).alloc (Nat.le_refl _) (.cells #[.int .i64 (i : Int)] 3 (0, 0))
  have KI := hid (Blk.new (w := w) (n := w.heap.size) rfl #[.int .i64 (i : Int)] 3)
  have Hb := hid b1
  have H1 := hid (H.out.below b1)
  have hs1 := b1.size
  have hN1 : N ≤ (w.alloc (.cells #[.int .i64 (i : Int)] 3 (0, 0))).heap.size := by have := H.out.lo; omega
  have hsz1' : (w.alloc (.cells #[.int .i64 (i : Int)] 3 (0, 0))).heap.size = w.heap.size + 1 := by simp only [World.size_alloc]
  clear b1
  go_enter Try.func35, Try.ntmps35
  go_wp2_with (at_builtin; refine wpList_append_u rfl _ _ rfl Try.underlying32 hi1 hz1 rfl hsz1 hby1 (by omega) rfl H1.out.at_ rfl KI.out rfl hlw hN1 ?_)
  intro av2 w2 hown2 hbut2 hat2
  have HA2 := hid hown2
  have HX2 := hid (ButIn.on (S := av.ownBlock.toList) (ButIn.of_below Hb.out) hbut2)
  have KR2 := hid (hbut2.blk H1.out.kr (fun hm => hnr r (by simpa using hm) rfl))
  have HW2 := hid (owns_in H1.out.wt hbut2 (fun b hb hm => haw b hb (by simpa using hm)))
  have HO2 := hid (owns_in H1.out.on hbut2 (fun b hb hm => hao b hb (by simpa using hm)))
  have hat2 : av2.ownBlock = av.ownBlock ∨ ∃ g, av2.ownBlock = some g ∧ w.heap.size ≤ g := hat2.imp id (fun e => ⟨_, e, Nat.le_succ _⟩)
  have hs2 := hbut2.size
  have hq2 := owns_ne KR2.out hown2 (by decide)
  have haw2 := owns_two hown2 HW2.out (by decide)
  have hao2 := owns_two hown2 HO2.out (by decide)
  have ho2 := owns_one hown2
  have hc2 := owns_cells hown2
  clear hown2 hbut2
  go_wp2_with (refine wpList_store_cell rfl 32 _ _ rfl r 2 av2 rfl rfl (by exact ho2) (by exact hc2) _ 77 KR2.out (by simp [rfC]) size_rints ?_)
  intro w3 hb3 hk3
  have HX3 := hid (ButIn.on (ButIn.wide (S' := rfS r ov av wv) HX2.out (fun b hb => rfS_a hb)) (ButIn.of_but (S := rfS r ov av wv) hb3 (by simp [rfS])))
  have KR3 := hid (show Blk w3 r (rfC z ov av2 wv false left kv) 77 from hk3)
  have HA3 := hid (owns_in HA2.out (ButIn.of_but (S := [r]) hb3 (by simp)) (fun b hb => by simpa using hq2 b hb))
  have HW3 := hid (owns_in HW2.out (ButIn.of_but (S := [r]) hb3 (by simp)) (fun b hb => by simpa using hnw b hb))
  have HO3 := hid (owns_in HO2.out (ButIn.of_but (S := [r]) hb3 (by simp)) (fun b hb => by simpa using hno b hb))
  have hs3 := HX3.out.size
  clear hb3 hk3
  go_wp2_with fail
  have HT3 := hid (HT.out.butIn hTp HX3.out)
  have hwlt3 : ∀ b ∈ wv.ownBlock.toList, b < w3.heap.size := fun b hb => by have := (hwlt b (by simpa using hb)).2; omega
  have hN3 : N ≤ w3.heap.size := by have := H.out.lo; omega
  refine FlowB.wp_region_butIn wv.ownBlock.toList (fun y => y.ownsRow N 9 1 wv ws.length (ws.map waV)) 9 [0, 1, 2, 3, 4, 5, 6] [7] [(.b 7, [], []), (.c 8, [], [])] (by kernel_rfl) (by kernel_rfl) HW3.out (fun _ _ h hb => owns_in h (ButIn.of_below (S := []) hb) (by simp)) ?_
  apply Exists.intro
  refine ⟨fun w0 hb0 hF0 => ?_, ?_⟩
  · skip
    have y3 : ∀ w', (∃ x : Ext w0, w' = x.at_) → w'.cell? ⟨r, 3, none⟩ = some wv := fun w' ⟨x, hx⟩ => by rw [hx, ((hb0.blk KR3.out (fun hm => hnw r (by simpa using hm) rfl)).below x.same).cell]; rfl
    have v0 := conv_str (HT3.out.butIn (S := wv.ownBlock.toList) (fun q hq hm => hTp q hq (by simp [rfS, hm])) hb0)
    simp only [pick, List.getElem?_toArray, List.getElem?_cons_succ, List.getElem?_cons_zero, Option.toList_some, List.cons_append, List.nil_append]
    repeat (first | (go_big_quiet_want; refine quiet_load_one 63 _ rfl ⟨r, 3, none⟩ rfl _ y3 _ Try.underlying63 rfl ?_; go_big_quiet_on; simp only [Act.put, List.setIfInBounds_toArray, List.set_cons_zero, List.set_cons_succ]) | go_big_quiet_step (fail))
    
    exact wpQuiet_nil rfl
  refine FlowB.AlChk.one rfl (fun b => .slice (some ⟨b, 0, none⟩) 1 1) (.cells #[.string (strOfNums t)] 9 (0, 0)) rfl (st_butL _ hwlt3) (fun w3 hb3 hF3 => by go_simp) ?_
  refine FlowB.AlChk.nil ?_
  refine FlowB.Walk.blk rfl (fun b => .slice (some ⟨b, 0, none⟩) 1 1) (.cells #[.string (strOfNums t)] 9 (0, 0)) (by simp) ?_
  intro b9 wz hbz_ hFz hge9 _
  apply Exists.intro
  refine ⟨fun w4 hb4 hF4 => wpQuiet_nil rfl, ?_⟩
  refine FlowB.AlChk.nil ?_
  refine FlowB.Walk.does rfl (fun v _ => v.ownBlock = wv.ownBlock ∨ ∃ g, v.ownBlock = some g ∧ w.heap.size ≤ g) (fun v y => y.ownsRow N 9 1 v (ws.length + 1) (ws.map waV ++ [.string (strOfNums t)])) (fun _ _ _ _ h _ => h) (fun _ _ _ h k => owns_in h (ButIn.of_below (S := []) k) (by simp)) rfl (fun y3 hy3 hF3 hG3 => ?_) ?_
  · obtain ⟨v', y4, hr, hb4, ho4, hat⟩ := run_append_u (b := b9) (u := .string (strOfNums t)) (T := 9) 63 Try.underlying63 hi2 hz2 rfl hsz2 hby2 (by omega) hG3 hF3.2 rfl hlw (Nat.le_trans hN3 hy3.size)
    exact ⟨v', y4, FlowB.exec_append rfl rfl rfl hr, hb4, hat.imp id (fun e => ⟨_, e, by have := hy3.size; omega⟩), ho4⟩
  rintro wv2 y2 hy2 hF2 hwat
  apply Exists.intro
  refine ⟨fun w4 hb4 hF4 => wpQuiet_nil rfl, ?_⟩
  refine FlowB.AlChk.nil ?_
  refine FlowB.Walk.fin fun w5 h5 hF5 hG5 => ?_
  simp only [List.drop_succ_cons, List.drop_zero]
  have HW5 := hid hG5
  have KR5 := hid (h5.blk KR3.out (fun hm => hnw r (by simpa using hm) rfl))
  have HA5 := hid (owns_in HA3.out h5 (fun b hb hm => haw2 b (by simpa using hm) hb))
  have HO5 := hid (owns_in HO3.out h5 (fun b hb hm => hon b hb (by simpa using hm)))
  have HX5 := hid (ButIn.on HX3.out (ButIn.wide h5 (fun b hb => rfS_w hb)))
  have hs5 := HX5.out.size
  have hq5 := owns_ne KR5.out hG5 (by decide)
  have ho5 := owns_one hG5
  have hc5 := owns_cells hG5
  clear h5 hF5 hG5 hbz_ hFz
  go_wp2_with (
        refine wpList_store_cell rfl 63 _ _ rfl r 3 wv2 rfl rfl (by exact ho5) (by exact hc5) _ 77 KR5.out (by simp [rfC]) size_strs ?_
        intro w6 hb6 hk6
        have HX6 := hid (ButIn.on HX5.out (ButIn.of_but (S := rfS r ov av wv) hb6 (by simp [rfS])))
        have KR6 := hid (show Blk w6 r (rfC z ov av2 wv2 false left kv) 77 from hk6)
        have HA6 := hid (owns_in HA5.out (ButIn.of_but (S := [r]) hb6 (by simp)) (fun b hb => by simpa using hq2 b hb))
        have HW6 := hid (owns_in HW5.out (ButIn.of_but (S := [r]) hb6 (by simp)) (fun b hb => by simpa using hq5 b hb))
        have HO6 := hid (owns_in HO5.out (ButIn.of_but (S := [r]) hb6 (by simp)) (fun b hb => by simpa using hno b hb))
        clear hb6 hk6)
  have HR6 := hid (show RfAt w6 N r z ov av2 wv2 On (ws ++ [(i, t)]) false left kv from ⟨KR6.out, HO6.out, by simpa [atV] using HA6.out, by simpa [waV, strV] using HW6.out, fun b hb hw => by
    rcases hwat with e | ⟨g, e, hg⟩
    · exact hon b hb (by rw [← e]; exact hw)
    · rw [e] at hw
      have := (holt b hb).2
      cases hw
      omega, H.out.lo⟩)
  refine (refcomes_no w6 N r z ov av2 wv2 On (ws ++ [(i, t)]) left kv HR6.out hl hl2).mono ?_
  rintro e w7 ⟨rfl, b7, h7⟩
  rw [hlf] at h7
  have HX7 := hid (ButIn.on HX6.out (ButIn.of_but (S := rfS r ov av wv) b7 (by simp [rfS])))
  have HR7 := hid h7
  clear b7 h7 hlf
  go_wp2_with fail
  go_returns
  exact ⟨by first | rfl | simp, HX7.out, av2, wv2, HR7.out, hat2, hwat⟩
set_option maxHeartbeats 4000000 in
set_option maxRecDepth 100000 in
theorem refwrite_hit (w : World) (N r z : Nat) (ov av wv : Value) (On : List (List Int)) (ws : List (Nat × List Int)) (ka : Option Addr) (kc : Nat) (ks : List Int) (h : RfAt w N r z ov av wv On ws false 0 (.slice ka ks.length kc)) (hz : z ≤ 512) (hn1 : 1 ≤ On.length) (hO : ∀ t ∈ On, t.length = z) (hw : ∀ x ∈ ws, x.1 < On.length ∧ x.2.length = z) (hK : IntsAt w (rfS r ov av wv) ka ks) (hlw : ws.length ≤ 900) (i : Nat) (hi : i < On.length) (ta : Option Addr) (tc : Nat) (t : List Int) (hT : TextO w (rfS r ov av wv) ta z tc t) :
    Calls Try.prog 35 #[.pointer (some ⟨r, 0, none⟩), .int .i64 i, .slice ta z tc] w fun e w' => e = .returned (.int .i64 9) ∧ FlowB.ButIn (rfS r ov av wv) w w' ∧ RfAt w' N r z ov (.slice none 0 0) (.slice none 0 0) (crashR z ks (ws ++ [(i, t)]) On (ws.length + 1)) [] true (-1) (.slice ka ks.length kc) := by
  have hlw' := hlw
  have hlw : ws.length ≤ 1000 := by omega
  obtain ⟨i1, hi1, hz1, hsz1, hby1⟩ := info_rint
  obtain ⟨i2, hi2, hz2, hsz2, hby2⟩ := info_rstr
  have H := hid h
  have HT := hid hT.text
  have hTp : ∀ q : Addr, ta = some q → q.block ∉ rfS r ov av wv := hT.out
  have hnr := owns_ne h.kr h.at_ (by decide)
  have hnw := owns_ne h.kr h.wt (by decide)
  have hno := owns_ne h.kr h.on (by decide)
  have haw := owns_two h.at_ h.wt (by decide)
  have hao := owns_two h.at_ h.on (by decide)
  have halt := h.at_.lt
  have hwlt := h.wt.lt
  have holt := h.on.lt
  have hon := h.ne
  have hrl := h.kr.lt
  have c4 : w.cell? ⟨r, 4, none⟩ = some (.bool false) := by rw [h.kr.cell]; rfl
  have c1 : w.cell? ⟨r, 1, none⟩ = some ov := by rw [h.kr.cell]; rfl
  have c0 : w.cell? ⟨r, 0, none⟩ = some (.int .i64 z) := by rw [h.kr.cell]; rfl
  have c2 : w.cell? ⟨r, 2, none⟩ = some av := by rw [h.kr.cell]; rfl
  obtain ⟨ga, gc, hov⟩ := owns_slice h.on
  have qi0 : ¬ (i : Int) < 0 := by omega
  have qi1 : ¬ (On.length : Int) ≤ (i : Int) := by omega
  clear h hT
  rw [hov] at c1
  have HOV := hid hov
  clear hov
  have b1 := (Below.refl w.heap.size w).alloc (Nat.le_refl _) (.cells #[.int .i64 (i : Int)] 3 (0, 0))
  have KI := hid (Blk.new (w := w) (n := w.heap.size) rfl #[.int .i64 (i : Int)] 3)
  have Hb := hid b1
  have H1 := hid (H.out.below b1)
  have hs1 := b1.size
  have hN1 : N ≤ (w.alloc (.cells #[.int .i64 (i : Int)] 3 (0, 0))).heap.size := by have := H.out.lo; omega
  have hsz1' : (w.alloc (.cells #[.int .i64 (i : Int)] 3 (0, 0))).heap.size = w.heap.size + 1 := by simp only [World.size_alloc]
  clear b1
  go_enter Try.func35, Try.ntmps35
  go_wp2_with (at_builtin; refine wpList_append_u rfl _ _ rfl Try.underlying32 hi1 hz1 rfl hsz1 hby1 (by omega) rfl H1.out.at_ rfl KI.out rfl hlw hN1 ?_)
  intro av2 w2 hown2 hbut2 hat2
  have HA2 := hid hown2
  have HX2 := hid (ButIn.on (S := av.ownBlock.toList) (ButIn.of_below Hb.out) hbut2)
  have KR2 := hid (hbut2.blk H1.out.kr (fun hm => hnr r (by simpa using hm) rfl))
  have HW2 := hid (owns_in H1.out.wt hbut2 (fun b hb hm => haw b hb (by simpa using hm)))
  have HO2 := hid (owns_in H1.out.on hbut2 (fun b hb hm => hao b hb (by simpa using hm)))
  have hat2 : av2.ownBlock = av.ownBlock ∨ ∃ g, av2.ownBlock = some g ∧ w.heap.size ≤ g := hat2.imp id (fun e => ⟨_, e, Nat.le_succ _⟩)
  have hs2 := hbut2.size
  have hq2 := owns_ne KR2.out hown2 (by decide)
  have haw2 := owns_two hown2 HW2.out (by decide)
  have hao2 := owns_two hown2 HO2.out (by decide)
  have ho2 := owns_one hown2
  have hc2 := owns_cells hown2
  clear hown2 hbut2
  go_wp2_with (refine wpList_store_cell rfl 32 _ _ rfl r 2 av2 rfl rfl (by exact ho2) (by exact hc2) _ 77 KR2.out (by simp [rfC]) size_rints ?_)
  intro w3 hb3 hk3
  have HX3 := hid (ButIn.on (ButIn.wide (S' := rfS r ov av wv) HX2.out (fun b hb => rfS_a hb)) (ButIn.of_but (S := rfS r ov av wv) hb3 (by simp [rfS])))
  have KR3 := hid (show Blk w3 r (rfC z ov av2 wv false 0 (.slice ka ks.length kc)) 77 from hk3)
  have HA3 := hid (owns_in HA2.out (ButIn.of_but (S := [r]) hb3 (by simp)) (fun b hb => by simpa using hq2 b hb))
  have HW3 := hid (owns_in HW2.out (ButIn.of_but (S := [r]) hb3 (by simp)) (fun b hb => by simpa using hnw b hb))
  have HO3 := hid (owns_in HO2.out (ButIn.of_but (S := [r]) hb3 (by simp)) (fun b hb => by simpa using hno b hb))
  have hs3 := HX3.out.size
  clear hb3 hk3
  go_wp2_with fail
  have HT3 := hid (HT.out.butIn hTp HX3.out)
  have hwlt3 : ∀ b ∈ wv.ownBlock.toList, b < w3.heap.size := fun b hb => by have := (hwlt b (by simpa using hb)).2; omega
  have hN3 : N ≤ w3.heap.size := by have := H.out.lo; omega
  refine FlowB.wp_region_butIn wv.ownBlock.toList (fun y => y.ownsRow N 9 1 wv ws.length (ws.map waV)) 9 [0, 1, 2, 3, 4, 5, 6] [7] [(.b 7, [], []), (.c 8, [], [])] (by kernel_rfl) (by kernel_rfl) HW3.out (fun _ _ h hb => owns_in h (ButIn.of_below (S := []) hb) (by simp)) ?_
  apply Exists.intro
  refine ⟨fun w0 hb0 hF0 => ?_, ?_⟩
  · skip
    have y3 : ∀ w', (∃ x : Ext w0, w' = x.at_) → w'.cell? ⟨r, 3, none⟩ = some wv := fun w' ⟨x, hx⟩ => by rw [hx, ((hb0.blk KR3.out (fun hm => hnw r (by simpa using hm) rfl)).below x.same).cell]; rfl
    have v0 := conv_str (HT3.out.butIn (S := wv.ownBlock.toList) (fun q hq hm => hTp q hq (by simp [rfS, hm])) hb0)
    simp only [pick, List.getElem?_toArray, List.getElem?_cons_succ, List.getElem?_cons_zero, Option.toList_some, List.cons_append, List.nil_append]
    repeat (first | (go_big_quiet_want; refine quiet_load_one 63 _ rfl ⟨r, 3, none⟩ rfl _ y3 _ Try.underlying63 rfl ?_; go_big_quiet_on; simp only [Act.put, List.setIfInBounds_toArray, List.set_cons_zero, List.set_cons_succ]) | go_big_quiet_step (fail))
    
    exact wpQuiet_nil rfl
  refine FlowB.AlChk.one rfl (fun b => .slice (some ⟨b, 0, none⟩) 1 1) (.cells #[.string (strOfNums t)] 9 (0, 0)) rfl (st_butL _ hwlt3) (fun w3 hb3 hF3 => by go_simp) ?_
  refine FlowB.AlChk.nil ?_
  refine FlowB.Walk.blk rfl (fun b => .slice (some ⟨b, 0, none⟩) 1 1) (.cells #[.string (strOfNums t)] 9 (0, 0)) (by simp) ?_
  intro b9 wz hbz_ hFz hge9 _
  apply Exists.intro
  refine ⟨fun w4 hb4 hF4 => wpQuiet_nil rfl, ?_⟩
  refine FlowB.AlChk.nil ?_
  refine FlowB.Walk.does rfl (fun v _ => v.ownBlock = wv.ownBlock ∨ ∃ g, v.ownBlock = some g ∧ w.heap.size ≤ g) (fun v y => y.ownsRow N 9 1 v (ws.length + 1) (ws.map waV ++ [.string (strOfNums t)])) (fun _ _ _ _ h _ => h) (fun _ _ _ h k => owns_in h (ButIn.of_below (S := []) k) (by simp)) rfl (fun y3 hy3 hF3 hG3 => ?_) ?_
  · obtain ⟨v', y4, hr, hb4, ho4, hat⟩ := run_append_u (b := b9) (u := .string (strOfNums t)) (T := 9) 63 Try.underlying63 hi2 hz2 rfl hsz2 hby2 (by omega) hG3 hF3.2 rfl hlw (Nat.le_trans hN3 hy3.size)
    exact ⟨v', y4, FlowB.exec_append rfl rfl rfl hr, hb4, hat.imp id (fun e => ⟨_, e, by have := hy3.size; omega⟩), ho4⟩
  rintro wv2 y2 hy2 hF2 hwat
  apply Exists.intro
  refine ⟨fun w4 hb4 hF4 => wpQuiet_nil rfl, ?_⟩
  refine FlowB.AlChk.nil ?_
  refine FlowB.Walk.fin fun w5 h5 hF5 hG5 => ?_
  simp only [List.drop_succ_cons, List.drop_zero]
  have HW5 := hid hG5
  have KR5 := hid (h5.blk KR3.out (fun hm => hnw r (by simpa using hm) rfl))
  have HA5 := hid (owns_in HA3.out h5 (fun b hb hm => haw2 b (by simpa using hm) hb))
  have HO5 := hid (owns_in HO3.out h5 (fun b hb hm => hon b hb (by simpa using hm)))
  have HX5 := hid (ButIn.on HX3.out (ButIn.wide h5 (fun b hb => rfS_w hb)))
  have hs5 := HX5.out.size
  have hq5 := owns_ne KR5.out hG5 (by decide)
  have ho5 := owns_one hG5
  have hc5 := owns_cells hG5
  clear h5 hF5 hG5 hbz_ hFz
  go_wp2_with (
        refine wpList_store_cell rfl 63 _ _ rfl r 3 wv2 rfl rfl (by exact ho5) (by exact hc5) _ 77 KR5.out (by simp [rfC]) size_strs ?_
        intro w6 hb6 hk6
        have HX6 := hid (ButIn.on HX5.out (ButIn.of_but (S := rfS r ov av wv) hb6 (by simp [rfS])))
        have KR6 := hid (show Blk w6 r (rfC z ov av2 wv2 false 0 (.slice ka ks.length kc)) 77 from hk6)
        have HA6 := hid (owns_in HA5.out (ButIn.of_but (S := [r]) hb6 (by simp)) (fun b hb => by simpa using hq2 b hb))
        have HW6 := hid (owns_in HW5.out (ButIn.of_but (S := [r]) hb6 (by simp)) (fun b hb => by simpa using hq5 b hb))
        have HO6 := hid (owns_in HO5.out (ButIn.of_but (S := [r]) hb6 (by simp)) (fun b hb => by simpa using hno b hb))
        clear hb6 hk6)
  have HR6 := hid (show RfAt w6 N r z ov av2 wv2 On (ws ++ [(i, t)]) false 0 (.slice ka ks.length kc) from ⟨KR6.out, HO6.out, by simpa [atV] using HA6.out, by simpa [waV, strV] using HW6.out, fun b hb hw => by
    rcases hwat with e | ⟨g, e, hg⟩
    · exact hon b hb (by rw [← e]; exact hw)
    · rw [e] at hw
      have := (holt b hb).2
      cases hw
      omega, H.out.lo⟩)
  have hsub : ∀ b ∈ rfS r ov av2 wv2, b ∈ rfS r ov av wv ∨ w.heap.size ≤ b := fun b hb => by
    simp only [rfS, List.mem_cons, List.mem_append, Option.mem_toList] at hb ⊢
    rcases hb with h | h | h | h
    · exact .inl (.inl h)
    · exact .inl (.inr (.inl h))
    · rcases hat2 with e | ⟨g, e, hg⟩
      · exact .inl (.inr (.inr (.inl (by rw [← e]; exact h))))
      · rw [e] at h; cases h; exact .inr hg
    · rcases hwat with e | ⟨g, e, hg⟩
      · exact .inl (.inr (.inr (.inr (by rw [← e]; exact h))))
      · rw [e] at h; cases h; exact .inr hg
  have HK6 := hid (hK.grow HX6.out hsub)
  refine (refcomes_hit w6 N r z ov av2 wv2 On (ws ++ [(i, t)]) ka kc ks HR6.out hz hn1 hO (fun x hx => by
    rcases List.mem_append.1 hx with h | h
    · exact hw x h
    · simp at h; rw [h]; exact ⟨hi, HT.out.length⟩) (by simp; omega) HK6.out).mono ?_
  rintro e w7 ⟨rfl, b7, h7⟩
  have HX7 := hid (show FlowB.ButIn (rfS r ov av wv) w w7 from ⟨b7.os.trans HX6.out.os, b7.tape.trans HX6.out.tape, b7.output.trans HX6.out.output, Nat.le_trans HX6.out.size b7.size, fun k hk hn => by
    rw [b7.block k (Nat.lt_of_lt_of_le hk HX6.out.size) (fun hm => by
      rcases hsub k hm with h | h
      · exact hn h
      · omega)]
    exact HX6.out.block k hk hn⟩)
  have HR7 := hid h7
  clear b7 h7
  go_wp2_with fail
  go_returns
  exact ⟨by first | rfl | simp, HX7.out, by simpa using HR7.out⟩
end Go.Proofs.Ytmpgnpkodapidaa
