/-
  Layer 12: Write, whatever waits; what it refuses.
-/
import Derived.Test.YtmpgnpkodapidaaSpE
import Derived.Maps.AppendAt
namespace Go.Proofs.Ytmpgnpkodapidaa
open Go.ChangeShapes Go.WideShapes Go.ChangeAt Go.RowKit

/-- A text in a block of bytes. -/
structure TextU (w : World) (a : Option Addr) (len cap : Nat) (t : List Int) : Prop where
  text : TextAt w a len cap t
  ty : ∀ q : Addr, a = some q → ∃ cs, Blk w q.block cs 5
theorem st_butL {S : List Nat} {w : World} (obj : Obj) (hb : ∀ b ∈ S, b < w.heap.size) : FlowB.St (FlowB.ButIn S) w obj := fun w1 w2 c h1 h2 hc ho => by
  have hlt : c < w1.heap.size := (Array.getElem?_eq_some_iff.1 ho).1
  rw [h2.block c hlt (fun hm => by have := hb c hm; omega)]
  exact ho
/-- The writes that wait: a row of the disk's own. -/
structure WaitU (w : World) (N bb z : Nat) (wv : Value) (ws : List (Nat × List Int)) : Prop where
  ex : ∃ xs : List Value, w.ownsRow N 85 2 wv ws.length xs ∧ ∀ j, j < ws.length → xs[2 * j]? = some (.int .i64 ((ws.getD j (0, [])).1 : Int)) ∧ ∃ a c, xs[2 * j + 1]? = some (.slice a z c) ∧ TextU w a z c (ws.getD j (0, [])).2 ∧ ∀ q : Addr, a = some q → q.block ≠ bb
theorem WaitU.nil (w : World) (N bb z : Nat) : WaitU w N bb z (.slice none 0 0) [] := ⟨[], World.ownsRow_nil _ _ _ _, fun j hj => absurd hj (by simp)⟩
theorem grown_in {w w' : World} {row : Option Nat} (h : w.grownBy w' row) : FlowB.ButIn row.toList w w' :=
  ⟨h.os, h.tape, h.output, h.size, fun k hk hn => h.block k hk (fun e => hn (by rw [← e]; simp))⟩
theorem mem_mid {b p q : Nat} {l : List Nat} (h : b ∈ p :: l) : b ∈ p :: q :: l := by
  rcases List.mem_cons.1 h with h | h
  · exact List.mem_cons.2 (.inl h)
  · exact List.mem_cons.2 (.inr (List.mem_cons_of_mem _ h))
theorem owns_one {w : World} {N n s : Nat} {e : TypeId} {v : Value} {xs : List Value} (h : w.ownsRow N e s v n xs) : v.oneCell' = true := by
  obtain ⟨_, ⟨rfl, _⟩ | ⟨g, cap, cur, rfl, _⟩⟩ := h <;> rfl
theorem owns_cells {w : World} {N n s : Nat} {e : TypeId} {v : Value} {xs : List Value} (h : w.ownsRow N e s v n xs) : v.cells = #[v] := by
  obtain ⟨_, ⟨rfl, _⟩ | ⟨g, cap, cur, rfl, _⟩⟩ := h <;> rfl
theorem owns_slice {w : World} {N n s : Nat} {e : TypeId} {v : Value} {xs : List Value} (h : w.ownsRow N e s v n xs) : ∃ a c, v = .slice a n c := by
  obtain ⟨_, ⟨rfl, rfl⟩ | ⟨g, cap, cur, rfl, _⟩⟩ := h
  · exact ⟨none, 0, rfl⟩
  · exact ⟨_, _, rfl⟩
theorem blk_ne {w : World} {a b : Nat} {cs ds : Array Value} {T U : TypeId} (h : Blk w a cs T) (k : Blk w b ds U) (hT : T ≠ U) : a ≠ b := fun e => by
  subst e
  have h : w.heap[a]? = some (.cells cs T (0, 0)) := h
  have k : w.heap[a]? = some (.cells ds U (0, 0)) := k
  rw [h] at k
  injection k with k
  injection k with k1 k2
  exact hT k2
theorem owns_blk {w : World} {N n s b : Nat} {e : TypeId} {v : Value} {xs : List Value} (h : w.ownsRow N e s v n xs) (hb : v.ownBlock = some b) : ∃ cs, Blk w b cs e := by
  obtain ⟨_, ⟨rfl, _⟩ | ⟨g, cap, cur, rfl, _, hh, _⟩⟩ := h
  · cases hb
  · cases hb
    exact ⟨cur, hh⟩
theorem TextU.in_ {w w' : World} {S : List Nat} {a : Option Addr} {len cap : Nat} {t : List Int} (h : TextU w a len cap t) (hb : FlowB.ButIn S w w') (hS : ∀ q : Addr, a = some q → q.block ∉ S) : TextU w' a len cap t :=
  ⟨h.text.butIn hS hb, fun q hq => by obtain ⟨cs, hcs⟩ := h.ty q hq; exact ⟨cs, hb.blk hcs (hS q hq)⟩⟩
/-- what waits is where the disk's calls want it -/
theorem WaitU.at_ {w : World} {N p bb z : Nat} {wv : Value} {ws : List (Nat × List Int)} {cs : Array Value} (h : WaitU w N bb z wv ws) (kp : Blk w p cs 75) (hb : ∀ g, wv.ownBlock = some g → g ≠ bb) : ∃ wa wc, wv = .slice wa ws.length wc ∧ WaitAt w [p, bb] z wa wc ws := by
  obtain ⟨xs, ho, hx⟩ := h.ex
  obtain ⟨h1, ⟨rfl, h0⟩ | ⟨g, cap, cur, rfl, hg, hh, hle, hmx, hsz, htk⟩⟩ := ho
  · exact ⟨none, 0, by rw [h0], by rw [h0]; exact Nat.le_refl _, .inl h0⟩
  · refine ⟨_, cap, rfl, hle, .inr ⟨g, 0, rfl, ?_, (Array.getElem?_eq_some_iff.1 hh).1, fun j hj => ?_⟩⟩
    · have h2 := blk_ne (show Blk w g cur 85 from hh) kp (by decide)
      have h3 := hb g rfl
      simp only [List.mem_cons, List.not_mem_nil, or_false]
      omega
    · obtain ⟨q1, a, c, q2, q3, q4⟩ := hx j hj
      have get : ∀ k u, k < ws.length * 2 → xs[k]? = some u → w.cell? ⟨g, k, none⟩ = some u := fun k u hk hu => by
        rw [(show Blk w g cur 85 from hh).cell]
        rw [← htk, List.getElem?_take, if_pos hk] at hu
        simpa using hu
      refine ⟨by rw [Nat.zero_add, Nat.mul_comm]; exact get _ _ (by omega) q1, a, c, by rw [Nat.zero_add, Nat.mul_comm]; exact get _ _ (by omega) q2, q3.text, fun q hq => ?_⟩
      obtain ⟨ds, hds⟩ := q3.ty q hq
      have h2 := blk_ne hds kp (by decide)
      have h3 := q4 q hq
      simp only [List.mem_cons, List.not_mem_nil, or_false]
      omega
/-- A write more. -/
theorem run_append_wait {w : World} {N b n : Nat} {x y v : Value} {T : TypeId} {xs : List Value} (ty : TypeId) (hown : w.ownsRow N 85 2 v n xs) (hk : Blk w b #[x, y] T) (hx : x.oneCell' = true) (hy : y.oneCell' = true) (hn : n ≤ 1000) (hN : N ≤ w.heap.size) :
    ∃ v' w', (Builtin.append_ #[73, 73] ty #[v, .slice (some ⟨b, 0, none⟩) 1 1]).run Try.prog w = .ok v' w' ∧ FlowB.ButIn v.ownBlock.toList w w' ∧ w'.ownsRow N 85 2 v' (n + 1) (xs ++ [x, y]) ∧ (v'.ownBlock = v.ownBlock ∨ v'.ownBlock = some w.heap.size) := by
  obtain ⟨i, z, hi, hz, hzs, hsize, hby⟩ := info_write
  obtain ⟨v', w', h1, h2, h3, _, h5⟩ := run_append_own_at (P := Try.prog) w N 73 ty 85 i z 2 32 Try.underlying73 hi hz hsize hby hzs (by omega) v n xs hown ⟨b, 0, none⟩ 1 1 [x, y] rfl (news_blk (cs := [x, y]) hk) (fun u hu => by
    simp only [List.mem_cons, List.not_mem_nil, or_false] at hu
    rcases hu with rfl | rfl
    · exact hx
    · exact hy) (by unfold maxLen; omega) (by omega) hN
  exact ⟨v', w', h1, grown_in h3, h2, h5⟩
set_option maxHeartbeats 4000000 in
set_option maxRecDepth 100000 in
theorem has_out (w : World) (p bb z n : Nat) (B : List Int) (wv : Value) (on set : Bool) (af : Int) (kv : Value) (hd : DkAt w p bb z n B wv on set af kv) (i : Int) (hi : i < 0 ∨ (n : Int) ≤ i) :
    Calls Try.prog 43 #[.pointer (some ⟨p, 0, none⟩), .int .i64 i] w fun e w' => e = .returned (.bool false) ∧ Below w.heap.size w w' := by
  have Hb := hid (Below.refl w.heap.size w)
  have HD := hid hd
  clear hd
  go_enter Try.func43, Try.ntmps43
  by_cases h0 : 0 ≤ i
  · have h1 : ¬ i < (n : Int) := by omega
    go_wp2_with fail
    refine (sectors_any _ p bb z n B wv on set af kv HD.out).mono ?_
    rintro e w1 ⟨rfl, b1⟩
    have HB1 := hid b1
    clear b1
    go_wp2_with fail
    go_returns
    exact ⟨by first | rfl | (simp; omega), HB1.out⟩
  · go_wp2_with fail
    go_returns
    exact ⟨by first | rfl | simp, Hb.out⟩
set_option maxHeartbeats 4000000 in
set_option maxRecDepth 100000 in
theorem write_bad (w : World) (p bb z n : Nat) (B : List Int) (wv : Value) (set : Bool) (af : Int) (kv : Value) (hd : DkAt w p bb z n B wv true set af kv) (i : Int) (ta : Option Addr) (tn tc : Nat) (hi : i < 0 ∨ (n : Int) ≤ i ∨ tn ≠ z) :
    Calls Try.prog 16 #[.pointer (some ⟨p, 0, none⟩), .int .i64 i, .slice ta tn tc] w fun e w' => e = .returned (.int .i64 1) ∧ Below w.heap.size w w' := by
  have Hb := hid (Below.refl w.heap.size w)
  have HD := hid hd
  have cd3 : w.cell? ⟨p, 3, none⟩ = some (.bool true) := by rw [hd.kp.cell]; rfl
  clear hd
  go_enter Try.func16, Try.ntmps16
  go_wp2_with fail
  by_cases h : i < 0 ∨ (n : Int) ≤ i
  · refine (has_out _ p bb z n B wv true set af kv HD.out i h).mono ?_
    rintro e w1 ⟨rfl, b1⟩
    have HB1 := hid b1
    clear b1
    go_wp2_with fail
    go_returns
    exact ⟨by first | rfl | simp, HB1.out⟩
  · have hz : tn ≠ z := by omega
    refine (has_in _ p bb z n B wv true set af kv HD.out i (by omega) (by omega)).mono ?_
    rintro e w1 ⟨rfl, b1⟩
    have HB1 := hid b1
    have c0 : w1.cell? ⟨p, 0, none⟩ = some (.int .i64 z) := by rw [(HD.out.kp.below b1).cell]; rfl
    clear b1
    have hzI : ¬ (tn : Int) = (z : Int) := by omega
    have hzB : ((tn : Int) == (z : Int)) = false := by simp; omega
    go_wp2_with fail
    go_returns
    exact ⟨by first | rfl | simp, HB1.out⟩
set_option maxHeartbeats 4000000 in
set_option maxRecDepth 100000 in
theorem write_unsetU (w : World) (N p bb z n : Nat) (B : List Int) (wv : Value) (ws : List (Nat × List Int)) (af : Int) (kv : Value) (hd : DkAt w p bb z n B wv true false af kv) (hW : WaitU w N bb z wv ws) (hlw : ws.length ≤ 900) (hN : N ≤ w.heap.size) (i : Nat) (hi : i < n) (ta : Option Addr) (tc : Nat) (t : List Int) (hTo : TextO w (p :: wv.ownBlock.toList) ta z tc t) :
    Calls Try.prog 16 #[.pointer (some ⟨p, 0, none⟩), .int .i64 i, .slice ta z tc] w fun e w' => e = .returned (.int .i64 0) ∧ FlowB.ButIn (p :: wv.ownBlock.toList) w w' ∧ ∃ v2, DkAt w' p bb z n B v2 true false af kv ∧ WaitU w' N bb z v2 (ws ++ [(i, t)]) ∧ (v2.ownBlock = wv.ownBlock ∨ ∃ g, v2.ownBlock = some g ∧ w.heap.size ≤ g) := by
  have hTx := hTo.text
  have hTl := hTo.text.length
  have hz2 := hd.z2
  have hz1 : 0 < z := hd.z1
  obtain ⟨xs, hO, hx⟩ := hW.ex
  have hO0 := hO
  have hTp : ∀ q : Addr, ta = some q → q.block ≠ p := fun q hq e => hTo.out q hq (by simp [e])
  have hTo : ∀ q : Addr, ta = some q → wv.ownBlock ≠ some q.block := fun q hq e => hTo.out q hq (by simp [e])
  have hT := hTx
  have HD := hid hd
  have HT := hid hT
  have HO := hid hO
  have hpl := hd.kp.lt
  have hbl := hd.kb.lt
  have hne := owns_ne hd.kp hO (by decide)
  have hneb := owns_ne hd.kb hO (by decide)
  have hown : ∀ q ∈ wv.ownBlock.toList, q < w.heap.size ∧ q ≠ p ∧ q ≠ bb := fun q hq => by
    have hq' : wv.ownBlock = some q := by simpa using hq
    exact ⟨(hO.lt q hq').2, hne q hq', hneb q hq'⟩
  have cd3 : w.cell? ⟨p, 3, none⟩ = some (.bool true) := by rw [hd.kp.cell]; rfl
  have kp0 := hid hd.kp
  have HW := hid hW
  clear hd hT hO hne hneb hW hTx
  go_enter Try.func16, Try.ntmps16
  go_wp2_with fail
  refine (has_in _ p bb z n B wv true false af kv HD.out (i : Int) (by omega) (by omega)).mono ?_
  rintro e w1 ⟨rfl, b1⟩
  have HB1 := hid b1
  have HD1 := hid (HD.out.below b1)
  have hs1 := b1.size
  clear b1
  have cd0 : w1.cell? ⟨p, 0, none⟩ = some (.int .i64 z) := by rw [HD1.out.kp.cell]; rfl
  go_wp2_with fail
  refine (fails_unset _ p bb z n B _ true af kv HD1.out).mono ?_
  rintro e w2 ⟨rfl, b2⟩
  have HX2 := hid (ButIn.of_below (S := p :: wv.ownBlock.toList) (Below.on HB1.out b2))
  have HD2 := hid (HD1.out.below b2)
  have HT2 := hid (HT.out.below (Below.on HB1.out b2))
  have HO2 := hid (owns_in HO.out (ButIn.of_below (S := []) (Below.on HB1.out b2)) (by simp))
  have hs2 := b2.size
  clear b2
  have hN2 : N ≤ w2.heap.size := by omega
  go_wp2_with fail
  refine FlowB.wp_region_butIn wv.ownBlock.toList (fun y => y.ownsRow N 85 2 wv ws.length xs) 11 [0, 1, 2, 3, 4, 5, 6] [] [(.c 7, [8], [9]), (.b 9, [], []), (.c 10, [], [])] (by kernel_rfl) (by kernel_rfl) HO2.out (fun _ _ h hb => owns_in h (ButIn.of_below (S := []) hb) (by simp)) ?_
  apply Exists.intro
  refine ⟨fun w0 hb0 hF0 => ?_, ?_⟩
  · skip
    have y0 : ∀ w', (∃ x : Ext w0, w' = x.at_) → w'.cell? ⟨p, 2, none⟩ = some wv := fun w' ⟨x, hx⟩ => by rw [hx, ((hb0.blk HD2.out.kp (fun hm => (hown p hm).2.1 rfl)).below x.same).cell]; rfl
    simp only [pick, List.getElem?_toArray, List.getElem?_cons_succ, List.getElem?_cons_zero, Option.toList_some, List.cons_append, List.nil_append]
    repeat (first | (go_big_quiet_want; refine quiet_load_one 73 _ rfl ⟨p, 2, none⟩ rfl _ y0 _ Try.underlying73 rfl ?_; go_big_quiet_on; simp only [Act.put, List.setIfInBounds_toArray, List.set_cons_zero, List.set_cons_succ]) | go_big_quiet_step (fail))
    exact wpQuiet_nil rfl
  refine FlowB.AlChk.nil ?_
  refine FlowB.Walk.call rfl 42 #[.slice ta z tc] (fun v y => ∃ q c, v = .slice (some q) z c ∧ TextU y (some q) z c t ∧ w2.heap.size ≤ q.block) (fun _ y => y.ownsRow N 85 2 wv ws.length xs) (fun v y y' _ h k => by
    obtain ⟨q, c, h1, h2, h3⟩ := h
    have hq : q.block ∉ wv.ownBlock.toList := fun hm => by have := (hown _ hm).1; omega
    refine ⟨q, c, h1, ⟨h2.text.butIn (fun q' hq' => by cases hq'; exact hq) k, fun q' hq' => ?_⟩, h3⟩
    cases hq'
    obtain ⟨cs, hcs⟩ := h2.ty q rfl
    exact ⟨cs, k.blk hcs hq⟩) (fun _ _ _ h k => owns_in h (ButIn.of_below (S := []) k) (by simp)) rfl (fun y1 hy1 hF1 hG1 => ⟨by go_simp, ?_⟩) ?_
  · refine (clone_any (HT2.out.butIn (S := wv.ownBlock.toList) (fun q hq hm => hTo q hq (by simpa using hm)) hy1) (by omega)).mono ?_
    rintro e y2 ⟨a, c, rfl, b2, t2, o2⟩
    obtain ⟨x, o, rfl, -, -⟩ := t2.at_ hz1
    refine ⟨_, rfl, ButIn.of_below b2, ⟨_, c, rfl, ⟨t2, fun q hq => (o2 q hq).2⟩, Nat.le_trans hy1.size (o2 _ rfl).1⟩, owns_in hG1 (ButIn.of_below (S := []) b2) (by simp)⟩
  rintro v1 y1 hy1 hF1 ⟨qa, c1, rfl, _, hqa⟩
  apply Exists.intro
  refine ⟨fun w0 hb0 hF0 => ?_, ?_⟩
  · skip
    simp only [pick, List.getElem?_toArray, List.getElem?_cons_succ, List.getElem?_cons_zero, Option.toList_some, List.cons_append, List.nil_append, Act.put, List.setIfInBounds_toArray, List.set_cons_zero, List.set_cons_succ]
    repeat (first | go_big_quiet_step (fail))
    exact wpQuiet_nil rfl
  refine FlowB.AlChk.one rfl (fun b => .slice (some ⟨b, 0, none⟩) 1 1) (.cells #[.int .i64 (i : Int), .slice (some qa) z c1] 85 (0, 0)) rfl (st_butL _ (fun b hb => by have := (hown b hb).1; omega)) (fun w3 hb3 hF3 => exec_build_write rfl (by go_simp)) ?_
  refine FlowB.AlChk.nil ?_
  refine FlowB.Walk.blk rfl (fun b => .slice (some ⟨b, 0, none⟩) 1 1) (.cells #[.int .i64 (i : Int), .slice (some qa) z c1] 85 (0, 0)) (by simp) ?_
  intro b9 wz hbz_ hFz hge9 _
  apply Exists.intro
  refine ⟨fun w4 hb4 hF4 => wpQuiet_nil rfl, ?_⟩
  refine FlowB.AlChk.nil ?_
  refine FlowB.Walk.does rfl (fun v _ => v.ownBlock = wv.ownBlock ∨ ∃ g, v.ownBlock = some g ∧ w2.heap.size ≤ g) (fun v y => y.ownsRow N 85 2 v (ws.length + 1) (xs ++ [.int .i64 (i : Int), .slice (some qa) z c1])) (fun _ _ _ _ h _ => h) (fun _ _ _ h k => owns_in h (ButIn.of_below (S := []) k) (by simp)) rfl (fun y3 hy3 hF3 hG3 => ?_) ?_
  · obtain ⟨v', y4, hr, hb4, ho4, hat⟩ := run_append_wait (b := b9) (x := .int .i64 (i : Int)) (y := .slice (some qa) z c1) (T := 85) 73 hG3 hF3.2 rfl rfl (by omega) (Nat.le_trans hN2 hy3.size)
    exact ⟨v', y4, FlowB.exec_append rfl rfl rfl hr, hb4, hat.imp id (fun e => ⟨_, e, hy3.size⟩), ho4⟩
  rintro v2 y2 hy2 hF2 hv2
  apply Exists.intro
  refine ⟨fun w4 hb4 hF4 => wpQuiet_nil rfl, ?_⟩
  refine FlowB.AlChk.nil ?_
  refine FlowB.Walk.fin fun w3 hw3 hFw3 hG3 => ?_
  simp only [List.drop_succ_cons, List.drop_zero]
  obtain ⟨q1, c1', he, hTU, _⟩ := hFw3.1.1.2
  cases he
  have HTU := hid hTU
  have HG3 := hid hG3
  have HX3 := hid (ButIn.on HX2.out (ButIn.wide hw3 (fun b hb => List.mem_cons_of_mem _ hb)))
  have HD3 := hid (show DkAt w3 p bb z n B wv true false af kv from ⟨hw3.blk HD2.out.kp (fun hm => (hown p hm).2.1 rfl), hw3.blk HD2.out.kb (fun hm => (hown bb hm).2.2 rfl), HD2.out.ne, HD2.out.len, HD2.out.z1, HD2.out.z2, HD2.out.n1, HD2.out.n2, HD2.out.small⟩)
  clear hw3 hFw3 hG3 hTU hbz_ hFz
  go_wp2_with (
        refine wpList_store_cell rfl 73 _ _ rfl p 2 v2 rfl rfl (by exact owns_one HG3.out) (by exact owns_cells HG3.out) (dkC z B.length bb wv true false af kv) 75 HD3.out.kp (by simp [dkC]) size_waits ?_
        intro w9 hb9 hk9
        have Hb9 := hid hb9
        have Kd9 := hid (show Blk w9 p (dkC z B.length bb v2 true false af kv) 75 from hk9)
        have c6 : w9.cell? ⟨p, 6, none⟩ = some kv := by rw [Kd9.out.cell]; rfl
        clear hb9 hk9)
  have hs3 := HX3.out.size
  have HD9 := hid (show DkAt w9 p bb z n B v2 true false af kv from ⟨Kd9.out, Hb9.out.blk HD3.out.kb (Ne.symm HD3.out.ne), HD3.out.ne, HD3.out.len, HD3.out.z1, HD3.out.z2, HD3.out.n1, HD3.out.n2, HD3.out.small⟩)
  have HX9 := hid (ButIn.on HX3.out (ButIn.of_but (S := p :: wv.ownBlock.toList) Hb9.out (by simp)))
  have hv2p := owns_ne HD3.out.kp HG3.out (by decide)
  have hv2b := owns_ne HD3.out.kb HG3.out (by decide)
  have HO9 := hid (owns_in HG3.out (ButIn.of_but (S := [p]) Hb9.out (by simp)) (fun b hb => by simpa using hv2p b hb))
  have hqp : qa.block ≠ p := by omega
  have hqb : qa.block ≠ bb := by omega
  have HTU9 := hid (HTU.out.in_ (ButIn.of_but (S := [p]) Hb9.out (by simp)) (fun q hq => by cases hq; simpa using hqp))
  have HW9 := hid (show WaitU w9 N bb z v2 (ws ++ [(i, t)]) from ⟨xs ++ [.int .i64 (i : Int), .slice (some qa) z c1], by simpa using HO9.out, fun j hj => by
    have hxl := hO0.1
    by_cases hjw : j < ws.length
    · obtain ⟨e1, a, c, e2, e3, e4⟩ := hx j hjw
      have eg : (ws ++ [(i, t)]).getD j (0, []) = ws.getD j (0, []) := by rw [List.getD_eq_getElem?_getD, List.getD_eq_getElem?_getD, List.getElem?_append_left hjw]
      rw [eg, List.getElem?_append_left (by omega), List.getElem?_append_left (by omega)]
      refine ⟨e1, a, c, e2, e3.in_ HX9.out (fun q hq => ?_), e4⟩
      obtain ⟨ds, hds⟩ := e3.ty q hq
      simp only [List.mem_cons, Option.mem_toList, not_or]
      refine ⟨blk_ne hds kp0.out (by decide), fun hm => ?_⟩
      obtain ⟨cs, hcs⟩ := owns_blk hO0 hm
      exact blk_ne hds hcs (by decide) rfl
    · have hjn : j = ws.length := by simp at hj; omega
      subst hjn
      rw [List.getElem?_append_right (by omega), List.getElem?_append_right (by omega), List.getD_eq_getElem?_getD, List.getElem?_append_right (Nat.le_refl _), hxl, show 2 * ws.length - ws.length * 2 = 0 by omega, show 2 * ws.length + 1 - ws.length * 2 = 1 by omega, Nat.sub_self]
      exact ⟨rfl, some qa, c1, rfl, HTU9.out, fun q hq => by cases hq; exact hqb⟩⟩)
  have hv2o : v2.ownBlock = wv.ownBlock ∨ ∃ g, v2.ownBlock = some g ∧ w.heap.size ≤ g := hv2.imp id (fun ⟨g, h1, h2⟩ => ⟨g, h1, by omega⟩)
  go_wp2_with fail
  go_returns
  exact ⟨by first | rfl | simp, HX9.out, v2, HD9.out, HW9.out, hv2o⟩
set_option maxHeartbeats 4000000 in
set_option maxRecDepth 100000 in
theorem write_countU (w : World) (N p bb z n : Nat) (B : List Int) (wv : Value) (ws : List (Nat × List Int)) (af : Int) (kv : Value) (hd : DkAt w p bb z n B wv true true af kv) (h0 : 0 < af) (h1 : af < 9223372036854775808) (hW : WaitU w N bb z wv ws) (hlw : ws.length ≤ 900) (hN : N ≤ w.heap.size) (i : Nat) (hi : i < n) (ta : Option Addr) (tc : Nat) (t : List Int) (hTo : TextO w (p :: wv.ownBlock.toList) ta z tc t) :
    Calls Try.prog 16 #[.pointer (some ⟨p, 0, none⟩), .int .i64 i, .slice ta z tc] w fun e w' => e = .returned (.int .i64 0) ∧ FlowB.ButIn (p :: wv.ownBlock.toList) w w' ∧ ∃ v2, DkAt w' p bb z n B v2 true true (af - 1) kv ∧ WaitU w' N bb z v2 (ws ++ [(i, t)]) ∧ (v2.ownBlock = wv.ownBlock ∨ ∃ g, v2.ownBlock = some g ∧ w.heap.size ≤ g) := by
  have hTx := hTo.text
  have hTl := hTo.text.length
  have hz2 := hd.z2
  have hz1 : 0 < z := hd.z1
  obtain ⟨xs, hO, hx⟩ := hW.ex
  have hO0 := hO
  have hTp : ∀ q : Addr, ta = some q → q.block ≠ p := fun q hq e => hTo.out q hq (by simp [e])
  have hTo : ∀ q : Addr, ta = some q → wv.ownBlock ≠ some q.block := fun q hq e => hTo.out q hq (by simp [e])
  have hT := hTx
  have HD := hid hd
  have HT := hid hT
  have HO := hid hO
  have hpl := hd.kp.lt
  have hbl := hd.kb.lt
  have hne := owns_ne hd.kp hO (by decide)
  have hneb := owns_ne hd.kb hO (by decide)
  have hown : ∀ q ∈ wv.ownBlock.toList, q < w.heap.size ∧ q ≠ p ∧ q ≠ bb := fun q hq => by
    have hq' : wv.ownBlock = some q := by simpa using hq
    exact ⟨(hO.lt q hq').2, hne q hq', hneb q hq'⟩
  have cd3 : w.cell? ⟨p, 3, none⟩ = some (.bool true) := by rw [hd.kp.cell]; rfl
  have kp0 := hid hd.kp
  have HW := hid hW
  clear hd hT hO hne hneb hW hTx
  go_enter Try.func16, Try.ntmps16
  go_wp2_with fail
  refine (has_in _ p bb z n B wv true true af kv HD.out (i : Int) (by omega) (by omega)).mono ?_
  rintro e w1 ⟨rfl, b1⟩
  have HB1 := hid b1
  have HD1 := hid (HD.out.below b1)
  have hs1 := b1.size
  clear b1
  have cd0 : w1.cell? ⟨p, 0, none⟩ = some (.int .i64 z) := by rw [HD1.out.kp.cell]; rfl
  go_wp2_with fail
  refine (fails_count _ p bb z n B _ true af kv HD1.out h0 h1).mono ?_
  rintro e w2 ⟨rfl, b2, d2⟩
  have HX2 := hid (ButIn.on (ButIn.of_below (S := p :: wv.ownBlock.toList) HB1.out) (ButIn.of_but b2 (by simp)))
  have HD2 := hid d2
  have HT2 := hid (HT.out.butIn (S := [p]) (fun q hq => by have := hTp q hq; simpa using this) (ButIn.on (ButIn.of_below HB1.out) (ButIn.of_but b2 (by simp))))
  have HO2 := hid (owns_in (owns_in HO.out (ButIn.of_below (S := []) HB1.out) (by simp)) (ButIn.of_but (S := [p]) b2 (by simp)) (fun q hq => by have := hown q (by simp [hq]); simp; omega))
  have hs2 := b2.size
  clear b2 d2
  have hN2 : N ≤ w2.heap.size := by omega
  go_wp2_with fail
  refine FlowB.wp_region_butIn wv.ownBlock.toList (fun y => y.ownsRow N 85 2 wv ws.length xs) 11 [0, 1, 2, 3, 4, 5, 6] [] [(.c 7, [8], [9]), (.b 9, [], []), (.c 10, [], [])] (by kernel_rfl) (by kernel_rfl) HO2.out (fun _ _ h hb => owns_in h (ButIn.of_below (S := []) hb) (by simp)) ?_
  apply Exists.intro
  refine ⟨fun w0 hb0 hF0 => ?_, ?_⟩
  · skip
    have y0 : ∀ w', (∃ x : Ext w0, w' = x.at_) → w'.cell? ⟨p, 2, none⟩ = some wv := fun w' ⟨x, hx⟩ => by rw [hx, ((hb0.blk HD2.out.kp (fun hm => (hown p hm).2.1 rfl)).below x.same).cell]; rfl
    simp only [pick, List.getElem?_toArray, List.getElem?_cons_succ, List.getElem?_cons_zero, Option.toList_some, List.cons_append, List.nil_append]
    repeat (first | (go_big_quiet_want; refine quiet_load_one 73 _ rfl ⟨p, 2, none⟩ rfl _ y0 _ Try.underlying73 rfl ?_; go_big_quiet_on; simp only [Act.put, List.setIfInBounds_toArray, List.set_cons_zero, List.set_cons_succ]) | go_big_quiet_step (fail))
    exact wpQuiet_nil rfl
  refine FlowB.AlChk.nil ?_
  refine FlowB.Walk.call rfl 42 #[.slice ta z tc] (fun v y => ∃ q c, v = .slice (some q) z c ∧ TextU y (some q) z c t ∧ w2.heap.size ≤ q.block) (fun _ y => y.ownsRow N 85 2 wv ws.length xs) (fun v y y' _ h k => by
    obtain ⟨q, c, h1, h2, h3⟩ := h
    have hq : q.block ∉ wv.ownBlock.toList := fun hm => by have := (hown _ hm).1; omega
    refine ⟨q, c, h1, ⟨h2.text.butIn (fun q' hq' => by cases hq'; exact hq) k, fun q' hq' => ?_⟩, h3⟩
    cases hq'
    obtain ⟨cs, hcs⟩ := h2.ty q rfl
    exact ⟨cs, k.blk hcs hq⟩) (fun _ _ _ h k => owns_in h (ButIn.of_below (S := []) k) (by simp)) rfl (fun y1 hy1 hF1 hG1 => ⟨by go_simp, ?_⟩) ?_
  · refine (clone_any (HT2.out.butIn (S := wv.ownBlock.toList) (fun q hq hm => hTo q hq (by simpa using hm)) hy1) (by omega)).mono ?_
    rintro e y2 ⟨a, c, rfl, b2, t2, o2⟩
    obtain ⟨x, o, rfl, -, -⟩ := t2.at_ hz1
    refine ⟨_, rfl, ButIn.of_below b2, ⟨_, c, rfl, ⟨t2, fun q hq => (o2 q hq).2⟩, Nat.le_trans hy1.size (o2 _ rfl).1⟩, owns_in hG1 (ButIn.of_below (S := []) b2) (by simp)⟩
  rintro v1 y1 hy1 hF1 ⟨qa, c1, rfl, _, hqa⟩
  apply Exists.intro
  refine ⟨fun w0 hb0 hF0 => ?_, ?_⟩
  · skip
    simp only [pick, List.getElem?_toArray, List.getElem?_cons_succ, List.getElem?_cons_zero, Option.toList_some, List.cons_append, List.nil_append, Act.put, List.setIfInBounds_toArray, List.set_cons_zero, List.set_cons_succ]
    repeat (first | go_big_quiet_step (fail))
    exact wpQuiet_nil rfl
  refine FlowB.AlChk.one rfl (fun b => .slice (some ⟨b, 0, none⟩) 1 1) (.cells #[.int .i64 (i : Int), .slice (some qa) z c1] 85 (0, 0)) rfl (st_butL _ (fun b hb => by have := (hown b hb).1; omega)) (fun w3 hb3 hF3 => exec_build_write rfl (by go_simp)) ?_
  refine FlowB.AlChk.nil ?_
  refine FlowB.Walk.blk rfl (fun b => .slice (some ⟨b, 0, none⟩) 1 1) (.cells #[.int .i64 (i : Int), .slice (some qa) z c1] 85 (0, 0)) (by simp) ?_
  intro b9 wz hbz_ hFz hge9 _
  apply Exists.intro
  refine ⟨fun w4 hb4 hF4 => wpQuiet_nil rfl, ?_⟩
  refine FlowB.AlChk.nil ?_
  refine FlowB.Walk.does rfl (fun v _ => v.ownBlock = wv.ownBlock ∨ ∃ g, v.ownBlock = some g ∧ w2.heap.size ≤ g) (fun v y => y.ownsRow N 85 2 v (ws.length + 1) (xs ++ [.int .i64 (i : Int), .slice (some qa) z c1])) (fun _ _ _ _ h _ => h) (fun _ _ _ h k => owns_in h (ButIn.of_below (S := []) k) (by simp)) rfl (fun y3 hy3 hF3 hG3 => ?_) ?_
  · obtain ⟨v', y4, hr, hb4, ho4, hat⟩ := run_append_wait (b := b9) (x := .int .i64 (i : Int)) (y := .slice (some qa) z c1) (T := 85) 73 hG3 hF3.2 rfl rfl (by omega) (Nat.le_trans hN2 hy3.size)
    exact ⟨v', y4, FlowB.exec_append rfl rfl rfl hr, hb4, hat.imp id (fun e => ⟨_, e, hy3.size⟩), ho4⟩
  rintro v2 y2 hy2 hF2 hv2
  apply Exists.intro
  refine ⟨fun w4 hb4 hF4 => wpQuiet_nil rfl, ?_⟩
  refine FlowB.AlChk.nil ?_
  refine FlowB.Walk.fin fun w3 hw3 hFw3 hG3 => ?_
  simp only [List.drop_succ_cons, List.drop_zero]
  obtain ⟨q1, c1', he, hTU, _⟩ := hFw3.1.1.2
  cases he
  have HTU := hid hTU
  have HG3 := hid hG3
  have HX3 := hid (ButIn.on HX2.out (ButIn.wide hw3 (fun b hb => List.mem_cons_of_mem _ hb)))
  have HD3 := hid (show DkAt w3 p bb z n B wv true true (af - 1) kv from ⟨hw3.blk HD2.out.kp (fun hm => (hown p hm).2.1 rfl), hw3.blk HD2.out.kb (fun hm => (hown bb hm).2.2 rfl), HD2.out.ne, HD2.out.len, HD2.out.z1, HD2.out.z2, HD2.out.n1, HD2.out.n2, HD2.out.small⟩)
  clear hw3 hFw3 hG3 hTU hbz_ hFz
  go_wp2_with (
        refine wpList_store_cell rfl 73 _ _ rfl p 2 v2 rfl rfl (by exact owns_one HG3.out) (by exact owns_cells HG3.out) (dkC z B.length bb wv true true (af - 1) kv) 75 HD3.out.kp (by simp [dkC]) size_waits ?_
        intro w9 hb9 hk9
        have Hb9 := hid hb9
        have Kd9 := hid (show Blk w9 p (dkC z B.length bb v2 true true (af - 1) kv) 75 from hk9)
        have c6 : w9.cell? ⟨p, 6, none⟩ = some kv := by rw [Kd9.out.cell]; rfl
        clear hb9 hk9)
  have hs3 := HX3.out.size
  have HD9 := hid (show DkAt w9 p bb z n B v2 true true (af - 1) kv from ⟨Kd9.out, Hb9.out.blk HD3.out.kb (Ne.symm HD3.out.ne), HD3.out.ne, HD3.out.len, HD3.out.z1, HD3.out.z2, HD3.out.n1, HD3.out.n2, HD3.out.small⟩)
  have HX9 := hid (ButIn.on HX3.out (ButIn.of_but (S := p :: wv.ownBlock.toList) Hb9.out (by simp)))
  have hv2p := owns_ne HD3.out.kp HG3.out (by decide)
  have hv2b := owns_ne HD3.out.kb HG3.out (by decide)
  have HO9 := hid (owns_in HG3.out (ButIn.of_but (S := [p]) Hb9.out (by simp)) (fun b hb => by simpa using hv2p b hb))
  have hqp : qa.block ≠ p := by omega
  have hqb : qa.block ≠ bb := by omega
  have HTU9 := hid (HTU.out.in_ (ButIn.of_but (S := [p]) Hb9.out (by simp)) (fun q hq => by cases hq; simpa using hqp))
  have HW9 := hid (show WaitU w9 N bb z v2 (ws ++ [(i, t)]) from ⟨xs ++ [.int .i64 (i : Int), .slice (some qa) z c1], by simpa using HO9.out, fun j hj => by
    have hxl := hO0.1
    by_cases hjw : j < ws.length
    · obtain ⟨e1, a, c, e2, e3, e4⟩ := hx j hjw
      have eg : (ws ++ [(i, t)]).getD j (0, []) = ws.getD j (0, []) := by rw [List.getD_eq_getElem?_getD, List.getD_eq_getElem?_getD, List.getElem?_append_left hjw]
      rw [eg, List.getElem?_append_left (by omega), List.getElem?_append_left (by omega)]
      refine ⟨e1, a, c, e2, e3.in_ HX9.out (fun q hq => ?_), e4⟩
      obtain ⟨ds, hds⟩ := e3.ty q hq
      simp only [List.mem_cons, Option.mem_toList, not_or]
      refine ⟨blk_ne hds kp0.out (by decide), fun hm => ?_⟩
      obtain ⟨cs, hcs⟩ := owns_blk hO0 hm
      exact blk_ne hds hcs (by decide) rfl
    · have hjn : j = ws.length := by simp at hj; omega
      subst hjn
      rw [List.getElem?_append_right (by omega), List.getElem?_append_right (by omega), List.getD_eq_getElem?_getD, List.getElem?_append_right (Nat.le_refl _), hxl, show 2 * ws.length - ws.length * 2 = 0 by omega, show 2 * ws.length + 1 - ws.length * 2 = 1 by omega, Nat.sub_self]
      exact ⟨rfl, some qa, c1, rfl, HTU9.out, fun q hq => by cases hq; exact hqb⟩⟩)
  have hv2o : v2.ownBlock = wv.ownBlock ∨ ∃ g, v2.ownBlock = some g ∧ w.heap.size ≤ g := hv2.imp id (fun ⟨g, h1, h2⟩ => ⟨g, h1, by omega⟩)
  go_wp2_with fail
  go_returns
  exact ⟨by first | rfl | simp, HX9.out, v2, HD9.out, HW9.out, hv2o⟩
set_option maxHeartbeats 4000000 in
set_option maxRecDepth 100000 in
theorem write_hitU (w : World) (N p bb z n : Nat) (B : List Int) (wv : Value) (ws : List (Nat × List Int)) (af : Int) (ka : Option Addr) (kc : Nat) (ks : List Int) (hd : DkAt w p bb z n B wv true true af (.slice ka ks.length kc)) (h0 : af ≤ 0) (hK : IntsAt w (p :: bb :: wv.ownBlock.toList) ka ks) (hkw : ∀ k ∈ ks, -9223372036854775808 ≤ k ∧ k ≤ 9223372036854775807) (hwi : ∀ x ∈ ws, x.1 < n ∧ x.2.length = z) (hW : WaitU w N bb z wv ws) (hlw : ws.length ≤ 900) (hN : N ≤ w.heap.size) (i : Nat) (hi : i < n) (ta : Option Addr) (tc : Nat) (t : List Int) (hTo : TextO w (p :: wv.ownBlock.toList) ta z tc t) :
    Calls Try.prog 16 #[.pointer (some ⟨p, 0, none⟩), .int .i64 i, .slice ta z tc] w fun e w' => e = .returned (.int .i64 9) ∧ FlowB.ButIn (p :: bb :: wv.ownBlock.toList) w w' ∧ DkAt w' p bb z n (crashN z ks (ws ++ [(i, t)]) B (ws.length + 1)) (.slice none 0 0) false true af (.slice ka ks.length kc) := by
  have hTx := hTo.text
  have hTl := hTo.text.length
  have hz2 := hd.z2
  have hz1 : 0 < z := hd.z1
  obtain ⟨xs, hO, hx⟩ := hW.ex
  have hO0 := hO
  have hTp : ∀ q : Addr, ta = some q → q.block ≠ p := fun q hq e => hTo.out q hq (by simp [e])
  have hTo : ∀ q : Addr, ta = some q → wv.ownBlock ≠ some q.block := fun q hq e => hTo.out q hq (by simp [e])
  have hT := hTx
  have HD := hid hd
  have HT := hid hT
  have HO := hid hO
  have hpl := hd.kp.lt
  have hbl := hd.kb.lt
  have hne := owns_ne hd.kp hO (by decide)
  have hneb := owns_ne hd.kb hO (by decide)
  have hown : ∀ q ∈ wv.ownBlock.toList, q < w.heap.size ∧ q ≠ p ∧ q ≠ bb := fun q hq => by
    have hq' : wv.ownBlock = some q := by simpa using hq
    exact ⟨(hO.lt q hq').2, hne q hq', hneb q hq'⟩
  have cd3 : w.cell? ⟨p, 3, none⟩ = some (.bool true) := by rw [hd.kp.cell]; rfl
  have kp0 := hid hd.kp
  have HW := hid hW
  clear hd hT hO hne hneb hW hTx
  go_enter Try.func16, Try.ntmps16
  go_wp2_with fail
  refine (has_in _ p bb z n B wv true true af (.slice ka ks.length kc) HD.out (i : Int) (by omega) (by omega)).mono ?_
  rintro e w1 ⟨rfl, b1⟩
  have HB1 := hid b1
  have HD1 := hid (HD.out.below b1)
  have hs1 := b1.size
  clear b1
  have cd0 : w1.cell? ⟨p, 0, none⟩ = some (.int .i64 z) := by rw [HD1.out.kp.cell]; rfl
  go_wp2_with fail
  refine (fails_hit _ p bb z n B _ true af (.slice ka ks.length kc) HD1.out h0).mono ?_
  rintro e w2 ⟨rfl, b2⟩
  have HX2 := hid (ButIn.of_below (S := p :: wv.ownBlock.toList) (Below.on HB1.out b2))
  have HD2 := hid (HD1.out.below b2)
  have HT2 := hid (HT.out.below (Below.on HB1.out b2))
  have HO2 := hid (owns_in HO.out (ButIn.of_below (S := []) (Below.on HB1.out b2)) (by simp))
  have hs2 := b2.size
  clear b2
  have hN2 : N ≤ w2.heap.size := by omega
  go_wp2_with fail
  refine FlowB.wp_region_butIn wv.ownBlock.toList (fun y => y.ownsRow N 85 2 wv ws.length xs) 11 [0, 1, 2, 3, 4, 5, 6] [] [(.c 7, [8], [9]), (.b 9, [], []), (.c 10, [], [])] (by kernel_rfl) (by kernel_rfl) HO2.out (fun _ _ h hb => owns_in h (ButIn.of_below (S := []) hb) (by simp)) ?_
  apply Exists.intro
  refine ⟨fun w0 hb0 hF0 => ?_, ?_⟩
  · skip
    have y0 : ∀ w', (∃ x : Ext w0, w' = x.at_) → w'.cell? ⟨p, 2, none⟩ = some wv := fun w' ⟨x, hx⟩ => by rw [hx, ((hb0.blk HD2.out.kp (fun hm => (hown p hm).2.1 rfl)).below x.same).cell]; rfl
    simp only [pick, List.getElem?_toArray, List.getElem?_cons_succ, List.getElem?_cons_zero, Option.toList_some, List.cons_append, List.nil_append]
    repeat (first | (go_big_quiet_want; refine quiet_load_one 73 _ rfl ⟨p, 2, none⟩ rfl _ y0 _ Try.underlying73 rfl ?_; go_big_quiet_on; simp only [Act.put, List.setIfInBounds_toArray, List.set_cons_zero, List.set_cons_succ]) | go_big_quiet_step (fail))
    exact wpQuiet_nil rfl
  refine FlowB.AlChk.nil ?_
  refine FlowB.Walk.call rfl 42 #[.slice ta z tc] (fun v y => ∃ q c, v = .slice (some q) z c ∧ TextU y (some q) z c t ∧ w2.heap.size ≤ q.block) (fun _ y => y.ownsRow N 85 2 wv ws.length xs) (fun v y y' _ h k => by
    obtain ⟨q, c, h1, h2, h3⟩ := h
    have hq : q.block ∉ wv.ownBlock.toList := fun hm => by have := (hown _ hm).1; omega
    refine ⟨q, c, h1, ⟨h2.text.butIn (fun q' hq' => by cases hq'; exact hq) k, fun q' hq' => ?_⟩, h3⟩
    cases hq'
    obtain ⟨cs, hcs⟩ := h2.ty q rfl
    exact ⟨cs, k.blk hcs hq⟩) (fun _ _ _ h k => owns_in h (ButIn.of_below (S := []) k) (by simp)) rfl (fun y1 hy1 hF1 hG1 => ⟨by go_simp, ?_⟩) ?_
  · refine (clone_any (HT2.out.butIn (S := wv.ownBlock.toList) (fun q hq hm => hTo q hq (by simpa using hm)) hy1) (by omega)).mono ?_
    rintro e y2 ⟨a, c, rfl, b2, t2, o2⟩
    obtain ⟨x, o, rfl, -, -⟩ := t2.at_ hz1
    refine ⟨_, rfl, ButIn.of_below b2, ⟨_, c, rfl, ⟨t2, fun q hq => (o2 q hq).2⟩, Nat.le_trans hy1.size (o2 _ rfl).1⟩, owns_in hG1 (ButIn.of_below (S := []) b2) (by simp)⟩
  rintro v1 y1 hy1 hF1 ⟨qa, c1, rfl, _, hqa⟩
  apply Exists.intro
  refine ⟨fun w0 hb0 hF0 => ?_, ?_⟩
  · skip
    simp only [pick, List.getElem?_toArray, List.getElem?_cons_succ, List.getElem?_cons_zero, Option.toList_some, List.cons_append, List.nil_append, Act.put, List.setIfInBounds_toArray, List.set_cons_zero, List.set_cons_succ]
    repeat (first | go_big_quiet_step (fail))
    exact wpQuiet_nil rfl
  refine FlowB.AlChk.one rfl (fun b => .slice (some ⟨b, 0, none⟩) 1 1) (.cells #[.int .i64 (i : Int), .slice (some qa) z c1] 85 (0, 0)) rfl (st_butL _ (fun b hb => by have := (hown b hb).1; omega)) (fun w3 hb3 hF3 => exec_build_write rfl (by go_simp)) ?_
  refine FlowB.AlChk.nil ?_
  refine FlowB.Walk.blk rfl (fun b => .slice (some ⟨b, 0, none⟩) 1 1) (.cells #[.int .i64 (i : Int), .slice (some qa) z c1] 85 (0, 0)) (by simp) ?_
  intro b9 wz hbz_ hFz hge9 _
  apply Exists.intro
  refine ⟨fun w4 hb4 hF4 => wpQuiet_nil rfl, ?_⟩
  refine FlowB.AlChk.nil ?_
  refine FlowB.Walk.does rfl (fun v _ => v.ownBlock = wv.ownBlock ∨ ∃ g, v.ownBlock = some g ∧ w2.heap.size ≤ g) (fun v y => y.ownsRow N 85 2 v (ws.length + 1) (xs ++ [.int .i64 (i : Int), .slice (some qa) z c1])) (fun _ _ _ _ h _ => h) (fun _ _ _ h k => owns_in h (ButIn.of_below (S := []) k) (by simp)) rfl (fun y3 hy3 hF3 hG3 => ?_) ?_
  · obtain ⟨v', y4, hr, hb4, ho4, hat⟩ := run_append_wait (b := b9) (x := .int .i64 (i : Int)) (y := .slice (some qa) z c1) (T := 85) 73 hG3 hF3.2 rfl rfl (by omega) (Nat.le_trans hN2 hy3.size)
    exact ⟨v', y4, FlowB.exec_append rfl rfl rfl hr, hb4, hat.imp id (fun e => ⟨_, e, hy3.size⟩), ho4⟩
  rintro v2 y2 hy2 hF2 hv2
  apply Exists.intro
  refine ⟨fun w4 hb4 hF4 => wpQuiet_nil rfl, ?_⟩
  refine FlowB.AlChk.nil ?_
  refine FlowB.Walk.fin fun w3 hw3 hFw3 hG3 => ?_
  simp only [List.drop_succ_cons, List.drop_zero]
  obtain ⟨q1, c1', he, hTU, _⟩ := hFw3.1.1.2
  cases he
  have HTU := hid hTU
  have HG3 := hid hG3
  have HX3 := hid (ButIn.on HX2.out (ButIn.wide hw3 (fun b hb => List.mem_cons_of_mem _ hb)))
  have HD3 := hid (show DkAt w3 p bb z n B wv true true af (.slice ka ks.length kc) from ⟨hw3.blk HD2.out.kp (fun hm => (hown p hm).2.1 rfl), hw3.blk HD2.out.kb (fun hm => (hown bb hm).2.2 rfl), HD2.out.ne, HD2.out.len, HD2.out.z1, HD2.out.z2, HD2.out.n1, HD2.out.n2, HD2.out.small⟩)
  clear hw3 hFw3 hG3 hTU hbz_ hFz
  go_wp2_with (
        refine wpList_store_cell rfl 73 _ _ rfl p 2 v2 rfl rfl (by exact owns_one HG3.out) (by exact owns_cells HG3.out) (dkC z B.length bb wv true true af (.slice ka ks.length kc)) 75 HD3.out.kp (by simp [dkC]) size_waits ?_
        intro w9 hb9 hk9
        have Hb9 := hid hb9
        have Kd9 := hid (show Blk w9 p (dkC z B.length bb v2 true true af (.slice ka ks.length kc)) 75 from hk9)
        have c6 : w9.cell? ⟨p, 6, none⟩ = some (.slice ka ks.length kc) := by rw [Kd9.out.cell]; rfl
        clear hb9 hk9)
  have hs3 := HX3.out.size
  have HD9 := hid (show DkAt w9 p bb z n B v2 true true af (.slice ka ks.length kc) from ⟨Kd9.out, Hb9.out.blk HD3.out.kb (Ne.symm HD3.out.ne), HD3.out.ne, HD3.out.len, HD3.out.z1, HD3.out.z2, HD3.out.n1, HD3.out.n2, HD3.out.small⟩)
  have HX9 := hid (ButIn.on HX3.out (ButIn.of_but (S := p :: wv.ownBlock.toList) Hb9.out (by simp)))
  have hv2p := owns_ne HD3.out.kp HG3.out (by decide)
  have hv2b := owns_ne HD3.out.kb HG3.out (by decide)
  have HO9 := hid (owns_in HG3.out (ButIn.of_but (S := [p]) Hb9.out (by simp)) (fun b hb => by simpa using hv2p b hb))
  have hqp : qa.block ≠ p := by omega
  have hqb : qa.block ≠ bb := by omega
  have HTU9 := hid (HTU.out.in_ (ButIn.of_but (S := [p]) Hb9.out (by simp)) (fun q hq => by cases hq; simpa using hqp))
  have HW9 := hid (show WaitU w9 N bb z v2 (ws ++ [(i, t)]) from ⟨xs ++ [.int .i64 (i : Int), .slice (some qa) z c1], by simpa using HO9.out, fun j hj => by
    have hxl := hO0.1
    by_cases hjw : j < ws.length
    · obtain ⟨e1, a, c, e2, e3, e4⟩ := hx j hjw
      have eg : (ws ++ [(i, t)]).getD j (0, []) = ws.getD j (0, []) := by rw [List.getD_eq_getElem?_getD, List.getD_eq_getElem?_getD, List.getElem?_append_left hjw]
      rw [eg, List.getElem?_append_left (by omega), List.getElem?_append_left (by omega)]
      refine ⟨e1, a, c, e2, e3.in_ HX9.out (fun q hq => ?_), e4⟩
      obtain ⟨ds, hds⟩ := e3.ty q hq
      simp only [List.mem_cons, Option.mem_toList, not_or]
      refine ⟨blk_ne hds kp0.out (by decide), fun hm => ?_⟩
      obtain ⟨cs, hcs⟩ := owns_blk hO0 hm
      exact blk_ne hds hcs (by decide) rfl
    · have hjn : j = ws.length := by simp at hj; omega
      subst hjn
      rw [List.getElem?_append_right (by omega), List.getElem?_append_right (by omega), List.getD_eq_getElem?_getD, List.getElem?_append_right (Nat.le_refl _), hxl, show 2 * ws.length - ws.length * 2 = 0 by omega, show 2 * ws.length + 1 - ws.length * 2 = 1 by omega, Nat.sub_self]
      exact ⟨rfl, some qa, c1, rfl, HTU9.out, fun q hq => by cases hq; exact hqb⟩⟩)
  have hv2o : v2.ownBlock = wv.ownBlock ∨ ∃ g, v2.ownBlock = some g ∧ w.heap.size ≤ g := hv2.imp id (fun ⟨g, h1, h2⟩ => ⟨g, h1, by omega⟩)
  obtain ⟨wa, wc, rfl, hwat⟩ := HW9.out.at_ HD9.out.kp hv2b
  have HWA := hid hwat
  have HK9 := hid (hK.butIn (ButIn.wide HX9.out (fun b hb => mem_mid hb)))
  clear hwat
  refine (crash_any w9 p bb z n B true af _ wa wc (ws ++ [(i, t)]) ka kc ks (HK9.out.sub (by simp)) hkw HD9.out HWA.out (fun x hx => by
    rcases List.mem_append.1 hx with h | h
    · exact hwi x h
    · simp at h; rw [h]; exact ⟨hi, hTl⟩) (by simp; omega)).mono ?_
  rintro e w10 ⟨rfl, b10, d10⟩
  have HX10 := hid (ButIn.on (ButIn.wide HX9.out (fun b hb => mem_mid hb)) (ButIn.wide (S' := p :: bb :: wv.ownBlock.toList) b10 (by simp)))
  have HD10 := hid d10
  clear b10 d10
  go_wp2_with fail
  go_returns
  exact ⟨by first | rfl | simp, HX10.out, by simpa using HD10.out⟩
end Go.Proofs.Ytmpgnpkodapidaa
