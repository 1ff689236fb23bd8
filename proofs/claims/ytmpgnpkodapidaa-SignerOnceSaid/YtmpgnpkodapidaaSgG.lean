/-
  Layer 15: a signer's small functions; the bytes of its state.
-/
import Derived.Test.YtmpgnpkodapidaaSgF
import Derived.OwnWalk
namespace Go.Proofs.Ytmpgnpkodapidaa
open Go.ChangeShapes Go.WideShapes Go.ChangeAt Go.RowKit

set_option maxHeartbeats 4000000 in
set_option maxRecDepth 100000 in
theorem equal_any (a1 a2 : Option Addr) (n1 n2 c1 c2 : Nat) (xs ys : List Int) (w : World) (h1 : TextAt w a1 n1 c1 xs) (h2 : TextAt w a2 n2 c2 ys) :
    Calls Try.prog 67 #[.slice a1 n1 c1, .slice a2 n2 c2] w fun e w' => e = .returned (.bool (decide (xs = ys))) ∧ Below w.heap.size w w' := by
  have Hb := hid (Below.refl w.heap.size w)

  have cv1 := h1.string Try.underlying31 Try.underlying5 Try.underlying9
  have cv2 := h2.string Try.underlying31 Try.underlying5 Try.underlying9
  have hq := eqStrB h1.small h2.small
  clear h1 h2
  go_enter Try.func67, Try.ntmps67
  go_wp2_with fail
  go_returns
  exact ⟨by first | rfl | rw [hq], Hb.out⟩
set_option maxRecDepth 100000 in
theorem info_text : (Try.prog.info? 31).map (fun i => (i.zero, i.size, i.bytes)) = some (some (.slice none 0 0), 1, 24) := by kernel_rfl
/-- A row of cells of the call's own. -/
def OwnV (w : World) (base : Nat) (e : TypeId) (v : Value) (xs : List Value) : Prop := w.ownsRow base e 1 v xs.length xs ∧ ∀ x ∈ xs, x.oneCell' = true
theorem OwnV.nil (w : World) (base : Nat) (e : TypeId) : OwnV w base e (.slice none 0 0) [] := ⟨World.ownsRow_nil w base e 1, by simp⟩
theorem OwnV.below {w w' : World} {base : Nat} {e : TypeId} {v : Value} {xs : List Value} (h : OwnV w base e v xs) (hb : Below w.heap.size w w') : OwnV w' base e v xs := ⟨owns_below h.1 hb, h.2⟩
theorem OwnV.lt {w : World} {base : Nat} {e : TypeId} {v : Value} {xs : List Value} (h : OwnV w base e v xs) : ∀ k, v.ownBlock = some k → base ≤ k ∧ k < w.heap.size := h.1.lt
/-- Other blocks are turned. -/
theorem OwnV.kept {w w' : World} {base : Nat} {e : TypeId} {v : Value} {xs : List Value} (h : OwnV w base e v xs) (hb : ∀ k, v.ownBlock = some k → w'.heap[k]? = w.heap[k]?) : OwnV w' base e v xs := by
  obtain ⟨⟨h1, h2⟩, h3⟩ := h
  refine ⟨⟨h1, h2.imp id ?_⟩, h3⟩
  rintro ⟨g, cap, cur, rfl, hg, hh, hle⟩
  exact ⟨g, cap, cur, rfl, hg, (hb g rfl).trans hh, hle⟩
/-- One cell more. -/
theorem run_append_v {w : World} {base : Nat} {t e : TypeId} {i : TypeInfo} {z : Value} {v : Value} {xs : List Value} (ty : TypeId) (ht : Try.prog.underlying t = some (.slice e)) (hi : Try.prog.info? e = some i) (hz : i.zero = some z) (hzs : z.cells.size = 1) (hsize : i.size = 1) (hby : i.bytes ≤ 24) (hown : OwnV w base e v xs) {b : Nat} {x : Value} {T : TypeId} (hk : Blk w b #[x] T) (hx : x.oneCell' = true) (hb : xs.length ≤ 1000000000) (hbase : base ≤ w.heap.size) :
    ∃ v' w', (Builtin.append_ #[t, t] ty #[v, .slice (some ⟨b, 0, none⟩) 1 1]).run Try.prog w = .ok v' w' ∧ OwnV w' base e v' (xs ++ [x]) ∧ w.grownBy w' v.ownBlock ∧ Below base w w' ∧ (v'.ownBlock = v.ownBlock ∨ v'.ownBlock = some w.heap.size) := by
  have hbel : ∀ {w' : World}, w.grownBy w' v.ownBlock → Below base w w' := fun hg => ⟨hg.os, hg.tape, hg.output, hg.size, fun k hk => hg.block k (by omega) (fun e => by have := (hown.lt k e.symm).1; omega)⟩
  obtain ⟨v', w', h1, h2, h3, _, h5⟩ := run_append_own_at (P := Try.prog) w base t ty e i z 1 i.bytes ht hi hz hsize rfl hzs (by omega) v xs.length xs hown.1 ⟨b, 0, none⟩ 1 1 [x] rfl (fun j u hj => by
    have hj0 : j = 0 := by have := (List.getElem?_eq_some_iff.1 hj).1; simp at this; omega
    subst hj0
    rw [Addr.add_mid, hk.cell]
    simpa using hj) (fun u hu => by simp only [List.mem_singleton] at hu; rw [hu]; exact hx) (by unfold maxLen; omega) (Nat.le_trans (Nat.mul_le_mul_left _ hby) (by omega)) hbase
  refine ⟨v', w', h1, ⟨by rw [List.length_append]; exact h2, fun u hu => ?_⟩, h3, hbel h3, h5⟩
  rcases List.mem_append.1 hu with h | h
  · exact hown.2 u h
  · simp only [List.mem_singleton] at h; rw [h]; exact hx
/-- A row of texts of the call's own; the texts lie in other blocks, and in none of a list. -/
def OwnR (w : World) (S : List Nat) (base : Nat) (v : Value) (ts : List (List Int)) : Prop := ∃ xs, OwnV w base 31 v xs ∧ xs.length = ts.length ∧ ∀ j, j < ts.length → ∃ a l c, xs[j]? = some (.slice a l c) ∧ TextAt w a l c (ts.getD j []) ∧ (0 < l → ∀ p : Addr, a = some p → v.ownBlock ≠ some p.block ∧ p.block ∉ S)
theorem OwnR.nil (w : World) (S : List Nat) (base : Nat) : OwnR w S base (.slice none 0 0) [] := ⟨[], OwnV.nil w base 31, rfl, fun j hj => by simp at hj⟩
theorem OwnR.below {w w' : World} {S : List Nat} {base : Nat} {v : Value} {ts : List (List Int)} (h : OwnR w S base v ts) (hb : Below w.heap.size w w') : OwnR w' S base v ts := by
  obtain ⟨xs, h1, h2, h3⟩ := h
  exact ⟨xs, h1.below hb, h2, fun j hj => by obtain ⟨a, l, c, q1, q2, q3⟩ := h3 j hj; exact ⟨a, l, c, q1, q2.below hb, q3⟩⟩
theorem OwnR.lt {w : World} {S : List Nat} {base : Nat} {v : Value} {ts : List (List Int)} (h : OwnR w S base v ts) : ∀ k, v.ownBlock = some k → base ≤ k ∧ k < w.heap.size := by
  obtain ⟨xs, h1, _⟩ := h
  exact h1.lt
theorem OwnR.texts {w : World} {S : List Nat} {base : Nat} {v : Value} {ts : List (List Int)} (h : OwnR w S base v ts) : ∃ a cap, v = .slice a ts.length cap ∧ TextsAt w a ts.length cap ts := by
  obtain ⟨xs, ⟨⟨h1, ⟨rfl, h2⟩ | ⟨g, cap, cur, rfl, hg, hh, hle, hmx, hsz, htk⟩⟩, _⟩, hl, h3⟩ := h
  · exact ⟨none, 0, by rw [← hl, h2], rfl, by omega, by omega, .inl (by omega)⟩
  · rw [hl] at hle
    refine ⟨_, cap, by rw [hl], rfl, hle, by unfold maxLen at hmx; omega, .inr ⟨g, 0, rfl, (Array.getElem?_eq_some_iff.1 hh).1, fun j hj => ?_⟩⟩
    obtain ⟨a, l, c, q1, q2, _⟩ := h3 j hj
    refine ⟨a, l, c, ?_, q2⟩
    rw [Nat.zero_add, (show Blk w g cur 31 from hh).cell]
    rw [← htk, List.getElem?_take, if_pos (by omega)] at q1
    simpa using q1
theorem TextAt.none_len {w w' : World} {a : Option Addr} {l c : Nat} {t : List Int} (h : TextAt w a l c t) (h0 : l = 0) : TextAt w' a l c t := by
  subst h0
  obtain ⟨h1, h2, h3, h4, h5 | ⟨x, o, s, h5, _⟩⟩ := h
  · exact ⟨h1, h2, h3, h4, .inl h5⟩
  · exact ⟨h1, h2, h3, h4, .inr ⟨x, o, s, h5, fun j hj => absurd hj (Nat.not_lt_zero _)⟩⟩
/-- One text more. -/
theorem run_append_t {w : World} {S : List Nat} {base : Nat} {v : Value} {ts : List (List Int)} (hown : OwnR w S base v ts) {b : Nat} {ta : Option Addr} {tl tc : Nat} {t : List Int} {T : TypeId} (hk : Blk w b #[.slice ta tl tc] T) (hT : TextAt w ta tl tc t) (hsep : 0 < tl → ∀ p : Addr, ta = some p → v.ownBlock ≠ some p.block ∧ p.block ∉ S) (hb : ts.length ≤ 1000000) (hbase : base ≤ w.heap.size) :
    ∃ v' w', (Builtin.append_ #[114, 114] 114 #[v, .slice (some ⟨b, 0, none⟩) 1 1]).run Try.prog w = .ok v' w' ∧ OwnR w' S base v' (ts ++ [t]) ∧ w.grownBy w' v.ownBlock ∧ Below base w w' := by
  obtain ⟨xs, h1, h2, h3⟩ := hown
  obtain ⟨i0, hi, hz0, hz1, hz2⟩ := info_parts info_text
  obtain ⟨v', w', r1, r2, r3, r4, r5⟩ := run_append_v 114 Try.underlying114 hi hz0 rfl hz1 (by omega) h1 hk rfl (by omega) hbase
  have hkeep : ∀ {a : Option Addr} {l c : Nat} {y : List Int}, TextAt w a l c y → (0 < l → ∀ p : Addr, a = some p → v.ownBlock ≠ some p.block) → TextAt w' a l c y := by
    intro a l c y hy hp
    rcases Nat.eq_zero_or_pos l with h0 | h0
    · exact hy.none_len h0
    · exact hy.grown r3 fun k hk => .inr fun p hpp e => hp h0 p hpp (by rw [hk, e])
  have hnew : ∀ {a : Option Addr} {l c : Nat} {y : List Int}, TextAt w a l c y → (0 < l → ∀ p : Addr, a = some p → v.ownBlock ≠ some p.block ∧ p.block ∉ S) → (0 < l → ∀ p : Addr, a = some p → v'.ownBlock ≠ some p.block ∧ p.block ∉ S) := by
    intro a l c y hy hp h0 p hpp
    refine ⟨?_, (hp h0 p hpp).2⟩
    rcases r5 with r5 | r5
    · rw [r5]; exact (hp h0 p hpp).1
    · obtain ⟨x, o, he, hx, _⟩ := hy.at_ h0
      rw [hpp] at he
      cases he
      rw [r5]
      intro e
      have := Option.some.inj e
      simp only at this
      omega
  refine ⟨v', w', r1, ⟨xs ++ [.slice ta tl tc], r2, by rw [List.length_append, List.length_append, h2]; rfl, fun j hj => ?_⟩, r3, r4⟩
  rw [List.length_append] at hj
  rcases Nat.lt_or_ge j ts.length with hlt | hge
  · obtain ⟨a, l, c, q1, q2, q3⟩ := h3 j hlt
    refine ⟨a, l, c, by rw [List.getElem?_append_left (by omega)]; exact q1, ?_, hnew q2 q3⟩
    rw [show (ts ++ [t]).getD j [] = ts.getD j [] by simp [List.getD_eq_getElem?_getD, List.getElem?_append_left hlt]]
    exact hkeep q2 fun h0 p hp => (q3 h0 p hp).1
  · have hj0 : j = ts.length := by simp at hj; omega
    subst hj0
    refine ⟨ta, tl, tc, by rw [List.getElem?_append_right (by omega), h2, Nat.sub_self]; rfl, ?_, hnew hT hsep⟩
    rw [show (ts ++ [t]).getD ts.length [] = t by simp [List.getD_eq_getElem?_getD]]
    exact hkeep hT fun h0 p hp => (hsep h0 p hp).1
theorem wpList_append_t {ops : Array Oper} {rest : List Oper} {o : Oper} {A : Act} {w : World} {Q : Exit → Act → World → Prop} {S : List Nat} {base : Nat} {v : Value} {ts : List (List Int)} (hgd : o.guard = none) (s x : Operand) (ho : o.op = .call { callee := .builtin .append, args := #[s, x], argTypes := #[114, 114] }) (hs : A.eval s = v) (hown : OwnR w S base v ts)
    {b : Nat} {ta : Option Addr} {tl tc : Nat} {t : List Int} {T : TypeId} (hx : A.eval x = .slice (some ⟨b, 0, none⟩) 1 1) (hk : Blk w b #[.slice ta tl tc] T) (hT : TextAt w ta tl tc t) (hsep : 0 < tl → ∀ p : Addr, ta = some p → v.ownBlock ≠ some p.block ∧ p.block ∉ S) (hb : ts.length ≤ 1000000) (hbase : base ≤ w.heap.size)
    (h : ∀ v' w', OwnR w' S base v' (ts ++ [t]) → w.grownBy w' v.ownBlock → Below base w w' → wpList Try.prog ops Q rest (A.put o.dst v') w') (hty : o.type = 114 := by rfl) : wpList Try.prog ops Q (o :: rest) A w :=
  wpList_plain hgd fun K hK => by
    obtain ⟨v', w', hr, h2, h3, h4⟩ := run_append_t hown hk hT hsep hb hbase
    unfold Oper.wp execOp
    simp only [ho, hty, resolve, invoke, builtin, Sem.run_bind, Sem.run_pure, Result.andThen_ok, List.map_toArray, List.map_cons, List.map_nil, hs, hx, hr, Oper.upon_value]
    exact hK _ _ (h v' w' h2 h3 h4)
/-- The cells of a signer's state, and of a signer. -/
def stC (g k r ik ii : Int) (mv : Value) : Array Value := #[.int .i64 g, .int .i64 k, .int .i64 r, .int .i64 ik, .int .i64 ii, mv]
def sgC (g k r ik ii : Int) (mv : Value) (nx tt bt : Int) (q f : Nat) (sp : Bool) : Array Value := #[.int .i64 g, .int .i64 k, .int .i64 r, .int .i64 ik, .int .i64 ii, mv, .int .i64 nx, .int .i64 tt, .int .i64 bt, .pointer (some ⟨q, 0, none⟩), .pointer (some ⟨f, 0, none⟩), .bool sp]
theorem size_state : (Try.prog.info? 100).map (·.size) = some 6 := by kernel_rfl
theorem size_signer : (Try.prog.info? 104).map (·.size) = some 12 := by kernel_rfl
set_option maxHeartbeats 4000000 in
set_option maxRecDepth 100000 in
theorem skey_any (w : World) (s : Nat) (g k r ik ii : Int) (mv : Value) (nx tt bt : Int) (q f : Nat) (sp : Bool) (hk : Blk w s (sgC g k r ik ii mv nx tt bt q f sp) 104) :
    Calls Try.prog 33 #[.pointer (some ⟨s, 0, none⟩)] w fun e w' => e = .returned (.int .i64 k) ∧ Below w.heap.size w w' := by
  have Hb := hid (Below.refl w.heap.size w)
  have c1 : w.cell? ⟨s, 1, none⟩ = some (.int .i64 k) := by rw [hk.cell]; rfl
  clear hk
  go_enter Try.func33, Try.ntmps33
  go_wp2_with fail
  go_returns
  exact ⟨rfl, Hb.out⟩
set_option maxHeartbeats 4000000 in
set_option maxRecDepth 100000 in
theorem snext_any (w : World) (s : Nat) (g k r ik ii : Int) (mv : Value) (nx tt bt : Int) (q f : Nat) (sp : Bool) (hk : Blk w s (sgC g k r ik ii mv nx tt bt q f sp) 104) :
    Calls Try.prog 34 #[.pointer (some ⟨s, 0, none⟩)] w fun e w' => e = .returned (.int .i64 nx) ∧ Below w.heap.size w w' := by
  have Hb := hid (Below.refl w.heap.size w)
  have c6 : w.cell? ⟨s, 6, none⟩ = some (.int .i64 nx) := by rw [hk.cell]; rfl
  clear hk
  go_enter Try.func34, Try.ntmps34
  go_wp2_with fail
  go_returns
  exact ⟨rfl, Hb.out⟩
set_option maxHeartbeats 4000000 in
set_option maxRecDepth 100000 in
theorem refuse_ok (w : World) (s : Nat) (g k r ik ii : Int) (mv : Value) (nx tt bt : Int) (q f : Nat) (ma : Option Addr) (mn mc : Nat) (hk : Blk w s (sgC g k r ik ii mv nx tt bt q f false) 104) (h1 : 1 ≤ mn) (h2 : mn ≤ 200) :
    Calls Try.prog 54 #[.pointer (some ⟨s, 0, none⟩), .slice ma mn mc] w fun e w' => e = .returned (.int .i64 0) ∧ Below w.heap.size w w' := by
  have Hb := hid (Below.refl w.heap.size w)
  have c11 : w.cell? ⟨s, 11, none⟩ = some (.bool false) := by rw [hk.cell]; rfl
  clear hk
  go_enter Try.func54, Try.ntmps54
  have q1 : ((mn : Int) == 0) = false := by simp; omega
  have q2 : ¬ (200 : Int) < (mn : Int) := by omega
  go_wp2_with fail
  go_returns
  exact ⟨rfl, Hb.out⟩
set_option maxHeartbeats 4000000 in
set_option maxRecDepth 100000 in
theorem again_any (w : World) (s : Nat) (g k r ik ii : Int) (nx tt bt : Int) (q f : Nat) (sp : Bool) (oa ma : Option Addr) (on oc mn mc : Nat) (o m : List Int) (hk : Blk w s (sgC g k r ik ii (.slice oa on oc) nx tt bt q f sp) 104) (hO : TextAt w oa on oc o) (hT : TextAt w ma mn mc m) :
    Calls Try.prog 55 #[.pointer (some ⟨s, 0, none⟩), .slice ma mn mc] w fun e w' => e = .returned (.bool (decide (o = m))) ∧ Below w.heap.size w w' := by
  have Hb := hid (Below.refl w.heap.size w)
  have c5 : w.cell? ⟨s, 5, none⟩ = some (.slice oa on oc) := by rw [hk.cell]; rfl
  clear hk
  go_enter Try.func55, Try.ntmps55
  go_wp2_with fail
  refine (equal_any oa ma on mn oc mc o m w hO hT).mono ?_
  rintro e w1 ⟨rfl, b1⟩
  have HB1 := hid b1
  clear b1
  go_wp2_with fail
  go_returns
  exact ⟨rfl, HB1.out⟩
/-- The bytes of a state. -/
def stB (g k r ik ii : Int) (m : List Int) : List Int := be 2 6 ++ rowB [be 8 g, be 8 k, be 8 r, be 8 ik, be 8 ii, m]
theorem stB_length (g k r ik ii : Int) (m : List Int) : (stB g k r ik ii m).length = 54 + m.length := by
  simp only [stB, rowB, List.flatMap_cons, List.flatMap_nil, List.length_append, be_length, List.length_nil]
  omega
theorem rowB_small {ts : List (List Int)} (h : ∀ t ∈ ts, ∀ x ∈ t, 0 ≤ x ∧ x < 256) : ∀ x ∈ rowB ts, 0 ≤ x ∧ x < 256 := fun x hx => by
  unfold rowB at hx
  obtain ⟨t, ht, hx⟩ := List.mem_flatMap.1 hx
  rcases List.mem_append.1 hx with h1 | h1
  · exact be_small _ _ x h1
  · exact h t ht x h1
theorem stB_small {g k r ik ii : Int} {m : List Int} (h : ∀ x ∈ m, 0 ≤ x ∧ x < 256) : ∀ x ∈ stB g k r ik ii m, 0 ≤ x ∧ x < 256 := fun x hx => by
  unfold stB at hx
  rcases List.mem_append.1 hx with h1 | h1
  · exact be_small _ _ x h1
  · refine rowB_small (fun t ht y hy => ?_) x h1
    simp only [List.mem_cons, List.not_mem_nil, or_false] at ht
    rcases ht with rfl | rfl | rfl | rfl | rfl | rfl
    · exact be_small _ _ y hy
    · exact be_small _ _ y hy
    · exact be_small _ _ y hy
    · exact be_small _ _ y hy
    · exact be_small _ _ y hy
    · exact h y hy
set_option maxHeartbeats 4000000 in
set_option maxRecDepth 100000 in
theorem sbytes_any (g k r ik ii : Int) (ma : Option Addr) (mn mc : Nat) (m : List Int) (w : World) (hT : TextAt w ma mn mc m) (hmn : mn ≤ 200) (hg : 0 ≤ g ∧ g < 9223372036854775808) (hk : 0 ≤ k ∧ k < 9223372036854775808) (hr : 0 ≤ r ∧ r < 9223372036854775808) (hik : 0 ≤ ik ∧ ik < 9223372036854775808) (hii : 0 ≤ ii ∧ ii < 9223372036854775808) :
    Calls Try.prog 69 #[.agg (stC g k r ik ii (.slice ma mn mc))] w fun e w' => ∃ a c, e = .returned (.slice a (54 + mn) c) ∧ Below w.heap.size w w' ∧ TextAt w' a (54 + mn) c (stB g k r ik ii m) ∧ ∀ p : Addr, a = some p → w.heap.size ≤ p.block := by
  have b1 := (Below.refl w.heap.size w).alloc (Nat.le_refl _) (.cells (stC g k r ik ii (.slice ma mn mc)) 100 (0, 0))
  have Ks := hid (Blk.new (w := w) (n := w.heap.size) rfl (stC g k r ik ii (.slice ma mn mc)) 100)
  have Hb := hid b1
  have hbz := b1.size
  have Hbs := hid (show w.heap.size + 1 = (w.alloc (.cells (stC g k r ik ii (.slice ma mn mc)) 100 (0, 0))).heap.size by simp only [World.size_alloc])
  clear b1 
  have HT := hid hT
  have hml := hT.length
  have hfar : ∀ p : Addr, ma = some p → 0 < mn → p.block < w.heap.size := fun p hp h0 => by
    obtain ⟨x, o, rfl, hx, _⟩ := hT.at_ h0
    cases hp
    exact hx
  have HF := hid hfar
  clear hT hfar
  have cs0 : (w.alloc (.cells (stC g k r ik ii (.slice ma mn mc)) 100 (0, 0))).cell? ⟨w.heap.size, 0, none⟩ = some (.int .i64 g) := by rw [Ks.out.cell]; rfl
  have cs1 : (w.alloc (.cells (stC g k r ik ii (.slice ma mn mc)) 100 (0, 0))).cell? ⟨w.heap.size, 1, none⟩ = some (.int .i64 k) := by rw [Ks.out.cell]; rfl
  have cs2 : (w.alloc (.cells (stC g k r ik ii (.slice ma mn mc)) 100 (0, 0))).cell? ⟨w.heap.size, 2, none⟩ = some (.int .i64 r) := by rw [Ks.out.cell]; rfl
  have cs3 : (w.alloc (.cells (stC g k r ik ii (.slice ma mn mc)) 100 (0, 0))).cell? ⟨w.heap.size, 3, none⟩ = some (.int .i64 ik) := by rw [Ks.out.cell]; rfl
  have cs4 : (w.alloc (.cells (stC g k r ik ii (.slice ma mn mc)) 100 (0, 0))).cell? ⟨w.heap.size, 4, none⟩ = some (.int .i64 ii) := by rw [Ks.out.cell]; rfl
  have Qg := hid (show g % 18446744073709551616 = g by omega)
  have Qk := hid (show k % 18446744073709551616 = k by omega)
  have Qr := hid (show r % 18446744073709551616 = r by omega)
  have Qik := hid (show ik % 18446744073709551616 = ik by omega)
  have Qii := hid (show ii % 18446744073709551616 = ii by omega)
  go_enter Try.func69, Try.ntmps69
  go_wp2_with fail
  clear cs0 cs1 cs2 cs3 cs4
  have c1 := Hb.out.alloc Hb.out.size (.cells #[.int .i64 g, .int .i64 k, .int .i64 r, .int .i64 ik, .int .i64 ii] 3 (0, 0))
  have Ks1 := hid (Ks.out.old (.cells #[.int .i64 g, .int .i64 k, .int .i64 r, .int .i64 ik, .int .i64 ii] 3 (0, 0)))
  have Ki1 := hid (Blk.new (w := (w.alloc (.cells (stC g k r ik ii (.slice ma mn mc)) 100 (0, 0)))) (n := w.heap.size + 1) Hbs.out.symm #[.int .i64 g, .int .i64 k, .int .i64 r, .int .i64 ik, .int .i64 ii] 3)
  have HB1 := hid c1
  clear c1
  go_loopw [3, 22] (fun rv iv wr => ∃ (j : Nat) (ra : Option Addr) (rc : Nat), j ≤ 5 ∧ iv = .int .i64 j ∧ rv = .slice ra j rc ∧ OwnR wr [] (w.heap.size + 1 + 1) (.slice ra j rc) (([be 8 g, be 8 k, be 8 r, be 8 ik, be 8 ii] : List (List Int)).take j) ∧ Blk wr w.heap.size (stC g k r ik ii (.slice ma mn mc)) 100 ∧ Blk wr (w.heap.size + 1) #[.int .i64 g, .int .i64 k, .int .i64 r, .int .i64 ik, .int .i64 ii] 3 ∧ Below w.heap.size w wr) (fun _ iv _ => 5 - (intOf iv).toNat)
  case atStart => exact ⟨0, none, 0, by omega, rfl, rfl, OwnR.nil _ _ _, Ks1.out, Ki1.out, HB1.out⟩
  case round =>
    obtain ⟨j, ra, rc, hj, rfl, rfl, ho, ks, ki, bel⟩ := hrel
    have Ksr := hid ks
    have Kir := hid ki
    have HBr := hid bel
    have HOr := hid ho
    have hsr := bel.size
    have hkl := ki.lt
    clear ho ks ki bel
    rcases (show j = 0 ∨ j = 1 ∨ j = 2 ∨ j = 3 ∨ j = 4 ∨ j = 5 by omega) with rfl | rfl | rfl | rfl | rfl | rfl
    · skip
      have ci : wr.cell? ⟨w.heap.size + 1, 0, none⟩ = some (.int .i64 g) := by rw [Kir.out.cell]; rfl
      have qv := Qg.out
      have HO := hid (show OwnR wr [] (w.heap.size + 1 + 1) (.slice ra 0 rc) ([] : List (List Int)) from HOr.out)
      have hlt2 := hid HO.out.lt
      go_wp2_with fail
      refine (number_any g 8 8 wr (by omega) (by omega) (by decide)).mono ?_
      rintro e w2 ⟨g2, hg2, rfl, b2, m2⟩
      have c2 := Below.on b2 ((Below.refl w2.heap.size w2).alloc (Nat.le_refl _) (.cells #[.slice (some ⟨g2, 0, none⟩) 8 8] 31 (0, 0)))
      have HO2 := hid (HO.out.below c2)
      have Ks2 := hid (Ksr.out.below c2)
      have Ki2 := hid (Kir.out.below c2)
      have HB2 := hid (Below.on HBr.out c2)
      have HK2 := hid (Blk.new (w := w2) rfl #[.slice (some ⟨g2, 0, none⟩) 8 8] 31)
      have HM2 := hid (TextAt.of_ints (m2.old (.cells #[.slice (some ⟨g2, 0, none⟩) 8 8] 31 (0, 0))) (be_length _ _) (by omega) (be_small _ _))
      have hs2 := b2.size
      clear b2 c2 m2
      go_wp2_with (
        at_builtin
        refine wpList_append_t (v := .slice ra 0 rc) rfl _ _ rfl rfl HO2.out rfl HK2.out HM2.out (fun _ p hp => ⟨fun hq => by have := (hlt2.out _ hq).2; cases hp; simp only at this; omega, by simp⟩) (by simp) (by simp only [World.size_alloc]; omega) ?_
        intro v3 w3 ho3 hg3 hb3
        obtain ⟨a3, c3, hv3, -⟩ := ho3.texts
        have hv3 : v3 = .slice a3 1 c3 := hv3
        subst hv3
        have HO3 := hid (show OwnR w3 [] (w.heap.size + 1 + 1) (.slice a3 1 c3) ([be 8 g] : List (List Int)) from ho3)
        have HB3 := hid (HB2.out.trans (hb3.mono (by omega)))
        have Ks3 := hid (Ks2.out.grown hg3 (fun q hq => by have := (hlt2.out _ hq).1; omega))
        have Ki3 := hid (Ki2.out.grown hg3 (fun q hq => by have := (hlt2.out _ hq).1; omega))
        clear ho3 hb3 hg3)
      exact ⟨⟨1, a3, c3, by omega, by first | rfl | simp, rfl, HO3.out, Ks3.out, Ki3.out, HB3.out⟩, by simp [intOf]⟩
    · skip
      have ci : wr.cell? ⟨w.heap.size + 1, 1, none⟩ = some (.int .i64 k) := by rw [Kir.out.cell]; rfl
      have qv := Qk.out
      have HO := hid (show OwnR wr [] (w.heap.size + 1 + 1) (.slice ra 1 rc) ([be 8 g] : List (List Int)) from HOr.out)
      have hlt2 := hid HO.out.lt
      go_wp2_with fail
      refine (number_any k 8 8 wr (by omega) (by omega) (by decide)).mono ?_
      rintro e w2 ⟨g2, hg2, rfl, b2, m2⟩
      have c2 := Below.on b2 ((Below.refl w2.heap.size w2).alloc (Nat.le_refl _) (.cells #[.slice (some ⟨g2, 0, none⟩) 8 8] 31 (0, 0)))
      have HO2 := hid (HO.out.below c2)
      have Ks2 := hid (Ksr.out.below c2)
      have Ki2 := hid (Kir.out.below c2)
      have HB2 := hid (Below.on HBr.out c2)
      have HK2 := hid (Blk.new (w := w2) rfl #[.slice (some ⟨g2, 0, none⟩) 8 8] 31)
      have HM2 := hid (TextAt.of_ints (m2.old (.cells #[.slice (some ⟨g2, 0, none⟩) 8 8] 31 (0, 0))) (be_length _ _) (by omega) (be_small _ _))
      have hs2 := b2.size
      clear b2 c2 m2
      go_wp2_with (
        at_builtin
        refine wpList_append_t (v := .slice ra 1 rc) rfl _ _ rfl rfl HO2.out rfl HK2.out HM2.out (fun _ p hp => ⟨fun hq => by have := (hlt2.out _ hq).2; cases hp; simp only at this; omega, by simp⟩) (by simp) (by simp only [World.size_alloc]; omega) ?_
        intro v3 w3 ho3 hg3 hb3
        obtain ⟨a3, c3, hv3, -⟩ := ho3.texts
        have hv3 : v3 = .slice a3 2 c3 := hv3
        subst hv3
        have HO3 := hid (show OwnR w3 [] (w.heap.size + 1 + 1) (.slice a3 2 c3) ([be 8 g, be 8 k] : List (List Int)) from ho3)
        have HB3 := hid (HB2.out.trans (hb3.mono (by omega)))
        have Ks3 := hid (Ks2.out.grown hg3 (fun q hq => by have := (hlt2.out _ hq).1; omega))
        have Ki3 := hid (Ki2.out.grown hg3 (fun q hq => by have := (hlt2.out _ hq).1; omega))
        clear ho3 hb3 hg3)
      exact ⟨⟨2, a3, c3, by omega, by first | rfl | simp, rfl, HO3.out, Ks3.out, Ki3.out, HB3.out⟩, by simp [intOf]⟩
    · skip
      have ci : wr.cell? ⟨w.heap.size + 1, 2, none⟩ = some (.int .i64 r) := by rw [Kir.out.cell]; rfl
      have qv := Qr.out
      have HO := hid (show OwnR wr [] (w.heap.size + 1 + 1) (.slice ra 2 rc) ([be 8 g, be 8 k] : List (List Int)) from HOr.out)
      have hlt2 := hid HO.out.lt
      go_wp2_with fail
      refine (number_any r 8 8 wr (by omega) (by omega) (by decide)).mono ?_
      rintro e w2 ⟨g2, hg2, rfl, b2, m2⟩
      have c2 := Below.on b2 ((Below.refl w2.heap.size w2).alloc (Nat.le_refl _) (.cells #[.slice (some ⟨g2, 0, none⟩) 8 8] 31 (0, 0)))
      have HO2 := hid (HO.out.below c2)
      have Ks2 := hid (Ksr.out.below c2)
      have Ki2 := hid (Kir.out.below c2)
      have HB2 := hid (Below.on HBr.out c2)
      have HK2 := hid (Blk.new (w := w2) rfl #[.slice (some ⟨g2, 0, none⟩) 8 8] 31)
      have HM2 := hid (TextAt.of_ints (m2.old (.cells #[.slice (some ⟨g2, 0, none⟩) 8 8] 31 (0, 0))) (be_length _ _) (by omega) (be_small _ _))
      have hs2 := b2.size
      clear b2 c2 m2
      go_wp2_with (
        at_builtin
        refine wpList_append_t (v := .slice ra 2 rc) rfl _ _ rfl rfl HO2.out rfl HK2.out HM2.out (fun _ p hp => ⟨fun hq => by have := (hlt2.out _ hq).2; cases hp; simp only at this; omega, by simp⟩) (by simp) (by simp only [World.size_alloc]; omega) ?_
        intro v3 w3 ho3 hg3 hb3
        obtain ⟨a3, c3, hv3, -⟩ := ho3.texts
        have hv3 : v3 = .slice a3 3 c3 := hv3
        subst hv3
        have HO3 := hid (show OwnR w3 [] (w.heap.size + 1 + 1) (.slice a3 3 c3) ([be 8 g, be 8 k, be 8 r] : List (List Int)) from ho3)
        have HB3 := hid (HB2.out.trans (hb3.mono (by omega)))
        have Ks3 := hid (Ks2.out.grown hg3 (fun q hq => by have := (hlt2.out _ hq).1; omega))
        have Ki3 := hid (Ki2.out.grown hg3 (fun q hq => by have := (hlt2.out _ hq).1; omega))
        clear ho3 hb3 hg3)
      exact ⟨⟨3, a3, c3, by omega, by first | rfl | simp, rfl, HO3.out, Ks3.out, Ki3.out, HB3.out⟩, by simp [intOf]⟩
    · skip
      have ci : wr.cell? ⟨w.heap.size + 1, 3, none⟩ = some (.int .i64 ik) := by rw [Kir.out.cell]; rfl
      have qv := Qik.out
      have HO := hid (show OwnR wr [] (w.heap.size + 1 + 1) (.slice ra 3 rc) ([be 8 g, be 8 k, be 8 r] : List (List Int)) from HOr.out)
      have hlt2 := hid HO.out.lt
      go_wp2_with fail
      refine (number_any ik 8 8 wr (by omega) (by omega) (by decide)).mono ?_
      rintro e w2 ⟨g2, hg2, rfl, b2, m2⟩
      have c2 := Below.on b2 ((Below.refl w2.heap.size w2).alloc (Nat.le_refl _) (.cells #[.slice (some ⟨g2, 0, none⟩) 8 8] 31 (0, 0)))
      have HO2 := hid (HO.out.below c2)
      have Ks2 := hid (Ksr.out.below c2)
      have Ki2 := hid (Kir.out.below c2)
      have HB2 := hid (Below.on HBr.out c2)
      have HK2 := hid (Blk.new (w := w2) rfl #[.slice (some ⟨g2, 0, none⟩) 8 8] 31)
      have HM2 := hid (TextAt.of_ints (m2.old (.cells #[.slice (some ⟨g2, 0, none⟩) 8 8] 31 (0, 0))) (be_length _ _) (by omega) (be_small _ _))
      have hs2 := b2.size
      clear b2 c2 m2
      go_wp2_with (
        at_builtin
        refine wpList_append_t (v := .slice ra 3 rc) rfl _ _ rfl rfl HO2.out rfl HK2.out HM2.out (fun _ p hp => ⟨fun hq => by have := (hlt2.out _ hq).2; cases hp; simp only at this; omega, by simp⟩) (by simp) (by simp only [World.size_alloc]; omega) ?_
        intro v3 w3 ho3 hg3 hb3
        obtain ⟨a3, c3, hv3, -⟩ := ho3.texts
        have hv3 : v3 = .slice a3 4 c3 := hv3
        subst hv3
        have HO3 := hid (show OwnR w3 [] (w.heap.size + 1 + 1) (.slice a3 4 c3) ([be 8 g, be 8 k, be 8 r, be 8 ik] : List (List Int)) from ho3)
        have HB3 := hid (HB2.out.trans (hb3.mono (by omega)))
        have Ks3 := hid (Ks2.out.grown hg3 (fun q hq => by have := (hlt2.out _ hq).1; omega))
        have Ki3 := hid (Ki2.out.grown hg3 (fun q hq => by have := (hlt2.out _ hq).1; omega))
        clear ho3 hb3 hg3)
      exact ⟨⟨4, a3, c3, by omega, by first | rfl | simp, rfl, HO3.out, Ks3.out, Ki3.out, HB3.out⟩, by simp [intOf]⟩
    · skip
      have ci : wr.cell? ⟨w.heap.size + 1, 4, none⟩ = some (.int .i64 ii) := by rw [Kir.out.cell]; rfl
      have qv := Qii.out
      have HO := hid (show OwnR wr [] (w.heap.size + 1 + 1) (.slice ra 4 rc) ([be 8 g, be 8 k, be 8 r, be 8 ik] : List (List Int)) from HOr.out)
      have hlt2 := hid HO.out.lt
      go_wp2_with fail
      refine (number_any ii 8 8 wr (by omega) (by omega) (by decide)).mono ?_
      rintro e w2 ⟨g2, hg2, rfl, b2, m2⟩
      have c2 := Below.on b2 ((Below.refl w2.heap.size w2).alloc (Nat.le_refl _) (.cells #[.slice (some ⟨g2, 0, none⟩) 8 8] 31 (0, 0)))
      have HO2 := hid (HO.out.below c2)
      have Ks2 := hid (Ksr.out.below c2)
      have Ki2 := hid (Kir.out.below c2)
      have HB2 := hid (Below.on HBr.out c2)
      have HK2 := hid (Blk.new (w := w2) rfl #[.slice (some ⟨g2, 0, none⟩) 8 8] 31)
      have HM2 := hid (TextAt.of_ints (m2.old (.cells #[.slice (some ⟨g2, 0, none⟩) 8 8] 31 (0, 0))) (be_length _ _) (by omega) (be_small _ _))
      have hs2 := b2.size
      clear b2 c2 m2
      go_wp2_with (
        at_builtin
        refine wpList_append_t (v := .slice ra 4 rc) rfl _ _ rfl rfl HO2.out rfl HK2.out HM2.out (fun _ p hp => ⟨fun hq => by have := (hlt2.out _ hq).2; cases hp; simp only at this; omega, by simp⟩) (by simp) (by simp only [World.size_alloc]; omega) ?_
        intro v3 w3 ho3 hg3 hb3
        obtain ⟨a3, c3, hv3, -⟩ := ho3.texts
        have hv3 : v3 = .slice a3 5 c3 := hv3
        subst hv3
        have HO3 := hid (show OwnR w3 [] (w.heap.size + 1 + 1) (.slice a3 5 c3) ([be 8 g, be 8 k, be 8 r, be 8 ik, be 8 ii] : List (List Int)) from ho3)
        have HB3 := hid (HB2.out.trans (hb3.mono (by omega)))
        have Ks3 := hid (Ks2.out.grown hg3 (fun q hq => by have := (hlt2.out _ hq).1; omega))
        have Ki3 := hid (Ki2.out.grown hg3 (fun q hq => by have := (hlt2.out _ hq).1; omega))
        clear ho3 hb3 hg3)
      exact ⟨⟨5, a3, c3, by omega, by first | rfl | simp, rfl, HO3.out, Ks3.out, Ki3.out, HB3.out⟩, by simp [intOf]⟩
    · skip
      have cm : wr.cell? ⟨w.heap.size, 5, none⟩ = some (.slice ma mn mc) := by rw [Ksr.out.cell]; rfl
      have HO := hid (show OwnR wr [] (w.heap.size + 1 + 1) (.slice ra 5 rc) ([be 8 g, be 8 k, be 8 r, be 8 ik, be 8 ii] : List (List Int)) from HOr.out)
      have hlt2 := hid HO.out.lt
      have c2 := (Below.refl wr.heap.size wr).alloc (Nat.le_refl _) (.cells #[.slice ma mn mc] 31 (0, 0))
      have HO2 := hid (HO.out.below c2)
      have HB2 := hid (Below.on HBr.out c2)
      have HK2 := hid (Blk.new (w := wr) rfl #[.slice ma mn mc] 31)
      have HM2 := hid (HT.out.below HB2.out)
      clear c2
      go_wp2_with (
        at_builtin
        refine wpList_append_t (v := .slice ra 5 rc) rfl _ _ rfl rfl HO2.out rfl HK2.out HM2.out (fun h0 p hp => ⟨fun hq => by have := (hlt2.out _ hq).1; have := HF.out p hp h0; omega, by simp⟩) (by simp) (by simp only [World.size_alloc]; omega) ?_
        intro v3 w3 ho3 hg3 hb3
        obtain ⟨a3, c3, hv3, ht3⟩ := ho3.texts
        have hv3 : v3 = .slice a3 6 c3 := hv3
        subst hv3
        have HT3 := hid (show TextsAt w3 a3 6 c3 [be 8 g, be 8 k, be 8 r, be 8 ik, be 8 ii, m] from ht3)
        have HB3 := hid (HB2.out.trans (hb3.mono (by omega)))
        have hs3 := HB3.out.size
        clear ho3 hb3 hg3 ht3)
      refine (row_any a3 6 c3 [be 8 g, be 8 k, be 8 r, be 8 ik, be 8 ii, m] w3 HT3.out (by omega) (fun t ht => ?_)).mono ?_
      · simp only [List.mem_cons, List.not_mem_nil, or_false] at ht
        rcases ht with rfl | rfl | rfl | rfl | rfl | rfl <;> first | (rw [be_length]; omega) | omega
      rintro e w4 ⟨g4, m4, cap4, rfl, hm4, hc4, hx4, hg4, b4, r4⟩
      have HB4 := hid (Below.on HB3.out b4)
      have hl4 := stB_length g k r ik ii m
      have hsm := HT.out.small
      have ht4 : TextAt w4 (some ⟨g4, 0, none⟩) (54 + mn) cap4 (stB g k r ik ii m) := TextAt.of_row (show Row8 w4 g4 (stB g k r ik ii m) from r4) (by rw [hl4, hml]) (by unfold stB at hl4; rw [List.length_append, be_length] at hl4; omega) hx4 (stB_small hsm)
      have hm5 : m4 = 54 + mn := by unfold stB at hl4; rw [List.length_append, be_length] at hl4; omega
      have HT4 := hid ht4
      subst hm5
      clear b4 r4 ht4 hl4 hm4
      go_wp2_with fail
      go_returns
      exact ⟨_, _, rfl, HB4.out, HT4.out, fun p hp => by cases hp; show w.heap.size ≤ g4; omega⟩
end Go.Proofs.Ytmpgnpkodapidaa
