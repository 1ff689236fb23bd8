/-
  Plain seat: numbers and rows, as far as the disk's texts lack them.
-/
import Derived.Test.YtmpgnpkodapidaaDkG
import Derived.WalkLawsBesides
import Derived.Lib.AppendZerosOnto
namespace Go.Proofs.Ytmpgnpkodapidaa
open Go.ChangeShapes Go.WideShapes Go.ChangeAt Go.RowKit

theorem take_next (zs : List Int) (k : Nat) (h : k < zs.length) : zs.take (k + 1) = zs.take k ++ [zs.getD k 0] := by
  rw [List.take_succ_eq_append_getElem h]; simp [h]
theorem numOf_bounds : ∀ (bs : List Int), (∀ x ∈ bs, 0 ≤ x ∧ x < 256) → 0 ≤ numOf bs ∧ numOf bs < (256 : Int) ^ bs.length := by
  intro bs
  have key : ∀ (k : Nat), k ≤ bs.length → (∀ x ∈ bs, 0 ≤ x ∧ x < 256) → 0 ≤ numOf (bs.take k) ∧ numOf (bs.take k) < (256 : Int) ^ k := by
    intro k
    induction k with
    | zero => intro _ _; simp [numOf]
    | succ k ih =>
      intro hk hb
      have h1 := ih (by omega) hb
      have h2 := hb bs[k] (List.getElem_mem _)
      rw [take_next bs k (by omega), numOf_snoc, show bs.getD k 0 = bs[k] by simp [show k < bs.length by omega], Int.pow_succ]
      generalize (256 : Int) ^ k = p at *
      omega
  intro hb
  have := key bs.length (Nat.le_refl _) hb
  simpa using this
theorem or_next (n x : Int) (h0 : 0 ≤ n) (h1 : n < 72057594037927936) (h2 : 0 ≤ x) (h3 : x < 256) : bits .or .u64 (n * 256) x = 256 * n + x := by
  rw [u64_or _ _ (by omega) (by omega) h2 (by omega)]
  obtain ⟨m, rfl⟩ := Int.eq_ofNat_of_zero_le h0
  obtain ⟨y, rfl⟩ := Int.eq_ofNat_of_zero_le h2
  have h4 : y < 2 ^ 8 := by omega
  have h5 := Nat.shiftLeft_add_eq_or_of_lt h4 m
  rw [Nat.shiftLeft_eq] at h5
  have e1 : ((m : Int) * 256).toNat = m * 2 ^ 8 := by omega
  have e2 : ((y : Int)).toNat = y := by omega
  rw [e1, e2, ← h5]
  omega
set_option maxHeartbeats 1000000 in
set_option maxRecDepth 100000 in
theorem of_bytes (b off : Nat) (bs : List Int) (len cap : Nat) (w : World) (hl : bs.length = len) (h8 : len ≤ 8) (hb : ∀ x ∈ bs, 0 ≤ x ∧ x < 256)
    (hc : ∀ i, i < len → w.cell? ⟨b, off + i, none⟩ = some (.int .u8 (bs.getD i 0))) :
    Calls Try.prog 60 #[.slice (some ⟨b, off, none⟩) len cap] w fun e w' => e = .returned (.tuple #[.int .u64 (numOf bs), .int .i64 0]) ∧ w = w' := by
  have h1 : decide ((8 : Int) < (len : Int)) = false := by simp; omega
  have Hl := hid hl
  replace hc := hid hc
  clear hl
  go_enter Try.func60, Try.ntmps60
  go_wp2
  go_loop [4, 12] (fun n i => ∃ k : Nat, k ≤ len ∧ i = .int .i64 k ∧ n = .int .u64 (numOf (bs.take k))) (fun _ i => len - (intOf i).toNat)
  case atStart => exact ⟨0, by omega, rfl, rfl⟩
  case round =>
    obtain ⟨k, hk, rfl, rfl⟩ := hrel
    by_cases hlt : k < len
    · have hck : w.cell? ⟨b, off + k, none⟩ = some (.int .u8 (bs.getD k 0)) := hc.out k hlt
      have hkl : k < bs.length := by rw [Hl.out]; exact hlt
      have HS := hid (take_next bs k hkl)
      have hbd := numOf_bounds (bs.take k) (fun x hx => hb x (List.mem_of_mem_take hx))
      have hp : (256 : Int) ^ (bs.take k).length ≤ 72057594037927936 := by
        rw [List.length_take, Nat.min_eq_left (by omega), show (72057594037927936 : Int) = (256 : Int) ^ 7 by decide]
        exact_mod_cast Nat.pow_le_pow_right (show 0 < 256 by decide) (show k ≤ 7 by omega)
      have hx := hb (bs.getD k 0) (by rw [show bs.getD k 0 = bs[k] by simp [hkl]]; exact List.getElem_mem _)
      obtain ⟨hn0, hn1⟩ := hbd
      have hn2 := Int.lt_of_lt_of_le hn1 hp
      clear hn1 hp
      have HN := hid (numOf_snoc (bs.take k) (bs.getD k 0))
      generalize numOf (bs.take k) = n at *
      generalize bs.getD k 0 = x at hck hx HS HN
      obtain ⟨hx0, hx1⟩ := hx
      have HO := hid (or_next n x hn0 (by omega) hx0 hx1)
      clear hkl
      go_wp2
      go_round
      case rel => exact ⟨k + 1, by omega, by go_num, by rw [HS.out, HN.out, HO.out]⟩
      case measure => simp [intOf]; omega
    · obtain rfl : k = len := by omega
      have HF := hid (show numOf (bs.take k) = numOf bs by rw [List.take_of_length_le (by rw [Hl.out]; omega)])
      go_wp2
      go_ret2
      exact ⟨by rw [← HF.out]; rfl, rfl⟩
theorem of_nil (a : Option Addr) (cap : Nat) (w : World) :
    Calls Try.prog 60 #[.slice a 0 cap] w fun e w' => e = .returned (.tuple #[.int .u64 0, .int .i64 0]) ∧ w = w' := by
  go_enter Try.func60, Try.ntmps60
  go_wp2
  go_loop [4, 12] (fun n i => i = .int .i64 0 ∧ n = .int .u64 0) (fun _ _ => 0)
  case atStart => exact ⟨rfl, rfl⟩
  case round =>
    obtain ⟨rfl, rfl⟩ := hrel
    go_wp2
    go_ret2
    exact ⟨rfl, rfl⟩
theorem of_text {w : World} {a : Option Addr} {len cap : Nat} {bs : List Int} (h : TextAt w a len cap bs) (h8 : len ≤ 8) :
    Calls Try.prog 60 #[.slice a len cap] w fun e w' => e = .returned (.tuple #[.int .u64 (numOf bs), .int .i64 0]) ∧ w = w' := by
  rcases Nat.eq_zero_or_pos len with rfl | h0
  · rw [h.empty rfl]
    exact of_nil _ _ _
  · obtain ⟨x, o, rfl, hx, hc⟩ := h.at_ h0
    exact of_bytes x o bs len cap w h.length h8 h.small hc
/-- a text that a function hands back -/
def TextV (t : List Int) (v : Value) (w : World) : Prop := ∃ a n c, v = .slice a n c ∧ TextAt w a n c t
theorem TextV.below {t : List Int} {v : Value} {w w' : World} (h : TextV t v w) (hb : Below w.heap.size w w') : TextV t v w' := by
  obtain ⟨a, n, c, h1, h2⟩ := h
  exact ⟨a, n, c, h1, h2.below hb⟩
theorem TextV.text {t : List Int} {a : Option Addr} {n c : Nat} {w : World} (h : TextV t (.slice a n c) w) : TextAt w a n c t := by
  obtain ⟨a', n', c', h1, h2⟩ := h
  injection h1 with e1 e2 e3
  subst e1 e2 e3
  exact h2
theorem TextV.of_own {w : World} {base : Nat} {e : TypeId} {v : Value} {bs : List Int} (h : OwnB w base e v bs) : TextV bs v w := by
  obtain ⟨a, c, h1, h2, _⟩ := h.text
  exact ⟨a, _, c, h1, h2⟩
theorem OwnB.none_ {w : World} {base : Nat} {e : TypeId} {a : Option Addr} {n c : Nat} {bs : List Int} (h : OwnB w base e (.slice a n c) bs) : OwnB w base e (.slice a 0 c) [] := by
  obtain ⟨⟨h1, ⟨h2, h3⟩ | ⟨g, cap, cur, h2, hg, hh, hle, hmx, hsz, htk⟩⟩, hs⟩ := h
  · injection h2 with e1 e2 e3
    subst e1 e2 e3
    exact OwnB.nil w base e
  · injection h2 with e1 e2 e3
    subst e1 e2 e3
    exact ⟨⟨rfl, .inr ⟨g, _, cur, rfl, hg, hh, Nat.zero_le _, hmx, hsz, by simp⟩⟩, by simp⟩
theorem wpList_append_zerosW {P : Program} {w : World} {base : Nat} {t e tn : TypeId} {i : TypeInfo} {v : Value} {bs : List Int} {ops : Array Oper} {rest : List Oper} {o : Oper} {A : Act} {Q : Exit → Act → World → Prop} (hgd : o.guard = none) (s x : Operand) (ho : o.op = .call { callee := .builtin .append, args := #[s, x], argTypes := #[t, tn] })
    (ht : P.underlying t = some (.slice e)) (htn : P.underlying tn = some (.int .i64)) (hi : P.info? e = some i) (hz : i.zero = some (.int .u8 0)) (hsize : i.size = 1) (hby : i.bytes = 1) (hs : A.eval s = v) (hown : OwnB w base e v bs)
    (k : Nat) (hx : A.eval x = .int .i64 k) (hb : bs.length + k ≤ 140737488355328) (hbase : base ≤ w.heap.size)
    (h : ∀ v' w', OwnB w' base e v' (bs ++ List.replicate k 0) → w.grownBy w' v.ownBlock → Below base w w' → wpList P ops Q rest (A.put o.dst v') w') : wpList P ops Q (o :: rest) A w :=
  wpList_plain hgd fun K hK => by
    obtain ⟨v', w', hr, h2, h3, h4⟩ := run_append_zeros o.type ht htn hi hz hsize hby hown k hb hbase
    unfold Oper.wp execOp
    simp only [ho, resolve, invoke, builtin, Sem.run_bind, Sem.run_pure, Result.andThen_ok, List.map_toArray, List.map_cons, List.map_nil, hs, hx, hr, Oper.upon_value]
    exact hK _ _ (h v' w' h2 h3 h4)
set_option maxHeartbeats 4000000 in
set_option maxRecDepth 100000 in
theorem grow_none (w : World) : Calls Try.prog 70 #[.slice none 0 0, .int .i64 0] w fun e w' => ∃ v, e = .returned v ∧ OwnB w' w.heap.size 5 v [] ∧ Below w.heap.size w w' := by
  go_enter Try.func70, Try.ntmps70
  go_wp2
  go_returns
  exact ⟨_, rfl, OwnB.nil w w.heap.size 5, by go_grown⟩
set_option maxHeartbeats 4000000 in
set_option maxRecDepth 100000 in
theorem grow_some (k : Nat) (w : World) (h0 : 0 < k) (hb : k ≤ 140737488355328) : Calls Try.prog 70 #[.slice none 0 0, .int .i64 k] w fun e w' => ∃ v, e = .returned v ∧ OwnB w' w.heap.size 5 v [] ∧ Below w.heap.size w w' := by
  obtain ⟨i0, hi, hz0, hz1, hz2⟩ := info_parts info_byte
  have q1 : ¬ (k : Int) < 0 := by omega
  have q2 : (0 : Int) < k := by omega
  have HN := hid (OwnB.nil w w.heap.size 5)
  have hw : wrap64 (k : Int) = k := by unfold wrap64; omega
  go_enter Try.func70, Try.ntmps70
  go_wp2_with (at_builtin; refine wpList_append_zerosW rfl _ _ rfl Try.underlying31 Try.underlying3 hi hz0 hz1 hz2 rfl HN.out k rfl ?c1 ?c2 ?_)
  intro v4 w4 own4 g4 b4
  obtain ⟨va, vn, vc, rfl⟩ : ∃ a n c, v4 = .slice a n c := by
    obtain ⟨a, c, e, _⟩ := own4.text
    exact ⟨a, _, c, e⟩
  have HO := hid own4.none_
  have H4 := hid b4
  have hcut := fun W : World => run_cut_h (P := Try.prog) Try.underlying31 (by rw [hi]; simp [hz1]) va vn vc 0 W (by omega) (by omega)
  clear own4 g4 b4
  go_wp2_with fail
  go_returns
  exact ⟨_, rfl, HO.out, H4.out⟩
theorem grow_any (k : Nat) (w : World) (hb : k ≤ 140737488355328) : Calls Try.prog 70 #[.slice none 0 0, .int .i64 k] w fun e w' => ∃ v, e = .returned v ∧ OwnB w' w.heap.size 5 v [] ∧ Below w.heap.size w w' := by
  rcases Nat.eq_zero_or_pos k with rfl | h
  · exact grow_none w
  · exact grow_some k w h hb
set_option maxHeartbeats 4000000 in
set_option maxRecDepth 100000 in
theorem concat_any (a : Option Addr) (len cap : Nat) (ts : List (List Int)) (w : World) (hT : TextsAt w a len cap ts) (hbnd : sumLen ts ≤ 140737488355328) :
    Calls Try.prog 62 #[.slice a len cap] w fun e w' => ∃ v, e = .returned v ∧ Below w.heap.size w w' ∧ TextV ts.flatten v w' := by
  have hlen : ts.length = len := hT.length
  have hcp := hT.le
  have hmx := hT.max
  have HT := hid hT
  clear hT
  obtain ⟨i0, hi, hz0, hz1, hz2⟩ := info_parts info_byte
  go_enter Try.func62, Try.ntmps62
  go_wp2_with fail
  go_loopw [3, 11] (fun sv iv wr => ∃ k : Nat, k ≤ len ∧ iv = .int .i64 k ∧ sv = .int .i64 (sumLen (ts.take k) : Nat) ∧ w = wr) (fun _ i _ => len - (intOf i).toNat)
  case atStart => exact ⟨0, by omega, rfl, by simp [sumLen], rfl⟩
  case round =>
    obtain ⟨k, hk, rfl, rfl, rfl⟩ := hrel
    by_cases hlt : k < len
    · obtain ⟨r, off, a', l', c', rfl, hrl, hc, hTk⟩ := HT.out.at_ k hlt
      have e1 := sumLen_take ts k (by omega)
      have e2 := sumLen_le ts (k + 1)
      have e4 := hTk.length
      rw [e4] at e1
      have hc0 : (k : Int) < len := by omega
      have Hnext := hid (show ((sumLen (ts.take (k + 1)) : Nat) : Int) = (sumLen (ts.take k) : Nat) + (l' : Nat) by omega)
      have hnn : ¬ ((sumLen (ts.take k) : Nat) : Int) + (l' : Nat) < 0 := by omega
      have hwr : wrap64 (((sumLen (ts.take k) : Nat) : Int) + (l' : Nat)) = ((sumLen (ts.take k) : Nat) : Int) + (l' : Nat) := by unfold wrap64; omega
      clear e1 e2 e4 hTk
      generalize sumLen (ts.take k) = sk at *
      go_wp2_with fail
      exact ⟨⟨k + 1, by omega, by go_num, by rw [Hnext.out, hwr], by first | rfl | trivial⟩, by simp [intOf]; omega⟩
    · have hkl : k = len := by omega
      have hft : ts.take k = ts := List.take_of_length_le (by omega)
      rw [hft]
      have hc0 : ¬ (k : Int) < len := by omega
      go_wp2_with fail
      refine (grow_any (sumLen ts) _ hbnd).mono ?_
      rintro e w1 ⟨v1, rfl, own1, bel1⟩
      have HO1 := hid own1
      have HB1 := hid bel1
      clear own1 bel1
      go_wp2_with fail
      go_loopw [6, 27] (fun v i wr => ∃ k : Nat, k ≤ len ∧ i = .int .i64 k ∧ OwnB wr w.heap.size 5 v (ts.take k).flatten ∧ Below w.heap.size w wr) (fun _ i _ => len - (intOf i).toNat)
      case atStart => exact ⟨0, by omega, rfl, by simpa using HO1.out, HB1.out⟩
      case round =>
        obtain ⟨k, hk, rfl, hown, bel⟩ := hrel
        have Hown := hid hown
        have Hbel := hid bel
        have hsz := bel.size
        clear hown bel
        by_cases hlt : k < len
        · obtain ⟨r, off, a', l', c', rfl, hrl, hc, hTk⟩ := HT.out.at_ k hlt
          have hcw : wr.cell? ⟨r, off + k, none⟩ = some (.slice a' l' c') := (Hbel.out.cell (p := ⟨r, off + k, none⟩) hrl).trans hc
          have hTw := hid (hTk.below Hbel.out)
          have HF := hid (flatten_take ts k (by omega))
          have hsl : (ts.take k).flatten.length + l' ≤ 140737488355328 := by
            have e1 := sumLen_take ts k (by omega)
            have e2 := sumLen_le ts (k + 1)
            have e3 := flatten_length (ts.take k)
            have e4 := hTk.length
            omega
          have Hsl := hid hsl
          have hc0 : (k : Int) < len := by omega
          clear hTk hc hsl
          generalize ts.getD k [] = tk at *
          go_wp2_with (at_builtin; refine wpList_append_text rfl _ _ rfl Try.underlying31 hi hz0 hz1 hz2 rfl Hown.out rfl hTw.out ?c1 ?c2 ?_)
          case c1 => exact Hsl.out
          case c2 => exact hsz
          intro v4 w4 own4 g4 b4
          rw [← HF.out] at own4
          have H4 := hid (And.intro own4 (Hbel.out.trans b4))
          clear own4 g4 b4 hTw Hown
          go_wp2_with fail
          exact ⟨⟨k + 1, by omega, by go_num, H4.out.1, H4.out.2⟩, by simp [intOf]; omega⟩
        · have hkl : k = len := by omega
          have hft : (ts.take k).flatten = ts.flatten := by rw [List.take_of_length_le (by omega)]
          rw [hft] at Hown
          have hc0 : ¬ (k : Int) < len := by omega
          go_wp2_with fail
          go_returns
          exact ⟨_, rfl, Hbel.out, TextV.of_own Hown.out⟩
theorem toolong_any (a : Option Addr) (len cap : Nat) (w : World) (h : len ≤ 65535) :
    Calls Try.prog 74 #[.slice a len cap] w fun e w' => e = .returned (.bool false) ∧ w = w' := by
  have h1 : decide ((65535 : Int) < (len : Int)) = false := by simp; omega
  go_enter Try.func74, Try.ntmps74
  go_wp2
  go_ret
  exact ⟨rfl, rfl⟩
theorem texts_len {w : World} {a : Option Addr} {n c : Nat} {ts : List (List Int)} (hT : TextsAt w a n c ts) (hts : ∀ t ∈ ts, t.length ≤ 65535) (k : Nat) (hk : k < n) : (ts.getD k []).length ≤ 65535 := by
  have := hT.length
  rw [show ts.getD k [] = ts[k]'(by omega) by simp [show k < ts.length by omega]]
  exact hts _ (List.getElem_mem _)
set_option maxHeartbeats 1000000 in
theorem index_none (a : Option Addr) (n c : Nat) (ts : List (List Int)) (w : World) (hT : TextsAt w a n c ts) (hts : ∀ t ∈ ts, t.length ≤ 65535) :
    Calls Try.prog 75 #[.slice a n c, .func (.func 74) #[] #[]] w fun e w' => e = .returned (.int .i64 (-1)) ∧ w = w' := by
  have hn : n ≤ 9223372036854775807 := Nat.le_trans hT.le hT.max
  have HT := hid hT
  have Hts := hid hts
  clear hT hts
  go_enter Try.func75, Try.ntmps75
  go_wp2
  go_loop [8] (fun i => ∃ k : Nat, k ≤ n ∧ i = .int .i64 k) (fun i => n - (intOf i).toNat)
  case atStart => exact ⟨0, by omega, rfl⟩
  case round =>
    obtain ⟨k, hk, rfl⟩ := hrel
    by_cases hlt : k < n
    · obtain ⟨x, o, a', l', c', rfl, hx, hc, ht⟩ := HT.out.at_ k hlt
      have ht := toolong_any a' l' c' w (by rw [← ht.length]; exact texts_len HT.out Hts.out k hlt)
      go_wp2_with (go_at_call 74; refine ht.mono ?_; rintro e w5 ⟨rfl, rfl⟩)
      go_round
      case rel => exact ⟨k + 1, by omega, by go_num⟩
      case measure => simp [intOf]; omega
    · obtain rfl : k = n := by omega
      go_wp2
      go_ret
      exact ⟨rfl, rfl⟩
theorem contains_none (a : Option Addr) (n c : Nat) (ts : List (List Int)) (w : World) (hT : TextsAt w a n c ts) (hts : ∀ t ∈ ts, t.length ≤ 65535) :
    Calls Try.prog 73 #[.slice a n c, .func (.func 74) #[] #[]] w fun e w' => e = .returned (.bool false) ∧ w = w' := by
  have h := index_none a n c ts w hT hts
  go_enter Try.func73, Try.ntmps73
  go_wp2_with (go_at_call 75; refine h.mono ?_; rintro e w5 ⟨rfl, rfl⟩)
  go_ret
  exact ⟨rfl, rfl⟩
theorem be_succ (j : Nat) (n : Int) : be (j + 1) n = (n / (256 : Int) ^ j % 256) :: be j n := be_front j n
def rowB (ts : List (List Int)) : List Int := ts.flatMap fun t => be 2 t.length ++ t
theorem rowB_take (ts : List (List Int)) (k : Nat) (h : k < ts.length) : rowB (ts.take (k + 1)) = rowB (ts.take k) ++ (be 2 (ts.getD k []).length ++ ts.getD k []) := by
  unfold rowB
  rw [List.take_succ_eq_append_getElem h, List.flatMap_append, List.flatMap_singleton, show ts.getD k [] = ts[k] by simp [h]]
theorem rowB_length (ts : List (List Int)) (ht : ∀ t ∈ ts, t.length ≤ 65535) : (rowB ts).length ≤ ts.length * 65537 := by
  unfold rowB
  induction ts with
  | nil => simp
  | cons t ts ih =>
    have h1 := ih (fun t h => ht t (by simp [h]))
    have h2 := ht t (by simp)
    simp only [List.flatMap_cons, List.length_append, be_length, List.length_cons]
    omega
set_option maxHeartbeats 4000000 in
theorem row_any (ra : Option Addr) (n c : Nat) (ts : List (List Int)) (w : World) (hT : TextsAt w ra n c ts) (hn : n ≤ 65535) (hts : ∀ t ∈ ts, t.length ≤ 65535) :
    Calls Try.prog 72 #[.slice ra n c] w fun e w' => ∃ g m cap, e = .returned (.tuple #[.slice (some ⟨g, 0, none⟩) m cap, .int .i64 0]) ∧ m = 2 + (rowB ts).length ∧ m ≤ cap ∧ cap ≤ 9223372036854775807 ∧ w.heap.size ≤ g ∧ Below w.heap.size w w' ∧ Row8 w' g (be 2 n ++ rowB ts) := by
  obtain ⟨i0, hi, hz0, hz1, hz2⟩ := info_parts info_byte
  have hcon := contains_none ra n c ts w hT hts
  have hl := hT.length
  have h1 : decide ((65535 : Int) < (n : Int)) = false := by simp; omega
  have Hr := hid hT
  have Hl := hid hl
  have Hts := hid hts
  clear hT hl hts
  go_enter Try.func72, Try.ntmps72
  go_wp2_with (first | (go_at_call 73; refine hcon.mono ?_; rintro e w5 ⟨rfl, rfl⟩) | (go_at_call 61; refine (number_any n 2 2 _ (by omega) (by omega) (by decide)).mono ?_; rintro e w2 ⟨g0, hg0, rfl, bel, kB⟩))
  have hown : w2.ownsRow w.heap.size 5 1 (.slice (some ⟨g0, 0, none⟩) 2 2) 2 ((be 2 n).map (Value.int .u8)) :=
    ⟨by simp [be_length], .inr ⟨g0, 2, _, rfl, hg0, kB, by omega, by decide, by simp [be_length], by simp; exact List.take_of_length_le (by simp [be_length])⟩⟩
  clear kB
  go_loopw [4, 20] (fun v i wr => ∃ k : Nat, k ≤ n ∧ i = .int .i64 k ∧ ∃ g L cap, v = .slice (some ⟨g, 0, none⟩) L cap ∧ L = 2 + (rowB (ts.take k)).length ∧ wr.ownsRow w.heap.size 5 1 v L ((be 2 n ++ rowB (ts.take k)).map (Value.int .u8)) ∧ Below w.heap.size w wr) (fun _ i _ => n - (intOf i).toNat)
  case atStart => exact ⟨0, by omega, rfl, g0, 2, 2, rfl, by simp [rowB], by simpa [rowB] using hown, bel⟩
  case round =>
    clear hown bel
    obtain ⟨k, hk, rfl, g, L, cap, rfl, hL, hown, bel⟩ := hrel
    by_cases hlt : k < n
    · obtain ⟨r, off, a, len, tc, rfl, hrl, hc, hT⟩ := Hr.out.at_ k hlt
      have hcw : wr.cell? ⟨r, off + k, none⟩ = some (.slice a len tc) := (bel.cell (p := ⟨r, off + k, none⟩) hrl).trans hc
      have hkt : k < ts.length := by rw [Hl.out]; exact hlt
      have HS := hid (rowB_take ts k hkt)
      have htl : (ts.getD k []).length ≤ 65535 := by
        rw [show ts.getD k [] = ts[k] by simp [hkt]]
        exact Hts.out _ (List.getElem_mem _)
      have hB : (rowB (ts.take k)).length ≤ k * 65537 := by
        have := rowB_length (ts.take k) (fun t h => Hts.out t (List.mem_of_mem_take h))
        rwa [List.length_take, Nat.min_eq_left (by omega)] at this
      generalize ts.getD k [] = t at *
      generalize rowB (ts.take k) = RB at *
      have hlen := hT.length
      have HT := hid hT
      have HLen := hid hlen
      clear hT hc hrl
      have hL2 : L ≤ 4294967295 := by omega
      have HL := hid hL
      clear hL
      go_wp2_with (first | (go_at_call 61; refine (number_any len 2 2 _ (by omega) (by omega) (by decide)).mono ?_; rintro e w3 ⟨gN, hgN, rfl, b3, kN⟩; replace hown := owns_below hown b3; replace bel := Below.on bel b3) | (at_builtin; refine wpList_append_own _ rfl _ _ 31 rfl w.heap.size 5 i0 (.int .u8 0) 1 1 Try.underlying31 hi hz0 hz1 hz2 rfl (by decide) (.slice (some ⟨g, 0, none⟩) L cap) L _ rfl hown ⟨gN, 0, none⟩ 2 2 ((be 2 len).map (Value.int .u8)) rfl ?c0 ?c1 ?c2 ?c3 ?c4 ?c5 ?_))
      case c0 => simp [be_length]
      case c1 => exact news_blk kN
      case c2 => intro u hu; simp only [List.mem_map] at hu; obtain ⟨y, _, rfl⟩ := hu; rfl
      case c3 => unfold maxLen; omega
      case c4 => omega
      case c5 => exact bel.size
      intro v' w4 hown4 hgrow hnil
      have bel4 := bel.grown hgrow bel.size (fun q hq => by have := hown.lt q hq; omega)
      have hv : ∃ g cap, v' = .slice (some ⟨g, 0, none⟩) (L + 2) cap := by
        obtain ⟨_, h | ⟨g, cap, cur, h, _⟩⟩ := hown4
        · omega
        · exact ⟨g, cap, h⟩
      obtain ⟨g', cap', rfl⟩ := hv
      clear hown hgrow hnil kN b3 bel
      rcases HT.out.mem with ⟨rfl, rfl, rfl⟩ | ⟨x, o, s, rfl, _⟩
      · have ht0 : t = [] := List.eq_nil_of_length_eq_zero HLen.out
        rw [ht0] at HS
        have HS2 := hid (show rowB (ts.take (k + 1)) = RB ++ be 2 0 by rw [HS.out]; simp)
        clear HS
        have hcap : L + 2 ≤ cap' := by
          obtain ⟨_, h | ⟨_, _, _, h, _, _, hle, _⟩⟩ := hown4
          · omega
          · injection h with e1 e2 e3
            omega
        go_wp2_with (at_builtin; refine wpList_append_fits_any _ rfl _ _ 31 rfl w.heap.size 5 i0 1 Try.underlying31 hi hz1 g' (L + 2) cap' _ rfl hown4 none 0 0 [] rfl rfl (fun _ => ⟨rfl, rfl⟩) (fun _ h => by cases h) (fun _ h => by cases h) ?c6 ?_)
        case c6 => omega
        intro w5 hown5 hgrow
        have bel5 := bel4.grown hgrow bel4.size (fun q hq => by have := hown4.lt q hq; omega)
        clear hown4 hgrow bel4
        go_wp2_with fail
        refine ⟨⟨k + 1, by omega, by go_num, g', L + 2, cap', rfl, ?_, ?_, bel5⟩, by simp [intOf]; omega⟩
        · rw [HS2.out, List.length_append, be_length, HL.out]; omega
        · rw [HS2.out]
          simpa only [List.map_append, List.append_assoc] using hown5
      · have hnews := (HT.out.below bel4).news
        go_wp2_with (at_builtin; refine wpList_append_own _ rfl _ _ 31 rfl w.heap.size 5 i0 (.int .u8 0) 1 1 Try.underlying31 hi hz0 hz1 hz2 rfl (by decide) (.slice (some ⟨g', 0, none⟩) (L + 2) cap') (L + 2) _ rfl hown4 ⟨x, o, s⟩ len tc (t.map (Value.int .u8)) rfl ?c0 ?c1 ?c2 ?c3 ?c4 ?c5 ?_)
        case c0 => simp [HLen.out]
        case c1 => exact hnews
        case c2 => intro u hu; simp only [List.mem_map] at hu; obtain ⟨y, _, rfl⟩ := hu; rfl
        case c3 => unfold maxLen; omega
        case c4 => omega
        case c5 => exact bel4.size
        intro v' w5 hown5 hgrow hnil
        have bel5 := bel4.grown hgrow bel4.size (fun q hq => by have := hown4.lt q hq; omega)
        have hv : ∃ g cap, v' = .slice (some ⟨g, 0, none⟩) (L + 2 + len) cap := by
          obtain ⟨_, h | ⟨g, cap, cur, h, _⟩⟩ := hown5
          · omega
          · exact ⟨g, cap, h⟩
        obtain ⟨g2, cap2, rfl⟩ := hv
        clear hown4 hgrow hnil hnews bel4
        go_wp2_with fail
        refine ⟨⟨k + 1, by omega, by go_num, g2, L + 2 + len, cap2, rfl, ?_, ?_, bel5⟩, by simp [intOf]; omega⟩
        · rw [HS.out, List.length_append, List.length_append, be_length, HLen.out, HL.out]; omega
        · rw [HS.out, HLen.out]
          simpa only [List.map_append, List.append_assoc] using hown5
    · obtain rfl : k = n := by omega
      rw [List.take_of_length_le (by rw [Hl.out]; omega)] at hL hown
      obtain ⟨hg, hrow⟩ := Row8.of_owns (bs := be 2 k ++ rowB ts) hown
      have hcap : L ≤ cap ∧ cap ≤ 9223372036854775807 := by
        obtain ⟨_, h | ⟨_, _, _, h, _, _, hle, hmx, _⟩⟩ := hown
        · omega
        · injection h with e1 e2 e3
          unfold maxLen at hmx
          omega
      clear hown
      go_wp2_with fail
      go_ret2
      exact ⟨g, L, cap, rfl, hL, hcap.1, hcap.2, hg, bel, hrow⟩
end Go.Proofs.Ytmpgnpkodapidaa
