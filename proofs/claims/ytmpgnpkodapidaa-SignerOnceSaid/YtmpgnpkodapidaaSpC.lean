/-
  Layer 12: the document's disk: its image, and what is read.
-/
import Derived.Test.YtmpgnpkodapidaaSpB
namespace Go.Proofs.Ytmpgnpkodapidaa
open Go.ChangeShapes Go.WideShapes Go.ChangeAt Go.RowKit

theorem flat_take_succ (On : List (List Int)) (j : Nat) (h : j < On.length) : (On.take j).flatten ++ On.getD j [] = (On.take (j + 1)).flatten := by
  rw [List.take_add_one, List.getElem?_eq_getElem h, Option.toList_some, List.flatten_append, List.getD_eq_getElem?_getD, List.getElem?_eq_getElem h]
  simp
theorem flat_len (z : Nat) : ∀ On : List (List Int), (∀ t ∈ On, t.length = z) → On.flatten.length = On.length * z
  | [], _ => by simp
  | t :: On, h => by
    rw [List.flatten_cons, List.length_append, flat_len z On (fun u hu => h u (by simp [hu])), h t (by simp), List.length_cons, Nat.succ_mul, Nat.add_comm]
theorem row_at {w : World} {g n : Nat} {e : TypeId} {cur : Array Value} {xs : List Value} (k : Blk w g cur e) (h4 : cur.toList.take n = xs) {j : Nat} {u : Value} (hj : xs[j]? = some u) : w.cell? ⟨g, j, none⟩ = some u := by
  have := row_cell k h4 hj
  rwa [Nat.zero_add, Nat.mul_one] at this
set_option maxHeartbeats 4000000 in
set_option maxRecDepth 100000 in
theorem refimage_any (w : World) (N r z : Nat) (ov av wv : Value) (On : List (List Int)) (ws : List (Nat × List Int)) (off : Bool) (left : Int) (kv : Value) (h : RfAt w N r z ov av wv On ws off left kv) (hz : z ≤ 512) (hn1 : 1 ≤ On.length) (hn : On.length ≤ 64) (hl : ∀ t ∈ On, t.length = z) :
    Calls Try.prog 15 #[.pointer (some ⟨r, 0, none⟩)] w fun e w' => e = .returned (.string (strOfNums On.flatten)) ∧ Below w.heap.size w w' := by
  have H := hid h
  have Hb := hid (Below.refl w.heap.size w)
  have c1 : w.cell? ⟨r, 1, none⟩ = some ov := by rw [h.kr.cell]; rfl
  obtain ⟨g, cap, cur, rfl, hg, k, hcap, hmx, hsz, htk⟩ := owns_form h.on (by omega)
  have K := hid k
  clear h k
  go_enter Try.func15, Try.ntmps15
  go_wp2_with fail
  go_loopw [3, 4] (fun sv iv wr => ∃ j : Nat, j ≤ On.length ∧ iv = .int .i64 j ∧ sv = .string (strOfNums (On.take j).flatten) ∧ wr = w) (fun _ iv _ => On.length - (intOf iv).toNat)
  case atStart => exact ⟨0, Nat.zero_le _, rfl, rfl, rfl⟩
  case round =>
    obtain ⟨j, hj, rfl, rfl, rfl⟩ := hrel
    by_cases hlt : j < On.length
    · have hjI : (j : Int) < (On.length : Int) := by omega
      have cc : wr.cell? ⟨g, j, none⟩ = some (.string (strOfNums (On.getD j []))) := row_at K.out htk (by simp [hlt, strV])
      have q3 := strOfNums_append (On.take j).flatten (On.getD j [])
      rw [flat_take_succ On j hlt] at q3
      have s1 := strOfNums_size (On.take j).flatten
      have s2 := strOfNums_size (On.getD j [])
      rw [flat_len z _ (fun t ht => hl t (List.mem_of_mem_take ht)), List.length_take] at s1
      rw [hl (On.getD j []) (by rw [List.getD_eq_getElem?_getD, List.getElem?_eq_getElem hlt]; exact List.getElem_mem _)] at s2
      have hmul : min j On.length * z ≤ 64 * 512 := Nat.mul_le_mul (by omega) hz
      have ccc : ¬ (strOfNums (On.take j).flatten).size + (strOfNums (On.getD j [])).size > 9223372036854775807 := by omega
      generalize (On.take j).flatten = A at *
      generalize On.getD j [] = C at *
      go_wp2_with fail
      exact ⟨⟨j + 1, by omega, by first | rfl | simp, rfl, by first | rfl | trivial⟩, by simp [intOf]; omega⟩
    · have hjn : j = On.length := by omega
      subst hjn
      have hjI : ¬ (On.length : Int) < (On.length : Int) := by omega
      go_wp2_with fail
      go_returns
      exact ⟨by first | rfl | simp, Hb.out⟩
set_option maxHeartbeats 4000000 in
set_option maxRecDepth 100000 in
theorem refread_off (w : World) (N r z : Nat) (ov av wv : Value) (On : List (List Int)) (ws : List (Nat × List Int)) (left : Int) (kv : Value) (h : RfAt w N r z ov av wv On ws true left kv) (i : Int) :
    Calls Try.prog 36 #[.pointer (some ⟨r, 0, none⟩), .int .i64 i] w fun e w' => e = .returned (.tuple #[.string (strOfNums []), .int .i64 9]) ∧ Below w.heap.size w w' := by
  have Hb := hid (Below.refl w.heap.size w)
  have c4 : w.cell? ⟨r, 4, none⟩ = some (.bool true) := by rw [h.kr.cell]; rfl
  go_enter Try.func36, Try.ntmps36
  go_wp2_with fail
  go_returns
  exact ⟨by first | rfl | simp, Hb.out⟩
set_option maxHeartbeats 4000000 in
set_option maxRecDepth 100000 in
theorem refread_bad (w : World) (N r z : Nat) (ov av wv : Value) (On : List (List Int)) (ws : List (Nat × List Int)) (left : Int) (kv : Value) (h : RfAt w N r z ov av wv On ws false left kv) (hn1 : 1 ≤ On.length) (i : Int) (hi : i < 0 ∨ (On.length : Int) ≤ i) :
    Calls Try.prog 36 #[.pointer (some ⟨r, 0, none⟩), .int .i64 i] w fun e w' => e = .returned (.tuple #[.string (strOfNums []), .int .i64 1]) ∧ Below w.heap.size w w' := by
  have Hb := hid (Below.refl w.heap.size w)
  have c4 : w.cell? ⟨r, 4, none⟩ = some (.bool false) := by rw [h.kr.cell]; rfl
  have c1 : w.cell? ⟨r, 1, none⟩ = some ov := by rw [h.kr.cell]; rfl
  obtain ⟨g, cap, cur, rfl, hg, k, hcap, hmx, hsz, htk⟩ := owns_form h.on (by omega)
  go_enter Try.func36, Try.ntmps36
  by_cases h0 : i < 0
  · go_wp2_with fail
    go_returns
    exact ⟨by first | rfl | simp, Hb.out⟩
  · have h1 : (On.length : Int) ≤ i := by omega
    go_wp2_with fail
    go_returns
    exact ⟨by first | rfl | simp, Hb.out⟩
def readR (i : Nat) (ws : List (Nat × List Int)) (On : List (List Int)) : Nat → List Int
  | 0 => On.getD i []
  | j + 1 => if (ws.getD j (0, [])).1 = i then (ws.getD j (0, [])).2 else readR i ws On j
set_option maxHeartbeats 4000000 in
set_option maxRecDepth 100000 in
theorem refread_any (w : World) (N r z : Nat) (ov av wv : Value) (On : List (List Int)) (ws : List (Nat × List Int)) (left : Int) (kv : Value) (h : RfAt w N r z ov av wv On ws false left kv) (i : Nat) (hi : i < On.length) (hlw : ws.length ≤ 1000) :
    Calls Try.prog 36 #[.pointer (some ⟨r, 0, none⟩), .int .i64 i] w fun e w' => e = .returned (.tuple #[.string (strOfNums (readR i ws On ws.length)), .int .i64 0]) ∧ Below w.heap.size w w' := by
  have Hb := hid (Below.refl w.heap.size w)
  have c4 : w.cell? ⟨r, 4, none⟩ = some (.bool false) := by rw [h.kr.cell]; rfl
  have c1 : w.cell? ⟨r, 1, none⟩ = some ov := by rw [h.kr.cell]; rfl
  have c2 : w.cell? ⟨r, 2, none⟩ = some av := by rw [h.kr.cell]; rfl
  have c3 : w.cell? ⟨r, 3, none⟩ = some wv := by rw [h.kr.cell]; rfl
  have hat := h.at_
  have hwt := h.wt
  obtain ⟨g, cap, cur, rfl, hg, k, hcap, hmx, hsz, htk⟩ := owns_form h.on (by omega)
  obtain ⟨oi, hoi⟩ : ∃ oi, On.getD i [] = oi := ⟨_, rfl⟩
  have ci : w.cell? ⟨g, i, none⟩ = some (.string (strOfNums oi)) := row_at k htk (by rw [← hoi]; simp [hi, strV])
  have Hr0 := hid (show readR i ws On 0 = oi from hoi)
  clear hoi hcap hmx hsz htk
  have h0 : ¬ (i : Int) < 0 := by omega
  have h1 : ¬ (On.length : Int) ≤ (i : Int) := by omega
  have HA := hid hat
  have HW := hid hwt
  clear h k hat hwt
  obtain ⟨ga, gc, rfl⟩ : ∃ ga gc, av = .slice ga ws.length gc := by
    obtain ⟨q1, ⟨q2, q3⟩ | ⟨g, cap, cur, q2, q3⟩⟩ := HA.out
    · exact ⟨none, 0, by rw [q2, q3]⟩
    · exact ⟨_, _, q2⟩
  go_enter Try.func36, Try.ntmps36
  go_wp2_with fail
  go_loopw [6, 7] (fun sv iv wr => ∃ j : Nat, j ≤ ws.length ∧ iv = .int .i64 j ∧ sv = .string (strOfNums (readR i ws On j)) ∧ wr = w) (fun _ iv _ => ws.length - (intOf iv).toNat)
  case atStart => exact ⟨0, Nat.zero_le _, rfl, by rw [Hr0.out], rfl⟩
  case round =>
    obtain ⟨j, hj, rfl, rfl, rfl⟩ := hrel
    generalize hR : readR i ws On j = R at *
    by_cases hlt : j < ws.length
    · have hjI : (j : Int) < (ws.length : Int) := by omega
      obtain ⟨ba, ca, ua, qa, _, ka, _, _, _, ta⟩ := owns_form HA.out (by omega)
      cases qa
      obtain ⟨bw, cw, uw, rfl, _, kw, hcw, _, _, tw⟩ := owns_form HW.out (by omega)
      obtain ⟨qi, qt, hX⟩ : ∃ qi qt, ws.getD j (0, []) = (qi, qt) := ⟨_, _, rfl⟩
      have HN := hid hR
      clear hR
      have hX2 : ws[j] = (qi, qt) := by rw [← hX, List.getD_eq_getElem?_getD, List.getElem?_eq_getElem hlt]; rfl
      have ca1 : wr.cell? ⟨ba, j, none⟩ = some (.int .i64 (qi : Int)) := row_at ka ta (by simp [hlt, atV, hX2])
      have cw1 : wr.cell? ⟨bw, j, none⟩ = some (.string (strOfNums qt)) := row_at kw tw (by simp [hlt, waV, strV, hX2])
      clear ka kw ta tw hX2
      by_cases hq : qi = i
      · have e := hid (show readR i ws On (j + 1) = qt by rw [readR, hX, if_pos hq])
        clear hX
        subst hq
        go_wp2_with fail
        exact ⟨⟨j + 1, by omega, by first | rfl | simp, by rw [e.out], by first | rfl | trivial⟩, by simp [intOf]; omega⟩
      · have e := hid (show readR i ws On (j + 1) = R by rw [readR, hX, if_neg hq]; exact HN.out)
        clear hX
        have hqI : ¬ ((qi : Int) = (i : Int)) := by omega
        have hqB : ((qi : Int) == (i : Int)) = false := by simp; omega
        go_wp2_with fail
        exact ⟨⟨j + 1, by omega, by first | rfl | simp, by rw [e.out], by first | rfl | trivial⟩, by simp [intOf]; omega⟩
    · have hjn : j = ws.length := by omega
      subst hjn
      have HRR := hid hR
      clear hR
      have hjI : ¬ (ws.length : Int) < (ws.length : Int) := by omega
      go_wp2_with fail
      go_returns
      exact ⟨by rw [HRR.out]; first | rfl | simp, Hb.out⟩
end Go.Proofs.Ytmpgnpkodapidaa
