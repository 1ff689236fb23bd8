/-
  Layer 12: the document's disk in memory; Fail and Boot.
-/
import Derived.Test.YtmpgnpkodapidaaSpA
namespace Go.Proofs.Ytmpgnpkodapidaa
open Go.ChangeShapes Go.WideShapes Go.ChangeAt Go.RowKit

def rfC (z : Nat) (ov av wv : Value) (off : Bool) (left : Int) (kv : Value) : Array Value := #[.int .i64 z, ov, av, wv, .bool off, .int .i64 left, kv]
def strV (t : List Int) : Value := .string (strOfNums t)
def atV (x : Nat × List Int) : Value := .int .i64 (x.1 : Int)
def waV (x : Nat × List Int) : Value := strV x.2
theorem size_rdisk : (Try.prog.info? 77).map (·.size) = some 7 := by kernel_rfl
theorem size_str : (Try.prog.info? 9).map (·.size) = some 1 := by kernel_rfl
theorem size_strs : (Try.prog.info? 63).map (·.size) = some 1 := by kernel_rfl
theorem size_rint : (Try.prog.info? 3).map (·.size) = some 1 := by kernel_rfl
theorem size_rbool : (Try.prog.info? 4).map (·.size) = some 1 := by kernel_rfl
theorem size_rints : (Try.prog.info? 32).map (·.size) = some 1 := by kernel_rfl

/-- The document's disk: its cells, and three rows of its own. -/
structure RfAt (w : World) (N r z : Nat) (ov av wv : Value) (On : List (List Int)) (ws : List (Nat × List Int)) (off : Bool) (left : Int) (kv : Value) : Prop where
  kr : Blk w r (rfC z ov av wv off left kv) 77
  on : w.ownsRow N 9 1 ov On.length (On.map strV)
  at_ : w.ownsRow N 3 1 av ws.length (ws.map atV)
  wt : w.ownsRow N 9 1 wv ws.length (ws.map waV)
  ne : ∀ b, ov.ownBlock = some b → wv.ownBlock ≠ some b
  lo : N ≤ r
def rfS (r : Nat) (ov av wv : Value) : List Nat := r :: (ov.ownBlock.toList ++ (av.ownBlock.toList ++ wv.ownBlock.toList))

theorem owns_in {w w' : World} {N : Nat} {e : TypeId} {v : Value} {n s : Nat} {xs : List Value} {S : List Nat} (h : w.ownsRow N e s v n xs) (hb : FlowB.ButIn S w w') (hn : ∀ b, v.ownBlock = some b → b ∉ S) : w'.ownsRow N e s v n xs := by
  obtain ⟨h1, h2 | ⟨g, cap, cur, rfl, hg, hh, hr⟩⟩ := h
  · exact ⟨h1, .inl h2⟩
  · exact ⟨h1, .inr ⟨g, cap, cur, rfl, hg, by rw [hb.block g (Array.getElem?_eq_some_iff.1 hh).1 (hn g rfl)]; exact hh, hr⟩⟩
theorem owns_ne {w : World} {N r : Nat} {e T : TypeId} {v : Value} {n s : Nat} {cs : Array Value} {xs : List Value} (k : Blk w r cs T) (h : w.ownsRow N e s v n xs) (hT : T ≠ e) : ∀ b, v.ownBlock = some b → b ≠ r := by
  obtain ⟨h1, h2 | ⟨g, cap, cur, rfl, hg, hh, hr⟩⟩ := h
  · intro b hb; rw [h2.1] at hb; cases hb
  · intro b hb hbr
    cases hb
    subst hbr
    have k : w.heap[g]? = some (.cells cs T (0, 0)) := k
    rw [hh] at k
    injection k with k
    injection k with k1 k2
    exact hT k2.symm
theorem owns_two {w : World} {N M : Nat} {e T : TypeId} {v u : Value} {n m s q : Nat} {xs ys : List Value} (k : w.ownsRow N T q u m ys) (h : w.ownsRow M e s v n xs) (hT : T ≠ e) : ∀ b, v.ownBlock = some b → u.ownBlock ≠ some b := by
  obtain ⟨h1, h2 | ⟨g, cap, cur, rfl, hg, hh, hr⟩⟩ := k
  · intro b hb hq; rw [h2.1] at hq; cases hq
  · intro b hb hq
    cases hq
    exact owns_ne (show Blk w g cur T from hh) h hT g hb rfl
theorem owns_form {w : World} {N : Nat} {e : TypeId} {v : Value} {n : Nat} {xs : List Value} (h : w.ownsRow N e 1 v n xs) (hn : 0 < n) :
    ∃ g cap cur, v = .slice (some ⟨g, 0, none⟩) n cap ∧ N ≤ g ∧ Blk w g cur e ∧ n ≤ cap ∧ cap ≤ maxLen ∧ cur.size = cap ∧ cur.toList.take n = xs := by
  obtain ⟨h1, h2 | ⟨g, cap, cur, rfl, hg, hh, h3, h4, h5, h6⟩⟩ := h
  · omega
  · exact ⟨g, cap, cur, rfl, hg, hh, h3, h4, by omega, by rw [Nat.mul_one] at h6; exact h6⟩
theorem owns_put {w : World} {N g n cap : Nat} {e : TypeId} {cur : Array Value} {xs : List Value} (hx : xs.length = n) (hg : N ≤ g) (k : Blk w g cur e) (h1 : n ≤ cap) (h2 : cap ≤ maxLen) (h3 : cur.size = cap) (h4 : cur.toList.take n = xs) : w.ownsRow N e 1 (.slice (some ⟨g, 0, none⟩) n cap) n xs :=
  ⟨by omega, .inr ⟨g, cap, cur, rfl, hg, k, h1, h2, by omega, by rw [Nat.mul_one]; exact h4⟩⟩
theorem row_cell {w : World} {g n : Nat} {e : TypeId} {cur : Array Value} {xs : List Value} (k : Blk w g cur e) (h4 : cur.toList.take n = xs) {j : Nat} {u : Value} (hj : xs[j]? = some u) : w.cell? ⟨g, 0 + j * 1, none⟩ = some u := by
  rw [Nat.zero_add, Nat.mul_one, k.cell]
  rw [← h4, List.getElem?_take] at hj
  split at hj
  · simpa using hj
  · cases hj
/-- What happens to the disk's own cells alone. -/
theorem RfAt.but {w w' : World} {N r z : Nat} {ov av wv : Value} {On : List (List Int)} {ws : List (Nat × List Int)} {off off' : Bool} {left left' : Int} {kv kv' : Value} (h : RfAt w N r z ov av wv On ws off left kv) (hb : But r w w') (hk : Blk w' r (rfC z ov av wv off' left' kv') 77) : RfAt w' N r z ov av wv On ws off' left' kv' := by
  have hi : FlowB.ButIn [r] w w' := ButIn.of_but hb (by simp)
  exact ⟨hk, owns_in h.on hi (fun b hb => by simpa using owns_ne h.kr h.on (by decide) b hb), owns_in h.at_ hi (fun b hb => by simpa using owns_ne h.kr h.at_ (by decide) b hb), owns_in h.wt hi (fun b hb => by simpa using owns_ne h.kr h.wt (by decide) b hb), h.ne, h.lo⟩
theorem RfAt.in_ {w w' : World} {N r z : Nat} {ov av wv : Value} {On : List (List Int)} {ws : List (Nat × List Int)} {off : Bool} {left : Int} {kv : Value} {S : List Nat} (h : RfAt w N r z ov av wv On ws off left kv) (hb : FlowB.ButIn S w w') (hS : ∀ b ∈ rfS r ov av wv, b ∉ S) : RfAt w' N r z ov av wv On ws off left kv := by
  unfold rfS at hS
  exact ⟨hb.blk h.kr (hS r (by simp)), owns_in h.on hb (fun b q => hS b (by simp [q])), owns_in h.at_ hb (fun b q => hS b (by simp [q])), owns_in h.wt hb (fun b q => hS b (by simp [q])), h.ne, h.lo⟩
theorem RfAt.below {w w' : World} {N r z : Nat} {ov av wv : Value} {On : List (List Int)} {ws : List (Nat × List Int)} {off : Bool} {left : Int} {kv : Value} (h : RfAt w N r z ov av wv On ws off left kv) (hb : Below w.heap.size w w') : RfAt w' N r z ov av wv On ws off left kv :=
  h.in_ (S := []) (ButIn.of_below hb) (by simp)
set_option maxHeartbeats 4000000 in
set_option maxRecDepth 100000 in
theorem refboot_any (w : World) (N r z : Nat) (ov av wv : Value) (On : List (List Int)) (ws : List (Nat × List Int)) (off : Bool) (left : Int) (kv : Value) (h : RfAt w N r z ov av wv On ws off left kv) :
    Calls Try.prog 40 #[.pointer (some ⟨r, 0, none⟩)] w fun e w' => e = .returned (.tuple #[]) ∧ But r w w' ∧ RfAt w' N r z ov av wv On ws false (-1) kv := by
  have H := hid h
  have K := hid h.kr
  clear h
  go_enter Try.func40, Try.ntmps40
  go_wp2_with (first
     | (
        refine wpList_store_cell rfl 4 _ _ rfl r 4 (.bool false) rfl rfl rfl rfl _ 77 K.out (by simp [rfC]) size_rbool ?_
        intro w1 hb1 hk1
        have Hb1 := hid hb1
        have K1 := hid (show Blk w1 r (rfC z ov av wv false left kv) 77 from hk1)
        clear hb1 hk1)
     | (
        refine wpList_store_cell rfl 3 _ _ rfl r 5 (.int .i64 (-1)) rfl rfl rfl rfl _ 77 K1.out (by simp [rfC]) size_rint ?_
        intro w2 hb2 hk2
        have Hb2 := hid (But.trans Hb1.out hb2)
        have K2 := hid (show Blk w2 r (rfC z ov av wv false (-1) kv) 77 from hk2)
        clear hb2 hk2))
  go_returns
  exact ⟨by first | rfl | simp, Hb2.out, H.out.but Hb2.out K2.out⟩
set_option maxHeartbeats 4000000 in
set_option maxRecDepth 100000 in
theorem reffail_off (w : World) (N r z : Nat) (ov av wv : Value) (On : List (List Int)) (ws : List (Nat × List Int)) (left : Int) (kv : Value) (h : RfAt w N r z ov av wv On ws true left kv) (k : Int) (v : Value) :
    Calls Try.prog 38 #[.pointer (some ⟨r, 0, none⟩), .int .i64 k, v] w fun e w' => e = .returned (.tuple #[]) ∧ Below w.heap.size w w' := by
  have K := hid h.kr
  have Hb := hid (Below.refl w.heap.size w)
  have c4 : w.cell? ⟨r, 4, none⟩ = some (.bool true) := by rw [K.out.cell]; rfl
  clear h
  go_enter Try.func38, Try.ntmps38
  go_wp2_with fail
  go_returns
  exact ⟨by first | rfl | simp, Hb.out⟩
set_option maxHeartbeats 4000000 in
set_option maxRecDepth 100000 in
theorem reffail_on (w : World) (N r z : Nat) (ov av wv : Value) (On : List (List Int)) (ws : List (Nat × List Int)) (left : Int) (kv : Value) (h : RfAt w N r z ov av wv On ws false left kv) (k : Int) (ka : Option Addr) (kn kc : Nat) :
    Calls Try.prog 38 #[.pointer (some ⟨r, 0, none⟩), .int .i64 k, .slice ka kn kc] w fun e w' => e = .returned (.tuple #[]) ∧ But r w w' ∧ RfAt w' N r z ov av wv On ws false (if k < 0 then -1 else k) (.slice ka kn kc) := by
  have H := hid h
  have K := hid h.kr
  have c4 : w.cell? ⟨r, 4, none⟩ = some (.bool false) := by rw [K.out.cell]; rfl
  clear h
  go_enter Try.func38, Try.ntmps38
  by_cases hk : k < 0
  · rw [if_pos hk]
    go_wp2_with (first
       | (
          refine wpList_store_cell rfl 3 _ _ rfl r 5 (.int .i64 k) rfl rfl rfl rfl _ 77 K.out (by simp [rfC]) size_rint ?_
          intro w1 hb1 hk1
          have Hb1 := hid hb1
          have K1 := hid (show Blk w1 r (rfC z ov av wv false k kv) 77 from hk1)
          clear hb1 hk1)
       | (
          refine wpList_store_cell rfl 3 _ _ rfl r 5 (.int .i64 (-1)) rfl rfl rfl rfl _ 77 K1.out (by simp [rfC]) size_rint ?_
          intro w2 hb2 hk2
          have Hb2 := hid (But.trans Hb1.out hb2)
          have K2 := hid (show Blk w2 r (rfC z ov av wv false (-1) kv) 77 from hk2)
          clear hb2 hk2)
       | (
          refine wpList_store_cell rfl 32 _ _ rfl r 6 (.slice ka kn kc) rfl rfl rfl rfl _ 77 K2.out (by simp [rfC]) size_rints ?_
          intro w3 hb3 hk3
          have Hb3 := hid (But.trans Hb2.out hb3)
          have K3 := hid (show Blk w3 r (rfC z ov av wv false (-1) (.slice ka kn kc)) 77 from hk3)
          clear hb3 hk3))
    go_returns
    exact ⟨by first | rfl | simp, Hb3.out, H.out.but Hb3.out K3.out⟩
  · rw [if_neg hk]
    go_wp2_with (first
       | (
          refine wpList_store_cell rfl 3 _ _ rfl r 5 (.int .i64 k) rfl rfl rfl rfl _ 77 K.out (by simp [rfC]) size_rint ?_
          intro w1 hb1 hk1
          have Hb1 := hid hb1
          have K1 := hid (show Blk w1 r (rfC z ov av wv false k kv) 77 from hk1)
          clear hb1 hk1)
       | (
          refine wpList_store_cell rfl 32 _ _ rfl r 6 (.slice ka kn kc) rfl rfl rfl rfl _ 77 K1.out (by simp [rfC]) size_rints ?_
          intro w3 hb3 hk3
          have Hb3 := hid (But.trans Hb1.out hb3)
          have K3 := hid (show Blk w3 r (rfC z ov av wv false k (.slice ka kn kc)) 77 from hk3)
          clear hb3 hk3))
    go_returns
    exact ⟨by first | rfl | simp, Hb3.out, H.out.but Hb3.out K3.out⟩
end Go.Proofs.Ytmpgnpkodapidaa
