/-
  ShaBegin, ShaSum: one text.
-/
import Derived.Test.YthaicocfbmpnmaaDoorLNShaFin
import Derived.Test.YthaicocfbmpnmaaDoorLMText
namespace Go.Proofs.YthaicocfbmpnmaaDoor
open Go.ChangeShapes Go.WideShapes Go.ChangeAt Go.RowKit

set_option maxRecDepth 100000 in
theorem size_hash : (Tryd.prog.info? 110).map (·.size) = some 73 := by kernel_rfl

/-- the cells of a new hash -/
def newHash : Array Value := (hashCells Sha.start (List.replicate 64 0) 0).toArray

set_option maxHeartbeats 2000000 in
set_option maxRecDepth 100000 in
theorem begin_any (w : World) (tab : ShaTab w) : Calls Tryd.prog 73 #[] w fun e w' => e = .returned (.agg newHash) ∧ Below w.heap.size w w' := by
  have hlt := tab.lt0
  obtain ⟨g0, g1, g2, g3, g4, g5, g6, g7⟩ := tab.start
  have HZ : Hid (Tryd.zeroCells110.size = 73) := hid (by kernel_rfl)
  have HN : Hid (newHash.size = 73) := hid (hashCells_size _ _ _ (by simp))
  go_enter Tryd.func73, Tryd.ntmps73
  go_wp2_with (refine wpList_store_blk rfl 110 _ _ rfl w.heap.size newHash rfl (by kernel_rfl) Tryd.zeroCells110 110 (Blk.new rfl _ _) 73 size_hash HZ.out HN.out (by kernel_rfl) ?_; intro w2 hb2 hk2)
  exact bodyPost_ret (v := .agg newHash) (results_blk Tryd.results73 _ w.heap.size rfl _ 110 hk2 _ Tryd.underlying110 rfl 73 size_hash HN.out) rfl ⟨rfl, hb2.below ((Below.refl _ _).alloc (Nat.le_refl _) _) (by rw [World.size_alloc]; omega) (Nat.le_refl _)⟩
end Go.Proofs.YthaicocfbmpnmaaDoor

namespace Go.Proofs.YthaicocfbmpnmaaDoor
open Go.ChangeShapes Go.WideShapes Go.ChangeAt Go.RowKit

set_option maxRecDepth 100000 in
theorem hash_new {w : World} {ph : Nat} {T : TypeId} (h : Blk w ph newHash T) : HashAt w ph T [] :=
  ⟨by simp, List.replicate 64 0, by simp, fun x hx => by have := List.eq_of_mem_replicate hx; omega, by simp, h⟩
set_option maxRecDepth 100000 in
theorem HashAt.below {w w' : World} {ph : Nat} {T : TypeId} {bs : List Int} (h : HashAt w ph T bs) (hb : Below w.heap.size w w') : HashAt w' ph T bs := by
  obtain ⟨h1, R, h2, h3, h4, h5⟩ := h
  exact ⟨h1, R, h2, h3, h4, h5.below hb⟩
set_option maxRecDepth 100000 in
theorem HashAt.lt {w : World} {ph : Nat} {T : TypeId} {bs : List Int} (h : HashAt w ph T bs) : ph < w.heap.size := by
  obtain ⟨h1, R, h2, h3, h4, h5⟩ := h
  exact h5.lt

set_option maxHeartbeats 4000000 in
set_option maxRecDepth 100000 in
theorem sum_any (a : Option Addr) (len cap : Nat) (ts : List (List Int)) (w : World) (hT : TextsAt w a len cap ts) (hbnd : sumLen ts < 1152921504606846976) (tab : ShaTab w) :
    Calls Tryd.prog 46 #[.slice a len cap] w fun e w' => e = .returned (.agg ((sumZ ts.flatten).map (Value.int .u8)).toArray) ∧ Below w.heap.size w w' := by
  have hlen : ts.length = len := hT.length
  have hcp := hT.le
  have hmx := hT.max
  have hlt1 := tab.lt
  have hlt0 := tab.lt0
  have HT := hid hT
  have Htab := hid tab
  have HN : Hid (newHash.size = 73) := hid (hashCells_size _ _ _ (by simp))
  have HZ : Hid (Tryd.zeroCells110.size = 73) := hid (by kernel_rfl)
  have H1 : Hid (newHash.all (·.oneCell') = true) := hid (by kernel_rfl)
  clear hT tab
  go_enter Tryd.func46, Tryd.ntmps46
  go_wp2_with fail
  refine (begin_any _ (Htab.out.below ((Below.refl _ _).alloc (Nat.le_refl _) _))).mono ?_
  rintro e w1 ⟨rfl, b1⟩
  have hs1 : w.heap.size < w1.heap.size := by have := b1.size; rw [World.size_alloc] at this; omega
  have kr1 := (Blk.new (w := w) rfl (byteCells 32 []) 23).below b1
  have bel1 : Below w.heap.size w w1 := Below.on ((Below.refl w.heap.size w).alloc (Nat.le_refl _) _) b1
  have Hkr1 := hid kr1
  have Hbel1 := hid bel1
  clear b1 kr1 bel1
  go_wp2_with (refine wpList_store_blk rfl 110 _ _ rfl w1.heap.size newHash rfl rfl Tryd.zeroCells110 110 (Blk.new rfl _ _) 73 size_hash HZ.out HN.out H1.out ?_; intro w2 hb2 hk2)
  have bel2 : Below w.heap.size w w2 := hb2.below (Hbel1.out.alloc (by omega) _) (by rw [World.size_alloc]; omega) (by omega)
  have kr2 : Blk w2 w.heap.size (byteCells 32 []) 23 := hb2.blk (Hkr1.out.old _) (by omega)
  have hh2 := hash_new hk2
  have hph : w.heap.size < w1.heap.size := hs1
  generalize w1.heap.size = ph at *
  have Hh2 := hid hh2
  have Hkr2 := hid kr2
  have Hbel2 := hid bel2
  clear hb2 hk2 bel2 kr2 hh2 Hkr1 Hbel1 HZ HN H1
  go_loopw [9] (fun v wr => ∃ k : Nat, k ≤ len ∧ v = .int .i64 k ∧ HashAt wr ph 110 (ts.take k).flatten ∧ Below w.heap.size w wr ∧ Blk wr w.heap.size (byteCells 32 []) 23) (fun v _ => len - (intOf v).toNat)
  case atStart => exact ⟨0, by omega, rfl, by simpa using Hh2.out, Hbel2.out, Hkr2.out⟩
  case round =>
    obtain ⟨k, hk, rfl, hh, bel, kr⟩ := hrel
    have Hh := hid hh
    have Hbel := hid bel
    have Hkr := hid kr
    clear hh bel kr
    by_cases hlt : k < len
    · obtain ⟨r, off, a', l', c', rfl, hrl, hc, hTk⟩ := HT.out.at_ k hlt
      have hcw : wr.cell? ⟨r, off + k, none⟩ = some (.slice a' l' c') := (Hbel.out.cell (p := ⟨r, off + k, none⟩) hrl).trans hc
      have hTw := hTk.below Hbel.out
      have hne : 0 < l' → ∀ p : Addr, a' = some p → p.block ≠ ph := hTk.ne (by omega)
      have HTw := hid hTw
      have Hne := hid hne
      have HF := hid (flatten_take ts k (by omega))
      have hsl : (ts.take k).flatten.length + l' < 1152921504606846976 := by
        have e1 := sumLen_take ts k (by omega)
        have e2 := sumLen_le ts (k + 1)
        have e3 := flatten_length (ts.take k)
        have e4 := hTk.length
        omega
      clear hTk hTw hne hc
      go_wp2_with fail
      refine (add_any ph 110 _ a' l' c' _ wr Hh.out HTw.out hsl Hne.out (Htab.out.below Hbel.out) (by omega) (by omega)).mono ?_
      rintro e w4 ⟨rfl, b4, h4⟩
      have Hn : Hid (HashAt w4 ph 110 (ts.take (k + 1)).flatten ∧ Below w.heap.size w w4 ∧ Blk w4 w.heap.size (byteCells 32 []) 23) := hid ⟨by rw [HF.out]; exact h4, b4.below Hbel.out Hbel.out.size (by omega), b4.blk Hkr.out (by omega)⟩
      clear b4 h4 HTw Hne
      go_wp2_with fail
      exact ⟨⟨k + 1, by omega, by go_num, Hn.out.1, Hn.out.2.1, Hn.out.2.2⟩, by simp [intOf]; omega⟩
    · have hkl : k = len := by omega
      have hft : (ts.take k).flatten = ts.flatten := by rw [List.take_of_length_le (by omega)]
      rw [hft] at Hh
      have Hkl := hid hkl
      clear hkl hft
      have hfl := flatten_length ts
      go_wp2_with fail
      refine (finish_any ph 110 _ wr Hh.out (by omega) (Htab.out.below Hbel.out) (by omega) (by omega)).mono ?_
      rintro e w4 ⟨rfl, b4⟩
      have bel4 := b4.below Hbel.out Hbel.out.size (by omega)
      have kr4 := b4.blk Hkr.out (show w.heap.size ≠ ph by omega)
      have Hsz : Hid (((sumZ ts.flatten).map (Value.int .u8)).toArray.size = 32) := hid (by simp [sumZ_length])
      have Hzb : Hid ((byteCells 32 []).size = 32) := hid (byteCells_size 32 [] (by simp))
      have Hbel4 := hid bel4
      have Hkr4 := hid kr4
      clear b4 bel4 kr4 Hbel Hkr
      go_wp2_with (refine wpList_store_blk rfl 23 _ _ rfl w.heap.size _ rfl rfl _ 23 Hkr4.out 32 size_digest Hzb.out Hsz.out (ints_one _ _) ?_; intro w6 hbut6 hk6)
      exact bodyPost_ret (v := .agg ((sumZ ts.flatten).map (Value.int .u8)).toArray) (results_blk Tryd.results46 _ w.heap.size rfl _ 23 hk6 _ Tryd.underlying23 rfl 32 size_digest Hsz.out) rfl ⟨rfl, hbut6.below Hbel4.out Hbel4.out.size (Nat.le_refl _)⟩
end Go.Proofs.YthaicocfbmpnmaaDoor
