/-
  ShaRefPad, ShaRef, ShaRefSt: one text.
-/
import Derived.Test.YthaicocfbmpnmaaDoorLMShaP
import Derived.Test.YthaicocfbmpnmaaDoorLNShaFin
namespace Go.Proofs.YthaicocfbmpnmaaDoor
open Go.ChangeShapes Go.WideShapes Go.ChangeAt Go.RowKit

set_option maxRecDepth 100000 in
theorem toZ_natB {bs : List Int} (h : ∀ x ∈ bs, 0 ≤ x ∧ x < 256) : toZ (natB bs) = bs := by
  induction bs with
  | nil => rfl
  | cons x bs ih =>
    have hx := h x (by simp)
    have := ih fun y hy => h y (by simp [hy])
    unfold toZ natB at *
    rw [List.map_cons, List.map_cons, this, Int.toNat_of_nonneg hx.1]

set_option maxHeartbeats 8000000 in
set_option maxRecDepth 100000 in
theorem padded_any (a : Option Addr) (len cap : Nat) (bs : List Int) (w : World) (hT : TextAt w a len cap bs) (hbnd : len ≤ 140737488350000) :
    Calls Tryd.prog 77 #[.slice a len cap] w fun e w' => ∃ v, e = .returned v ∧ OwnB w' w.heap.size 5 v (toZ (Sha.pad (natB bs))) ∧ Below w.heap.size w w' := by
  have hlen := hT.length
  have hle := hT.le
  have hmx := hT.max
  have kE : OwnB (w.alloc (Obj.cells #[] 5)) w.heap.size 5 (.slice (some ⟨w.heap.size, 0, none⟩) 0 0) [] := OwnB.of_blk (Blk.new rfl _ _) (Nat.le_refl _) rfl (by omega) (by simp)
  have belE : Below w.heap.size w (w.alloc (Obj.cells #[] 5)) := (Below.refl _ _).alloc (Nat.le_refl _) _
  have hTE := hT.below belE
  have HkE := hid kE
  have HbE := hid belE
  have HTE := hid hTE
  have HT := hid hT
  have Hlen := hid hlen
  clear hT kE belE hTE
  obtain ⟨i0, hi, hz0, hz1, hz2⟩ := info_parts info_byte
  go_enter Tryd.func77, Tryd.ntmps77
  go_wp2_with (at_builtin; refine wpList_append_text rfl (.tmp 8) (.tmp 9) rfl Tryd.underlying67 hi hz0 hz1 hz2 rfl HkE.out rfl HTE.out ?c1 ?c2 ?_)
  case c1 => simp; omega
  case c2 => exact HbE.out.size
  intro v1 w1 own1 g1 b1
  have bel1 := HbE.out.trans b1
  have own1' := own1.below ((Below.refl w1.heap.size w1).alloc (Nat.le_refl _) (Obj.cells #[.int .u8 128] 5))
  have kT : TextAt (w1.alloc (Obj.cells #[.int .u8 128] 5)) (some ⟨w1.heap.size, 0, none⟩) 1 1 [128] := TextAt.of_ints (T := 5) (Blk.new rfl _ _) rfl (by omega) (by simp)
  have bel1' := bel1.alloc bel1.size (Obj.cells #[.int .u8 128] 5)
  have Hown1 := hid own1'
  have HkT := hid kT
  have Hbel1 := hid bel1'
  clear own1 own1' g1 b1 bel1 bel1' kT
  go_wp2_with (at_builtin; refine wpList_append_text rfl (.tmp 10) (.tmp 11) rfl Tryd.underlying67 hi hz0 hz1 hz2 rfl Hown1.out rfl HkT.out ?c1 ?c2 ?_)
  case c1 => simp; omega
  case c2 => exact Hbel1.out.size
  intro v2 w2 own2 g2 b2
  have Hbel2 := hid (Hbel1.out.trans b2)
  have Hown2 : Hid (OwnB w2 w.heap.size 5 v2 (bs ++ 128 :: List.replicate 0 0)) := hid (by simpa using own2)
  clear own2 g2 b2 HkT Hown1 Hbel1
  go_wp2_with fail
  go_loopw [3] (fun v wr => ∃ z : Nat, z ≤ Sha.zerosFor bs.length ∧ OwnB wr w.heap.size 5 v (bs ++ 128 :: List.replicate z 0) ∧ Below w.heap.size w wr) (fun v _ => bs.length + 200 - sliceLen v)
  case atStart => exact ⟨0, Nat.zero_le _, Hown2.out, Hbel2.out⟩
  case round =>
    obtain ⟨z, hz, hown, bel⟩ := hrel
    obtain ⟨ao, co, rfl, hTo, _⟩ := hown.text
    have Hl : Hid ((bs ++ 128 :: List.replicate z (0 : Int)).length = len + 1 + z) := hid (by rw [List.length_append, List.length_cons, List.length_replicate, Hlen.out]; omega)
    have hzf : z < 64 := by unfold Sha.zerosFor at hz; omega
    have Hz := hid hz
    rw [Hl.out] at hown hTo
    rw [Hl.out]
    have hco := hTo.le
    have hmo := hTo.max
    have Hown := hid hown
    have Hbel := hid bel
    have hszw := bel.size
    clear hown bel hz hTo
    by_cases hq : (len + 1 + z) % 64 = 56
    · have hq2 : (((len : Int) + 1 + (z : Int)) % 64) = 56 := by omega
      have hzz : z = Sha.zerosFor bs.length := by
        have := Hz.out
        have := Hlen.out
        unfold Sha.zerosFor at *
        omega
      have Hzz := hid hzz
      clear hzz
      have kN : OwnB (wr.alloc (Obj.cells #[.int .u8 ((len : Int) % 32 * 8)] 5)) wr.heap.size 5 (.slice none 0 0) [] := OwnB.nil _ _ _
      have kT : TextAt (wr.alloc (Obj.cells #[.int .u8 ((len : Int) % 32 * 8)] 5)) (some ⟨wr.heap.size, 0, none⟩) 1 1 [(len : Int) % 32 * 8] := TextAt.of_ints (T := 5) (Blk.new rfl _ _) rfl (by omega) (by simp; omega)
      have belN := (Below.refl wr.heap.size wr).alloc (Nat.le_refl _) (Obj.cells #[.int .u8 ((len : Int) % 32 * 8)] 5)
      have HkN := hid kN
      have HkT := hid kT
      have HbN := hid belN
      clear kN kT belN
      go_wp2_with (at_builtin; refine wpList_append_text rfl (.tmp 27) (.tmp 30) rfl Tryd.underlying67 hi hz0 hz1 hz2 rfl HkN.out rfl HkT.out ?c1 ?c2 ?_)
      case c1 => simp
      case c2 => exact HbN.out.size
      intro v3 w3 own3 g3 b3
      have hb3 := HbN.out.trans b3
      have own3' : OwnB w3 wr.heap.size 5 v3 (toZ (Sha.nbe 1 (8 * bs.length))) := by
        have e : toZ (Sha.nbe 1 (8 * bs.length)) = [(len : Int) % 32 * 8] := by
          have := Hlen.out
          simp only [Sha.nbe, toZ, List.nil_append, List.map_cons, List.map_nil, this]
          congr 1
          omega
        rw [e]; simpa using own3
      have Hb3 := hid hb3
      have Ho3 := hid own3'
      clear own3 own3' g3 b3 hb3 HkN HkT HbN
      generalize wr = wo at *
      go_wp2_with fail
      go_loopw [4, 5, 7] (fun n v i wq => ∃ k : Nat, k ≤ 7 ∧ i = .int .i64 k ∧ n = .int .i64 ((8 * len / 256 ^ (k + 1) : Nat)) ∧ OwnB wq wo.heap.size 5 v (toZ (Sha.nbe (k + 1) (8 * bs.length))) ∧ Below wo.heap.size wo wq) (fun _ _ i _ => 7 - (intOf i).toNat)
      case atStart => exact ⟨0, by omega, rfl, congrArg (Value.int .i64) (by omega), Ho3.out, Hb3.out⟩
      case round =>
        obtain ⟨k, hk, rfl, rfl, hown, bel⟩ := hrel
        obtain ⟨at_, ct, rfl, hTt, _⟩ := hown.text
        have Hl2 : Hid ((toZ (Sha.nbe (k + 1) (8 * bs.length))).length = k + 1) := hid (by rw [toZ, List.length_map, nbe_length])
        rw [Hl2.out] at hown hTt
        rw [Hl2.out]
        have hct := hTt.le
        have hmt := hTt.max
        have Hq : Hid (8 * len / 256 ^ (k + 1) / 256 = 8 * len / 256 ^ (k + 1 + 1)) := hid (by rw [Nat.div_div_eq_div_mul, ← Nat.pow_succ])
        have HNB : Hid (toZ (Sha.nbe (k + 1 + 1) (8 * bs.length)) = ((8 * len / 256 ^ (k + 1) % 256 : Nat) : Int) :: toZ (Sha.nbe (k + 1) (8 * bs.length))) := hid (by
          rw [nbe_succ (k + 1), Hlen.out]
          rfl)
        have hqb : 8 * len / 256 ^ (k + 1) < 1125899906842624 := Nat.lt_of_le_of_lt (Nat.div_le_self _ _) (by omega)
        generalize 8 * len / 256 ^ (k + 1) = q at *
        by_cases hlt : k < 7
        · have kN : OwnB (wr.alloc (Obj.cells #[.int .u8 ((q : Int) % 256)] 5)) wo.heap.size 5 (.slice (some ⟨wr.heap.size, 0, none⟩) 1 1) [(q : Int) % 256] :=
            OwnB.of_blk (Blk.new rfl _ _) bel.size rfl (by omega) (by simp; omega)
          have belN := bel.alloc bel.size (Obj.cells #[.int .u8 ((q : Int) % 256)] 5)
          have hTN := hTt.below ((Below.refl _ _).alloc (Nat.le_refl _) (Obj.cells #[.int .u8 ((q : Int) % 256)] 5))
          have HkN := hid kN
          have HbN := hid belN
          have HTN := hid hTN
          clear kN belN hTN hTt hown bel
          go_wp2_with (at_builtin; refine wpList_append_text rfl (.tmp 39) (.tmp 40) rfl Tryd.underlying67 hi hz0 hz1 hz2 rfl HkN.out rfl HTN.out ?c1 ?c2 ?_)
          case c1 => simp; omega
          case c2 => exact HbN.out.size
          intro v5 w5 own5 g5 b5
          have H5 : Hid (OwnB w5 wo.heap.size 5 v5 (toZ (Sha.nbe (k + 1 + 1) (8 * bs.length))) ∧ Below wo.heap.size wo w5) := hid ⟨by rw [HNB.out, Hlen.out]; simpa using own5, HbN.out.trans b5⟩
          clear own5 g5 b5 HkN HbN HTN
          go_wp2_with fail
          exact ⟨⟨k + 1, by omega, by go_num, congrArg (Value.int .i64) (by rw [← Hq.out]; omega), H5.out.1, H5.out.2⟩, by simp [intOf]; omega⟩
        · have h7 : k = 7 := by omega
          have Ht7 : Hid (TextAt wr at_ 8 ct (toZ (Sha.nbe 8 (8 * bs.length)))) := hid (by rw [h7] at hTt; exact hTt)
          have hk1 : k + 1 = 8 := by omega
          rw [hk1]
          have Ho := hid (Hown.out.below bel)
          have Hb := hid (Hbel.out.trans (bel.mono hszw))
          have hsz2 := Hb.out.size
          have H7 := hid h7
          clear hTt hown bel h7 hk1
          go_wp2_with (at_builtin; refine wpList_append_text rfl (.tmp 44) (.tmp 45) rfl Tryd.underlying67 hi hz0 hz1 hz2 rfl Ho.out rfl Ht7.out ?c1 ?c2 ?_)
          case c1 => rw [List.length_append, List.length_cons, List.length_replicate]; have := Hlen.out; omega
          case c2 => exact hsz2
          intro v5 w5 own5 g5 b5
          have H5 : Hid (OwnB w5 w.heap.size 5 v5 (toZ (Sha.pad (natB bs))) ∧ Below w.heap.size w w5) := hid (by
            refine ⟨?_, Hb.out.trans b5⟩
            have hpos := HT.out.small
            have hnl : (natB bs).length = bs.length := by simp [natB]
            have eb : toZ (natB bs) = bs := toZ_natB hpos
            have e : toZ (Sha.pad (natB bs)) = (bs ++ 128 :: List.replicate z 0) ++ toZ (Sha.nbe 8 (8 * bs.length)) := by
              rw [Sha.pad, hnl, Hzz.out]
              unfold toZ at *
              rw [List.map_append, eb, List.map_cons, List.map_append, List.map_replicate]
              simp
            rw [e, Hlen.out, List.append_assoc, List.cons_append]
            exact own5)
          clear own5 g5 b5 Ho Hb Ht7
          go_wp2_with fail
          go_ret
          exact ⟨_, rfl, H5.out⟩
    · have hq2 : ¬ (((len : Int) + 1 + (z : Int)) % 64) = 56 := by omega
      have own' := Hown.out.below ((Below.refl wr.heap.size wr).alloc (Nat.le_refl _) (Obj.cells #[.int .u8 0] 5))
      have kT : TextAt (wr.alloc (Obj.cells #[.int .u8 0] 5)) (some ⟨wr.heap.size, 0, none⟩) 1 1 [0] := TextAt.of_ints (T := 5) (Blk.new rfl _ _) rfl (by omega) (by simp)
      have bel' := Hbel.out.alloc Hbel.out.size (Obj.cells #[.int .u8 0] 5)
      have Hown' := hid own'
      have HkT := hid kT
      have Hbel' := hid bel'
      clear own' bel' kT
      go_wp2_with (at_builtin; refine wpList_append_text rfl (.tmp 17) (.tmp 18) rfl Tryd.underlying67 hi hz0 hz1 hz2 rfl Hown'.out rfl HkT.out ?c1 ?c2 ?_)
      case c1 => simp; omega
      case c2 => exact Hbel'.out.size
      intro v3 w3 own3 g3 b3
      have hz' : z + 1 ≤ Sha.zerosFor bs.length := by
        have := Hz.out
        have := Hlen.out
        unfold Sha.zerosFor at *
        omega
      have Hn : Hid (OwnB w3 w.heap.size 5 v3 (bs ++ 128 :: List.replicate (z + 1) 0) ∧ Below w.heap.size w w3) := hid ⟨by rw [List.replicate_succ']; simpa using own3, Hbel'.out.trans b3⟩
      obtain ⟨a3, c3, rfl, _, _⟩ := Hn.out.1.text
      have hl3 : (bs ++ 128 :: List.replicate (z + 1) (0 : Int)).length = len + 1 + z + 1 := by rw [List.length_append, List.length_cons, List.length_replicate, Hlen.out]; omega
      rw [hl3] at Hn
      rw [hl3]
      clear own3 g3 b3 HkT Hown' Hbel' hl3
      have hlb := Hlen.out
      go_wp2_with fail
      exact ⟨⟨z + 1, hz', Hn.out.1, Hn.out.2⟩, by simp only [sliceLen]; omega⟩
end Go.Proofs.YthaicocfbmpnmaaDoor

namespace Go.Proofs.YthaicocfbmpnmaaDoor
open Go.ChangeShapes Go.WideShapes Go.ChangeAt Go.RowKit

set_option maxHeartbeats 2000000 in
set_option maxRecDepth 100000 in
theorem keys_any (w : World) : Calls Tryd.prog 76 #[] w fun e w' => ∃ g, e = .returned (.slice (some ⟨g, 0, none⟩) 64 64) ∧ w.heap.size ≤ g ∧ Blk w' g (wordCells 64 Sha.keys) 105 ∧ Below w.heap.size w w' := by
  have hk := Blk.new (w := w) rfl (wordCells 64 Sha.keys) 105
  have hb := (Below.refl w.heap.size w).alloc (Nat.le_refl _) (.cells (wordCells 64 Sha.keys) 105 (0, 0))
  have Hk := hid (And.intro hk hb)
  clear hk hb
  go_enter Tryd.func76, Tryd.ntmps76
  go_wp2_with fail
  go_ret
  exact ⟨w.heap.size, rfl, Nat.le_refl _, Hk.out.1, Hk.out.2⟩
end Go.Proofs.YthaicocfbmpnmaaDoor

namespace Go.Proofs.YthaicocfbmpnmaaDoor
open Go.ChangeShapes Go.WideShapes Go.ChangeAt Go.RowKit

/-- a slice whose first eight cells are a state -/
def VAt (w : World) (B : Nat) (v : Value) (st : Sha.St) : Prop := ∃ g cap cur, v = .slice (some ⟨g, 0, none⟩) 8 cap ∧ B ≤ g ∧ 8 ≤ cap ∧ cap ≤ 9223372036854775807 ∧ Blk w g cur 105 ∧ ∀ j, j < 8 → cur[j]? = some (.int .u32 ((words st).getD j 0 : Nat))
set_option maxRecDepth 100000 in
theorem words_cell (st : Sha.St) (j : Nat) (hj : j < 8) : (stCells st)[j]? = some (.int .u32 ((words st).getD j 0 : Nat)) := by
  have hl : j < (words st).length := hj
  rw [stCells_words, List.getElem?_map, List.getD_eq_getElem?_getD, List.getElem?_eq_getElem hl]
  rfl
set_option maxRecDepth 100000 in
theorem VAt.of_owns {w : World} {B : Nat} {v : Value} {st : Sha.St} (h : w.ownsRow B 105 1 v 8 (stCells st)) : VAt w B v st := by
  obtain ⟨_, ⟨_, h⟩ | ⟨g, cap, cur, rfl, hg, hh, hle, hmx, _, htk⟩⟩ := h
  · omega
  · refine ⟨g, cap, cur, rfl, hg, hle, by unfold maxLen at hmx; omega, hh, fun j hj => ?_⟩
    rw [← words_cell st j hj, ← htk, List.getElem?_take, if_pos (by omega)]
    simp
set_option maxRecDepth 100000 in
theorem VAt.below {w w' : World} {B : Nat} {v : Value} {st : Sha.St} (h : VAt w B v st) (hb : Below w.heap.size w w') : VAt w' B v st := by
  obtain ⟨g, cap, cur, rfl, h1, h2, h3, h4, h5⟩ := h
  exact ⟨g, cap, cur, rfl, h1, h2, h3, h4.below hb, h5⟩
set_option maxRecDepth 100000 in
theorem VAt.new {w : World} {B : Nat} (st : Sha.St) (hB : B ≤ w.heap.size) : VAt (w.alloc (.cells (stCells st).toArray 105)) B (.slice (some ⟨w.heap.size, 0, none⟩) 8 8) st :=
  ⟨_, 8, _, rfl, hB, Nat.le_refl _, by omega, Blk.new rfl _ _, fun j hj => by rw [List.getElem?_toArray]; exact words_cell st j hj⟩

/-- the first i words added -/
def mixW (s r : Sha.St) (i : Nat) : List Nat := (words (Sha.add s r)).take i ++ (words s).drop i
def mixCells (s r : Sha.St) (i : Nat) : Array Value := ((mixW s r i).map fun n : Nat => Value.int .u32 n).toArray
set_option maxRecDepth 100000 in
theorem mix_zero (s r : Sha.St) : mixCells s r 0 = (stCells s).toArray := rfl
set_option maxRecDepth 100000 in
theorem mix_all (s r : Sha.St) : mixCells s r 8 = (stCells (Sha.add s r)).toArray := rfl
set_option maxRecDepth 100000 in
theorem mix_get (s r : Sha.St) (i : Nat) (hi : i < 8) : (mixCells s r i)[i]? = some (.int .u32 ((words s).getD i 0 : Nat)) := by
  match i, hi with
  | 0, _ => rfl
  | 1, _ => rfl
  | 2, _ => rfl
  | 3, _ => rfl
  | 4, _ => rfl
  | 5, _ => rfl
  | 6, _ => rfl
  | 7, _ => rfl
set_option maxRecDepth 100000 in
theorem mix_set (s r : Sha.St) (i : Nat) (hi : i < 8) (V : Int) (hV : V = (((words s).getD i 0 + (words r).getD i 0) % 4294967296 : Nat)) : (mixCells s r i).setIfInBounds i (.int .u32 V) = mixCells s r (i + 1) := by
  subst hV
  match i, hi with
  | 0, _ => rfl
  | 1, _ => rfl
  | 2, _ => rfl
  | 3, _ => rfl
  | 4, _ => rfl
  | 5, _ => rfl
  | 6, _ => rfl
  | 7, _ => rfl

set_option maxRecDepth 100000 in
theorem right_q {w : World} {x0 : Ext w} (x n : Nat) (p q : Int) (hx : x < 4294967296) (h2 : n ≤ 31) (hp : p = ((2 ^ n : Nat) : Int)) (hq : q = ((2 ^ (32 - n) : Nat) : Int)) :
    Calls Tryd.prog 78 #[.int .u32 x, .int .u32 p, .int .u32 q] x0.at_ fun e w'' => e = .returned (.int .u32 (Sha.rotr n x : Nat)) ∧ ∃ y : Ext w, w'' = y.at_ :=
  Calls.ext (right_any x n p q _ hx h2 hp hq)

set_option maxRecDepth 100000 in
theorem pad_length (bs : List Nat) : (Sha.pad bs).length % 64 = 0 ∧ (Sha.pad bs).length ≤ bs.length + 72 := by
  unfold Sha.pad
  have : Sha.zerosFor bs.length = (119 - bs.length % 64) % 64 := rfl
  rw [List.length_append, List.length_cons, List.length_append, List.length_replicate, nbe_length]
  omega

set_option maxRecDepth 100000 in
theorem info_word : (Tryd.prog.info? 105).map (fun i => (i.zero, i.size, i.bytes)) = some (some (.int .u32 0), 1, 4) := by kernel_rfl

/-- a block of a text -/
def blkOf (l : List Nat) (k : Nat) : List Nat := (l.drop (64 * k)).take 64
set_option maxRecDepth 100000 in
theorem blkOf_get (l : List Nat) (k j : Nat) (hj : j < 64) : (toZ l).getD (64 * k + j) 0 = ((blkOf l k).getD j 0 : Nat) := by
  unfold blkOf toZ
  simp only [List.getD_eq_getElem?_getD, List.getElem?_map, List.getElem?_take, if_pos hj, List.getElem?_drop]
  cases l[64 * k + j]? <;> rfl
set_option maxRecDepth 100000 in
theorem blkOf_lt {l : List Nat} (hl : ∀ x ∈ l, x < 256) (k j : Nat) : (blkOf l k).getD j 0 < 256 := by
  rw [List.getD_eq_getElem?_getD]
  cases h : (blkOf l k)[j]? with
  | none => simp
  | some x =>
    have := List.mem_of_getElem? h
    exact hl x (List.mem_of_mem_drop (List.mem_of_mem_take this))

/-- the reference's memory at the head of its loop -/
structure RefW (w : World) (gk : Nat) (ap : Option Addr) (cp : Nat) (P : List Int) (st : Sha.St) (wr : World) : Prop where
  ks : Blk wr (w.heap.size + 1) (stCells st).toArray 105
  kk : Blk wr gk (wordCells 64 Sha.keys) 105
  txt : TextAt wr ap P.length cp P
  res : Blk wr w.heap.size (byteCells 32 []) 23
  bel : Below w.heap.size w wr
  gkl : w.heap.size + 2 ≤ gk
  apl : ∀ p : Addr, ap = some p → w.heap.size + 2 ≤ p.block
set_option maxRecDepth 100000 in
theorem RefW.below {w : World} {gk : Nat} {ap : Option Addr} {cp : Nat} {P : List Int} {st : Sha.St} {wr wr' : World} (h : RefW w gk ap cp P st wr) (hb : Below wr.heap.size wr wr') : RefW w gk ap cp P st wr' :=
  ⟨h.ks.below hb, h.kk.below hb, h.txt.below hb, h.res.below hb, Below.on h.bel hb, h.gkl, h.apl⟩
set_option maxRecDepth 100000 in
theorem RefW.put {w : World} {gk : Nat} {ap : Option Addr} {cp : Nat} {P : List Int} {st st' : Sha.St} {wr wr' : World} (h : RefW w gk ap cp P st wr) (hb : But (w.heap.size + 1) wr wr') (hk : Blk wr' (w.heap.size + 1) (stCells st').toArray 105) : RefW w gk ap cp P st' wr' :=
  ⟨hk, hb.blk h.kk (by have := h.gkl; omega), h.txt.but hb (fun _ p hp => by have := h.apl p hp; omega), hb.blk h.res (by omega), hb.below h.bel h.bel.size (by omega), h.gkl, h.apl⟩

/-- what a round reads -/
structure RndW (wd : World) (g : Nat) (cur : Array Value) (gw : Nat) (WS : List Nat) (gk : Nat) : Prop where
  v : Blk wd g cur 105
  w : Blk wd gw (wordCells 64 WS) 105
  k : Blk wd gk (wordCells 64 Sha.keys) 105
set_option maxRecDepth 100000 in
theorem RndW.below {w w' : World} {g : Nat} {cur : Array Value} {gw : Nat} {WS : List Nat} {gk : Nat} (h : RndW w g cur gw WS gk) (hb : Below w.heap.size w w') : RndW w' g cur gw WS gk := ⟨h.v.below hb, h.w.below hb, h.k.below hb⟩
end Go.Proofs.YthaicocfbmpnmaaDoor
