/-
  Facts for planchetref01.Sum's loops: the state in a slice of the call's own; word by word added.
-/
import Derived.Test.YtkiaeepdpmcafaaDoorShaRef
namespace Go.Proofs.YtkiaeepdpmcafaaDoor
open Go.ChangeShapes Go.WideShapes Go.ChangeAt Go.RowKit

/-- a slice whose first eight cells are a state -/
def VAt (w : World) (B : Nat) (v : Value) (st : Sha.St) : Prop := ∃ g cap cur, v = .slice (some ⟨g, 0, none⟩) 8 cap ∧ B ≤ g ∧ 8 ≤ cap ∧ cap ≤ 9223372036854775807 ∧ Blk w g cur 43 ∧ ∀ j, j < 8 → cur[j]? = some (.int .u32 ((words st).getD j 0 : Nat))
theorem words_cell (st : Sha.St) (j : Nat) (hj : j < 8) : (stCells st)[j]? = some (.int .u32 ((words st).getD j 0 : Nat)) := by
  have hl : j < (words st).length := hj
  rw [stCells_words, List.getElem?_map, List.getD_eq_getElem?_getD, List.getElem?_eq_getElem hl]
  rfl
theorem VAt.of_owns {w : World} {B : Nat} {v : Value} {st : Sha.St} (h : w.ownsRow B 43 1 v 8 (stCells st)) : VAt w B v st := by
  obtain ⟨_, ⟨_, h⟩ | ⟨g, cap, cur, rfl, hg, hh, hle, hmx, _, htk⟩⟩ := h
  · omega
  · refine ⟨g, cap, cur, rfl, hg, hle, by unfold maxLen at hmx; omega, hh, fun j hj => ?_⟩
    rw [← words_cell st j hj, ← htk, List.getElem?_take, if_pos (by omega)]
    simp
theorem VAt.below {w w' : World} {B : Nat} {v : Value} {st : Sha.St} (h : VAt w B v st) (hb : Below w.heap.size w w') : VAt w' B v st := by
  obtain ⟨g, cap, cur, rfl, h1, h2, h3, h4, h5⟩ := h
  exact ⟨g, cap, cur, rfl, h1, h2, h3, h4.below hb, h5⟩
theorem VAt.new {w : World} {B : Nat} (st : Sha.St) (hB : B ≤ w.heap.size) : VAt (w.alloc (.cells (stCells st).toArray 43)) B (.slice (some ⟨w.heap.size, 0, none⟩) 8 8) st :=
  ⟨_, 8, _, rfl, hB, Nat.le_refl _, by omega, Blk.new rfl _ _, fun j hj => by rw [List.getElem?_toArray]; exact words_cell st j hj⟩

/-- the first i words added -/
def mixW (s r : Sha.St) (i : Nat) : List Nat := (words (Sha.add s r)).take i ++ (words s).drop i
def mixCells (s r : Sha.St) (i : Nat) : Array Value := ((mixW s r i).map fun n : Nat => Value.int .u32 n).toArray
theorem mix_zero (s r : Sha.St) : mixCells s r 0 = (stCells s).toArray := rfl
theorem mix_all (s r : Sha.St) : mixCells s r 8 = (stCells (Sha.add s r)).toArray := rfl
theorem mix_get (s r : Sha.St) (i : Nat) (hi : i < 8) : (mixCells s r i)[i]? = some (.int .u32 ((words s).getD i 0 : Nat)) := by
  match i, hi with
  | 0, _ => rfl
  | 1, _ => rfl
  | 2, _ => rfl
  | 3, _ => rfl
  | 4, _ => rfl
  | 5, _ => rfl
  | 6, _ => rfl
  | 7, _ => rfl
theorem mix_set (s r : Sha.St) (i : Nat) (hi : i < 8) (V : Int) (hV : V = (((words s).getD i 0 + (words r).getD i 0) % 4294967296 : Nat)) : (mixCells s r i).setIfInBounds i (.int .u32 V) = mixCells s r (i + 1) := by
  subst hV
  match i, hi with
  | 0, _ => rfl
  | 1, _ => rfl
  | 2, _ => rfl
  | 3, _ => rfl
  | 4, _ => rfl
  | 5, _ => rfl
  | 6, _ => rfl
  | 7, _ => rfl

theorem right_q {w : World} {x0 : Ext w} (x n : Nat) (p q : Int) (hx : x < 4294967296) (h2 : n ≤ 31) (hp : p = ((2 ^ n : Nat) : Int)) (hq : q = ((2 ^ (32 - n) : Nat) : Int)) :
    Calls Tryd.prog 45 #[.int .u32 x, .int .u32 p, .int .u32 q] x0.at_ fun e w'' => e = .returned (.int .u32 (Sha.rotr n x : Nat)) ∧ ∃ y : Ext w, w'' = y.at_ :=
  Calls.ext (right_any x n p q _ hx h2 hp hq)

theorem pad_length (bs : List Nat) : (Sha.pad bs).length % 64 = 0 ∧ (Sha.pad bs).length ≤ bs.length + 72 := by
  unfold Sha.pad
  have : Sha.zerosFor bs.length = (119 - bs.length % 64) % 64 := rfl
  rw [List.length_append, List.length_cons, List.length_append, List.length_replicate, nbe_length]
  omega

theorem info_word : (Tryd.prog.info? 43).map (fun i => (i.zero, i.size, i.bytes)) = some (some (.int .u32 0), 1, 4) := by kernel_rfl

/-- a block of a text -/
def blkOf (l : List Nat) (k : Nat) : List Nat := (l.drop (64 * k)).take 64
theorem blkOf_get (l : List Nat) (k j : Nat) (hj : j < 64) : (toZ l).getD (64 * k + j) 0 = ((blkOf l k).getD j 0 : Nat) := by
  unfold blkOf toZ
  simp only [List.getD_eq_getElem?_getD, List.getElem?_map, List.getElem?_take, if_pos hj, List.getElem?_drop]
  cases l[64 * k + j]? <;> rfl
theorem blkOf_lt {l : List Nat} (hl : ∀ x ∈ l, x < 256) (k j : Nat) : (blkOf l k).getD j 0 < 256 := by
  rw [List.getD_eq_getElem?_getD]
  cases h : (blkOf l k)[j]? with
  | none => simp
  | some x =>
    have := List.mem_of_getElem? h
    exact hl x (List.mem_of_mem_drop (List.mem_of_mem_take this))

/-- the reference's memory at the head of its loop -/
structure RefW (w : World) (gk : Nat) (ap : Option Addr) (cp : Nat) (P : List Int) (st : Sha.St) (wr : World) : Prop where
  ks : Blk wr (w.heap.size + 1) (stCells st).toArray 43
  kk : Blk wr gk (wordCells 64 Sha.keys) 43
  txt : TextAt wr ap P.length cp P
  res : Blk wr w.heap.size (byteCells 32 []) 26
  bel : Below w.heap.size w wr
  gkl : w.heap.size + 2 ≤ gk
  apl : ∀ p : Addr, ap = some p → w.heap.size + 2 ≤ p.block
theorem RefW.below {w : World} {gk : Nat} {ap : Option Addr} {cp : Nat} {P : List Int} {st : Sha.St} {wr wr' : World} (h : RefW w gk ap cp P st wr) (hb : Below wr.heap.size wr wr') : RefW w gk ap cp P st wr' :=
  ⟨h.ks.below hb, h.kk.below hb, h.txt.below hb, h.res.below hb, Below.on h.bel hb, h.gkl, h.apl⟩
theorem RefW.put {w : World} {gk : Nat} {ap : Option Addr} {cp : Nat} {P : List Int} {st st' : Sha.St} {wr wr' : World} (h : RefW w gk ap cp P st wr) (hb : But (w.heap.size + 1) wr wr') (hk : Blk wr' (w.heap.size + 1) (stCells st').toArray 43) : RefW w gk ap cp P st' wr' :=
  ⟨hk, hb.blk h.kk (by have := h.gkl; omega), h.txt.but hb (fun _ p hp => by have := h.apl p hp; omega), hb.blk h.res (by omega), hb.below h.bel h.bel.size (by omega), h.gkl, h.apl⟩

/-- what a round reads -/
structure RndW (wd : World) (g : Nat) (cur : Array Value) (gw : Nat) (WS : List Nat) (gk : Nat) : Prop where
  v : Blk wd g cur 43
  w : Blk wd gw (wordCells 64 WS) 43
  k : Blk wd gk (wordCells 64 Sha.keys) 43
theorem RndW.below {w w' : World} {g : Nat} {cur : Array Value} {gw : Nat} {WS : List Nat} {gk : Nat} (h : RndW w g cur gw WS gk) (hb : Below w.heap.size w w') : RndW w' g cur gw WS gk := ⟨h.v.below hb, h.w.below hb, h.k.below hb⟩
end Go.Proofs.YtkiaeepdpmcafaaDoor
