/-
  Numbers as bytes: plain facts; and rows of bytes in memory.
-/
import Derived.Test.YtkiaeepdpmcafaaDoorArr
import Derived.Laws.BytesArg
namespace Go.Proofs.YtkiaeepdpmcafaaDoor
open Go.RowKit

/-- the k bytes of a number, the highest first -/
def be : Nat → Int → List Int
  | 0, _ => []
  | k + 1, n => be k (n / 256) ++ [n % 256]

theorem be_length : ∀ (k : Nat) (n : Int), (be k n).length = k
  | 0, _ => rfl
  | k + 1, n => by simp [be, be_length k]
theorem be_zero : ∀ k : Nat, be k 0 = List.replicate k 0
  | 0 => rfl
  | k + 1 => by rw [be, Int.zero_ediv, be_zero k, Int.zero_emod, ← List.replicate_succ']
theorem be_small : ∀ (k : Nat) (n : Int), ∀ x ∈ be k n, 0 ≤ x ∧ x < 256
  | 0, _ => by simp [be]
  | k + 1, n => by
    intro x hx
    simp only [be, List.mem_append, List.mem_cons, List.not_mem_nil, or_false] at hx
    rcases hx with h | rfl
    · exact be_small k _ x h
    · omega
/-- the next byte ahead of those that are there -/
theorem be_front : ∀ (j : Nat) (n : Int), be (j + 1) n = (n / (256 : Int) ^ j % 256) :: be j n
  | 0, n => by simp [be]
  | j + 1, n => by
    rw [be, be_front j (n / 256)]
    have : n / 256 / (256 : Int) ^ j = n / (256 : Int) ^ (j + 1) := by
      rw [Int.ediv_ediv_of_nonneg (by omega), Int.pow_succ, Int.mul_comm]
    rw [this]
    simp [be]

theorem replicate_set (m : Nat) (l : List Int) (x : Int) : (List.replicate (m + 1) 0 ++ l).set m x = List.replicate m 0 ++ (x :: l) := by
  rw [List.replicate_succ', List.append_assoc, List.set_append_right _ _ (by simp)]
  simp

/-- the number that bytes are -/
def numOf (bs : List Int) : Int := bs.foldl (fun n x => 256 * n + x) 0
theorem numOf_snoc (bs : List Int) (x : Int) : numOf (bs ++ [x]) = 256 * numOf bs + x := by simp [numOf]
theorem numOf_be : ∀ (k : Nat) (n : Int), numOf (be k n) = n % (256 : Int) ^ k
  | 0, n => by simp [be, numOf, Int.emod_one]
  | k + 1, n => by
    rw [be, numOf_snoc, numOf_be k]
    rw [Int.pow_succ]
    generalize (256 : Int) ^ k = p
    have h1 := Int.mul_ediv_add_emod n (p * 256)
    have h2 := Int.mul_ediv_add_emod (n / 256) p
    have h3 : n / 256 / p = n / (p * 256) := by rw [Int.ediv_ediv_of_nonneg (by omega), Int.mul_comm]
    rw [h3] at h2
    rw [Int.mul_assoc, Int.mul_left_comm] at h1
    omega

/-- Block g begins with these bytes. -/
def Row8 (w : World) (g : Nat) (bs : List Int) : Prop := ∃ cs T, Blk w g cs T ∧ ∀ i, i < bs.length → cs[i]? = some (.int .u8 (bs.getD i 0))

theorem Row8.below {w w' : World} {g : Nat} {bs : List Int} (h : Row8 w g bs) (hb : Below w.heap.size w w') : Row8 w' g bs := by
  obtain ⟨cs, T, hk, hc⟩ := h
  exact ⟨cs, T, hk.below hb, hc⟩
theorem Row8.old {w : World} {g : Nat} {bs : List Int} (h : Row8 w g bs) (o : Obj) : Row8 (w.alloc o) g bs := by
  obtain ⟨cs, T, hk, hc⟩ := h
  exact ⟨cs, T, hk.old o, hc⟩
theorem Row8.cell {w : World} {g : Nat} {bs : List Int} (h : Row8 w g bs) (i : Nat) (hi : i < bs.length) : w.cell? ⟨g, i, none⟩ = some (.int .u8 (bs.getD i 0)) := by
  obtain ⟨cs, T, hk, hc⟩ := h
  rw [hk.cell]; exact hc i hi
theorem Row8.of_blk {w : World} {g : Nat} {bs : List Int} {T : TypeId} (h : Blk w g (bs.map (Value.int .u8)).toArray T) : Row8 w g bs :=
  ⟨_, T, h, fun i hi => by simp [hi]⟩
theorem Row8.of_owns {w : World} {base e g n cap : Nat} {bs : List Int} (h : w.ownsRow base e 1 (.slice (some ⟨g, 0, none⟩) n cap) n (bs.map (Value.int .u8))) : base ≤ g ∧ Row8 w g bs := by
  obtain ⟨hl, h | ⟨g', cap', cur, hv, hg, hh, _, _, hs, htk⟩⟩ := h
  · simp at h
  · simp only [Value.slice.injEq, Option.some.injEq, Addr.mk.injEq, true_and, and_true] at hv
    obtain ⟨rfl, rfl⟩ := hv
    refine ⟨hg, cur, e, hh, fun i hi => ?_⟩
    have h1 : (List.map (Value.int .u8) bs)[i]? = some (.int .u8 (bs.getD i 0)) := by simp [hi]
    simp only [List.length_map] at hl
    rw [← htk, List.getElem?_take, if_pos (by omega)] at h1
    simpa using h1

/-- The string that such bytes make. -/
theorem Row8.string {P : Program} {w : World} {g cap : Nat} {bs : List Int} {src dst e : TypeId} (h : Row8 w g bs) (hs : P.underlying src = some (.slice e)) (he : P.underlying e = some (.int .u8)) (hd : P.underlying dst = some .string) :
    (convert src dst (.slice (some ⟨g, 0, none⟩) bs.length cap)).run P w = .ok (.string (strOfNums bs)) w :=
  run_convert_bytes_arg w src e hs he g 0 bs.length cap bs rfl (fun i hi => by rw [Nat.zero_add]; exact h.cell i hi) dst hd

end Go.Proofs.YtkiaeepdpmcafaaDoor
