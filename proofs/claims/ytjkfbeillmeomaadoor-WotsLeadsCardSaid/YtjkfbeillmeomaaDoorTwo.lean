/-
  Functions that answer two digests; texts that are handed back; a store in a region that draws its order.
-/
import Derived.Test.YtjkfbeillmeomaaDoorMKeyedRef
import Derived.Test.YtjkfbeillmeomaaDoorNDigs
namespace Go.Proofs.YtjkfbeillmeomaaDoor
open Go.ChangeShapes Go.WideShapes Go.ChangeAt Go.RowKit

/-- what functions that answer two digests hand back, and a value more -/
theorem results_blk2_tmp {P : Program} {w : World} {fn : Func} {p q u : Tmp} {ty : TypeId} (h : fn.results = #[.cell p ty, .cell q ty, .tmp u]) (tmps : Array Value) (b c : Nat) (hp : tmps.getD p undef = .pointer (some ⟨b, 0, none⟩)) (hq : tmps.getD q undef = .pointer (some ⟨c, 0, none⟩)) (v : Value) (hv : tmps.getD u undef = v) (cs ds : Array Value) (T : TypeId) (hk : Blk w b cs T) (hk2 : Blk w c ds T)
    (d : TypeDesc) (hu : P.underlying ty = some d) (hd : d.isRow = true) (n : Nat) (hi : (P.info? ty).map (·.size) = some n) (hs : cs.size = n) (hs2 : ds.size = n) : (results fn tmps).run P w = .ok (.tuple #[.agg cs, .agg ds, v]) w := by
  have hp' : tmps[p]?.getD undef = .pointer (some ⟨b, 0, none⟩) := by simpa using hp
  have hq' : tmps[q]?.getD undef = .pointer (some ⟨c, 0, none⟩) := by simpa using hq
  have hv' : tmps[u]?.getD undef = v := by simpa using hv
  have hl := run_loadVar_row (P := P) w b T ty cs (0, 0) d hk hu (by cases d <;> simp_all) (by rw [hi, hs])
  have hl2 := run_loadVar_row (P := P) w c T ty ds (0, 0) d hk2 hu (by cases d <;> simp_all) (by rw [hi, hs2])
  simp [results, h, hp', hq', hv', asAddr, hl, hl2]
theorem results_blk2 {P : Program} {w : World} {fn : Func} {p q : Tmp} {ty : TypeId} (h : fn.results = #[.cell p ty, .cell q ty]) (tmps : Array Value) (b c : Nat) (hp : tmps.getD p undef = .pointer (some ⟨b, 0, none⟩)) (hq : tmps.getD q undef = .pointer (some ⟨c, 0, none⟩)) (cs ds : Array Value) (T : TypeId) (hk : Blk w b cs T) (hk2 : Blk w c ds T)
    (d : TypeDesc) (hu : P.underlying ty = some d) (hd : d.isRow = true) (n : Nat) (hi : (P.info? ty).map (·.size) = some n) (hs : cs.size = n) (hs2 : ds.size = n) : (results fn tmps).run P w = .ok (.tuple #[.agg cs, .agg ds]) w := by
  have hp' : tmps[p]?.getD undef = .pointer (some ⟨b, 0, none⟩) := by simpa using hp
  have hq' : tmps[q]?.getD undef = .pointer (some ⟨c, 0, none⟩) := by simpa using hq
  have hl := run_loadVar_row (P := P) w b T ty cs (0, 0) d hk hu (by cases d <;> simp_all) (by rw [hi, hs])
  have hl2 := run_loadVar_row (P := P) w c T ty ds (0, 0) d hk2 hu (by cases d <;> simp_all) (by rw [hi, hs2])
  simp [results, h, hp', hq', asAddr, hl, hl2]

/-- a text that a function hands back -/
def TextV (t : List Int) (v : Value) (w : World) : Prop := ∃ a n c, v = .slice a n c ∧ TextAt w a n c t
theorem TextV.below {t : List Int} {v : Value} {w w' : World} (h : TextV t v w) (hb : Below w.heap.size w w') : TextV t v w' := by
  obtain ⟨a, n, c, h1, h2⟩ := h
  exact ⟨a, n, c, h1, h2.below hb⟩
theorem TextV.text {t : List Int} {a : Option Addr} {n c : Nat} {w : World} (h : TextV t (.slice a n c) w) : TextAt w a n c t := by
  obtain ⟨a', n', c', h1, h2⟩ := h
  injection h1 with e1 e2 e3
  subst e1 e2 e3
  exact h2
theorem TextV.of_own {w : World} {base : Nat} {e : TypeId} {v : Value} {bs : List Int} (h : OwnB w base e v bs) : TextV bs v w := by
  obtain ⟨a, c, h1, h2, _⟩ := h.text
  exact ⟨a, _, c, h1, h2⟩

namespace FlowB
theorem store_skips {P : Program} {o : Oper} {A : Act} {w : World} (ty : TypeId) (x y : Operand) (ho : o.op = .store ty x y) (b : Nat) (cells : Array Value) (hx : A.eval x = .pointer (some ⟨b, 0, none⟩)) (hy : A.eval y = .agg cells)
    (cs : Array Value) (T : TypeId) (hk : Blk w b cs T) (n : Nat) (hi : (P.info? ty).map (·.size) = some n) (hs : cs.size = n) (hn : cells.size = n) (h1 : cells.all (·.oneCell') = true) {S : List Nat} {G : World → Prop} (hb : b ∈ S) (hG : ∀ w2, But b w w2 → Blk w2 b cells T → G w2) :
    ∃ w2, (execOp A.eval o).run P w = .ok .skip w2 ∧ ButIn S w w2 ∧ G w2 := by
  obtain ⟨w2, q1, q2, q3⟩ := exec_store_blk ty x y ho b cells hx hy cs T hk n hi hs hn h1
  exact ⟨w2, q1, ButIn.of_but q2 hb, hG w2 q2 q3⟩
end FlowB
end Go.Proofs.YtjkfbeillmeomaaDoor
