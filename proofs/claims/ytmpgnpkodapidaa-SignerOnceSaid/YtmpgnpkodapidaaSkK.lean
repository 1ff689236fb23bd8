/-
  Layer 13: a row of deeds, as it comes in.
-/
import Derived.Test.YtmpgnpkodapidaaSkJ
import Derived.Deep.Slices
namespace Go.Proofs.Ytmpgnpkodapidaa
open Go.ChangeShapes Go.WideShapes Go.ChangeAt Go.RowKit

structure D13 where
  b : List Int
  crash : Bool
  after : Int
  keep : List Int
  again : Bool
def z13 : D13 := ⟨[], false, 0, [], false⟩
/-- A deed, in memory: its five cells. -/
structure DeedAt (w : World) (x o : Nat) (d : D13) (ba : Option Addr) (bc : Nat) (ka : Option Addr) (kc : Nat) : Prop where
  cells : w.rangeAt x o [.slice ba d.b.length bc, .bool d.crash, .int .i64 d.after, .slice ka d.keep.length kc, .bool d.again]
  text : TextAt w ba d.b.length bc d.b
  ints : IntsAt w [] ka d.keep
  none_ : ka = none → d.keep = [] ∧ kc = 0
  wide : ∀ k ∈ d.keep, -9223372036854775808 ≤ k ∧ k ≤ 9223372036854775807
  num : -9223372036854775808 ≤ d.after ∧ d.after ≤ 9223372036854775807
structure DeedsAt (w : World) (a : Option Addr) (len cap : Nat) (ds : List D13) : Prop where
  length : ds.length = len
  le : len ≤ cap
  mem : len = 0 ∨ ∃ x o, a = some ⟨x, o, none⟩ ∧ x < w.heap.size ∧ ∀ j, j < len → ∃ ba bc ka kc, DeedAt w x (o + j * 5) (ds.getD j z13) ba bc ka kc

theorem text_cells {H : Type} {enc : TypeId × Value → H} {W : World} {fuel : Nat} {cs : List Value} {x : DataW H × List MemPlace} (hf : DataW.trod enc Try.prog W 0 (fun _ => true) true fuel 31 cs = some x) :
    ∃ (a : Option Addr) (len cap : Nat) (bs : List Int), cs = [.slice a len cap] ∧ TextAt W a len cap bs := by
  rcases open_ints Try.underlying31 Try.underlying5 (by kernel_rfl) hf with ⟨rfl, _⟩ | ⟨x, l, c, zs, rfl, _, hl, hm, hz, hd, hcell, hwz⟩
  · exact ⟨none, 0, 0, [], rfl, TextAt.nil⟩
  · obtain ⟨b, off, s⟩ := x
    have hz' : zs.length = c := by simpa using hz
    refine ⟨_, l, c, zs.take l, rfl, ⟨by simp; omega, hl, by unfold maxLen at hm; omega, fun z hz => wf_u8 (hwz z (List.mem_of_mem_take hz)), .inr ⟨b, off, s, rfl, fun i hi => ?_⟩⟩⟩
    have h0 := hcell i (by omega)
    have hs : s = none := by
      have h00 := hcell 0 (by omega)
      have := World.cell?_spot h00
      simpa [Addr.add] using this
    subst hs
    rw [Addr.add_mid] at h0
    refine ⟨rfl, World.block_lt_of_cell? W _ h0, ?_⟩
    rw [h0]
    simp [hi]
theorem ints_cells {H : Type} {enc : TypeId × Value → H} {W : World} {fuel : Nat} {cs : List Value} {x : DataW H × List MemPlace} (hf : DataW.trod enc Try.prog W 0 (fun _ => true) true fuel 32 cs = some x) :
    ∃ (a : Option Addr) (cap : Nat) (ks : List Int), cs = [.slice a ks.length cap] ∧ IntsAt W [] a ks ∧ (a = none → ks = [] ∧ cap = 0) ∧ ∀ k ∈ ks, -9223372036854775808 ≤ k ∧ k ≤ 9223372036854775807 := by
  rcases open_ints Try.underlying32 Try.underlying3 (by kernel_rfl) hf with ⟨rfl, _⟩ | ⟨x, l, c, zs, rfl, _, hl, hm, hz, hd, hcell, hwz⟩
  · exact ⟨none, 0, [], rfl, ⟨.inl rfl⟩, fun _ => ⟨rfl, rfl⟩, fun k hk => by cases hk⟩
  · obtain ⟨b, off, s⟩ := x
    have hz' : zs.length = c := by simpa using hz
    have hlen : (zs.take l).length = l := by rw [List.length_take]; omega
    refine ⟨some ⟨b, off, s⟩, c, zs.take l, by rw [hlen], ⟨?_⟩, fun h => by simp at h, fun z hz => ?_⟩
    · by_cases h0 : l = 0
      · exact .inl (by omega)
      have h00 := hcell 0 (by omega)
      have hs : s = none := by
        have := World.cell?_spot h00
        simpa [Addr.add] using this
      subst hs
      rw [Addr.add_mid] at h00
      refine .inr ⟨b, off, rfl, by simp, World.block_lt_of_cell? W _ h00, fun j hj => ?_⟩
      have h1 := hcell j (by omega)
      rw [Addr.add_mid] at h1
      rw [h1]
      simp [show j < l by omega]
    · have := wf_i64 (hwz z (List.mem_of_mem_take hz))
      omega
set_option maxHeartbeats 4000000 in
set_option maxRecDepth 100000 in
theorem deed_cells {H : Type} {enc : TypeId × Value → H} {W : World} {fuel : Nat} {cs : List Value} {x : DataW H × List MemPlace} (hf : DataW.trod enc Try.prog W 0 (fun _ => true) true fuel 51 cs = some x) :
    ∃ (d : D13) (ba : Option Addr) (bc : Nat) (ka : Option Addr) (kc : Nat), cs = [.slice ba d.b.length bc, .bool d.crash, .int .i64 d.after, .slice ka d.keep.length kc, .bool d.again] ∧ TextAt W ba d.b.length bc d.b ∧ IntsAt W [] ka d.keep ∧ (ka = none → d.keep = [] ∧ kc = 0) ∧ (∀ k ∈ d.keep, -9223372036854775808 ≤ k ∧ k ≤ 9223372036854775807) ∧ -9223372036854775808 ≤ d.after ∧ d.after ≤ 9223372036854775807 := by
  obtain ⟨f0, f1, f2, f3, f4, hu, t0, t1, t2, t3, t4, o0, o1, o2, o3, o4⟩ : ∃ f0 f1 f2 f3 f4 : Field, Try.prog.underlying 51 = some (.struct #[f0, f1, f2, f3, f4]) ∧ f0.type = 31 ∧ f1.type = 4 ∧ f2.type = 3 ∧ f3.type = 32 ∧ f4.type = 4 ∧ f0.offset = 0 ∧ f1.offset = 1 ∧ f2.offset = 2 ∧ f3.offset = 3 ∧ f4.offset = 4 := ⟨_, _, _, _, _, Try.underlying51, rfl, rfl, rfl, rfl, rfl, rfl, rfl, rfl, rfl, rfl⟩
  have c5 : Try.prog.cellsOf 51 = 5 := by kernel_rfl
  have cb : Try.prog.cellsOf 31 = 1 := by kernel_rfl
  have cq : Try.prog.cellsOf 4 = 1 := by kernel_rfl
  have ci : Try.prog.cellsOf 3 = 1 := by kernel_rfl
  have ck : Try.prog.cellsOf 32 = 1 := by kernel_rfl
  obtain ⟨xs, n, -, -, hl, hx, hg⟩ := DataW.trod_struct hu hf
  rw [c5] at hl
  match cs, hl with
  | [v0, v1, v2, v3, v4], _ =>
    match xs, hx with
    | [y0, y1, y2, y3, y4], _ =>
      have g0 := hg 0 f0 rfl
      have g1 := hg 1 f1 rfl
      have g2 := hg 2 f2 rfl
      have g3 := hg 3 f3 rfl
      have g4 := hg 4 f4 rfl
      rw [t0, o0, cb] at g0
      rw [t1, o1, cq] at g1
      rw [t2, o2, ci] at g2
      rw [t3, o3, ck] at g3
      rw [t4, o4, cq] at g4
      obtain ⟨ba, bn, bc, bs, e0, k0⟩ := text_cells (show _ = some y0 from g0)
      obtain ⟨q1, e1, -⟩ := DataW.trod_bool Try.underlying4 (show _ = some y1 from g1)
      obtain ⟨q2, e2, -, w2⟩ := DataW.trod_int Try.underlying3 (show _ = some y2 from g2)
      obtain ⟨ka, kc, ks, e3, k3, n3, m3⟩ := ints_cells (show _ = some y3 from g3)
      obtain ⟨q4, e4, -⟩ := DataW.trod_bool Try.underlying4 (show _ = some y4 from g4)
      obtain rfl := k0.length
      have w2 := wf_i64 w2
      refine ⟨⟨bs, q1, q2, ks, q4⟩, ba, bc, ka, kc, ?_, k0, k3, n3, m3, w2.1, by show q2 ≤ _; omega⟩
      simp at e0 e1 e2 e3 e4
      simp [e0, e1, e2, e3, e4]
set_option maxHeartbeats 4000000 in
set_option maxRecDepth 100000 in
theorem open_deeds {H : Type} {enc : TypeId × Value → H} {W : World} {base : Nat} {v : Value} {d : DataW H} {p : List MemPlace} (hv : Value.okWide Try.prog W .any base 46 v) (h : DataW.Trod enc Try.prog W 0 (fun _ => true) true 46 v d p) :
    ∃ (a : Option Addr) (len cap : Nat) (ds : List D13), v = .slice a len cap ∧ cap ≤ 9223372036854775807 ∧ DeedsAt W a len cap ds := by
  have ce : Try.prog.cellsOf 51 = 5 := by kernel_rfl
  obtain ⟨a, len, cap, rfl⟩ := okWide_slice Try.underlying46 hv
  obtain ⟨fuel, hf⟩ := h
  rcases Go.Deep.open_slice Try.underlying46 hf with ⟨hcs, _⟩ | ⟨x, l, c, m, n, D, Pl, hcs, _, hl, hm, hmm, _, hall⟩
  · simp [Value.cells] at hcs
    obtain ⟨rfl, rfl, rfl⟩ := hcs
    exact ⟨none, 0, 0, [], rfl, by omega, ⟨rfl, Nat.le_refl _, .inl rfl⟩⟩
  · simp [Value.cells] at hcs
    obtain ⟨rfl, rfl, rfl⟩ := hcs
    obtain ⟨b, off, s⟩ := x
    simp only [if_true] at hmm
    have hall' : ∀ i, i < cap → ∃ (d : D13) (ba : Option Addr) (bc : Nat) (ka : Option Addr) (kc : Nat), W.cells? 0 ((⟨b, off, s⟩ : Addr).add (i * 5)) 5 = some [.slice ba d.b.length bc, .bool d.crash, .int .i64 d.after, .slice ka d.keep.length kc, .bool d.again] ∧ TextAt W ba d.b.length bc d.b ∧ IntsAt W [] ka d.keep ∧ (ka = none → d.keep = [] ∧ kc = 0) ∧ (∀ k ∈ d.keep, -9223372036854775808 ≤ k ∧ k ≤ 9223372036854775807) ∧ -9223372036854775808 ≤ d.after ∧ d.after ≤ 9223372036854775807 := fun i hi => by
      obtain ⟨cs', h1, h2⟩ := hall i (by omega)
      rw [ce] at h1
      obtain ⟨y, ba, bc, ka, kc, rfl, h3⟩ := deed_cells h2
      exact ⟨y, ba, bc, ka, kc, h1, h3⟩
    let f : Nat → D13 := fun i => if h : i < cap then Classical.choose (hall' i h) else z13
    have hf : ∀ i, i < cap → ∃ (ba : Option Addr) (bc : Nat) (ka : Option Addr) (kc : Nat), W.cells? 0 ((⟨b, off, s⟩ : Addr).add (i * 5)) 5 = some [.slice ba (f i).b.length bc, .bool (f i).crash, .int .i64 (f i).after, .slice ka (f i).keep.length kc, .bool (f i).again] ∧ TextAt W ba (f i).b.length bc (f i).b ∧ IntsAt W [] ka (f i).keep ∧ (ka = none → (f i).keep = [] ∧ kc = 0) ∧ (∀ k ∈ (f i).keep, -9223372036854775808 ≤ k ∧ k ≤ 9223372036854775807) ∧ -9223372036854775808 ≤ (f i).after ∧ (f i).after ≤ 9223372036854775807 := fun i hi => by
      simp only [f, hi, dif_pos]
      exact Classical.choose_spec (hall' i hi)
    refine ⟨_, len, cap, (List.range len).map f, rfl, by unfold maxLen at hm; omega, ⟨by simp, hl, ?_⟩⟩
    by_cases hz : len = 0
    · exact .inl hz
    obtain ⟨ba0, bc0, ka0, kc0, h0, -⟩ := hf 0 (by omega)
    have h0 := (World.cells?_some h0).2.2 0 (by omega)
    have hs : s = none := by
      have := World.cell?_spot h0
      simpa [Addr.add] using this
    subst hs
    have hx : b < W.heap.size := by
      rw [Addr.add_mid, Addr.add_mid] at h0
      exact World.block_lt_of_cell? W _ h0
    refine .inr ⟨b, off, rfl, hx, fun i hi => ?_⟩
    obtain ⟨ba, bc, ka, kc, h1, h2, h3, h4, h5, h6⟩ := hf i (by omega)
    have e : ((List.range len).map f).getD i z13 = f i := by simp [hi]
    rw [e]
    refine ⟨ba, bc, ka, kc, ⟨fun k v hv => ?_, h2, h3, h4, h5, h6⟩⟩
    have hc := (World.cells?_some h1).2.2
    have hk : k < 5 := (List.getElem?_eq_some_iff.1 hv).1
    have := hc k hk
    rw [Addr.add_mid, Addr.add_mid] at this
    rw [this]
    exact hv
end Go.Proofs.Ytmpgnpkodapidaa
